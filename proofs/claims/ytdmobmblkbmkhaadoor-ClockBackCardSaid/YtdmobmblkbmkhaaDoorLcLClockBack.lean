/-
  ClockBack (longcaselaw03): for every input it answers true, and its arguments read as before; the listed tables as the program lays them. No condition.
-/
import Derived.Test.YtdmobmblkbmkhaaDoorLcShown3
import Derived.Test.YtdmobmblkbmkhaaDoorLcPrm
import Derived.Test.YtdmobmblkbmkhaaDoorTie
import Derived.Test.YtdmobmblkbmkhaaDoorCards
import Derived.WalkKit
import Derived.ProofKit
import Derived.OpenShut
import Derived.LaidMore
import Derived.Stop.Joined
import Derived.SevenTiedAt
namespace Go.Proofs.YtdmobmblkbmkhaaDoor.clockBack
open Go.ChangeShapes Go.WideShapes Go.ChangeAt Go.RowKit Lc
set_option linter.unusedVariables false

theorem own : ownKnob Tryd.prog.godebug = none := by kernel_rfl

set_option maxHeartbeats 4000000 in
set_option maxRecDepth 100000 in
theorem walk (a0 : Int) (a1y a1m a1d a1h a1i a1s : Int) (w0 : (Lit.int .i64 a0).wf = true) (w1y : (Lit.int .i64 a1y).wf = true) (w1m : (Lit.int .i64 a1m).wf = true) (w1d : (Lit.int .i64 a1d).wf = true) (w1h : (Lit.int .i64 a1h).wf = true) (w1i : (Lit.int .i64 a1i).wf = true) (w1s : (Lit.int .i64 a1s).wf = true) (w : World) (T : Tabs w) :
    Calls Tryd.prog 4 #[.int .i64 a0, .agg #[.int .i64 a1y, .int .i64 a1m, .int .i64 a1d, .int .i64 a1h, .int .i64 a1i, .int .i64 a1s]] w fun e w' => e = .returned (.bool true) ∧ Up w w' := by
  have RT : ∀ w, Tabs w → _ := fun w T => clockRight_any a1y a1m a1d a1h a1i a1s w T
  have t := Lib.hid T; clear T
  rcases of_ex a0 with h | ⟨dy, dm, dd, dh, di, ds, hr, hs⟩
  · have ON := fun w => of_no a0 w (fit_wf w0) h
    clear h
    cases r : rightC a1y a1m a1d a1h a1i a1s
    · rw [r] at RT
      clear r
      go_enter Tryd.func4, Tryd.ntmps4
      go_wp2_with fail
      refine (shown_any _ (t.out.up ((Up.refl _).alloc' _))).mono ?_; rintro e w1 ⟨rfl, u1⟩
      have b_c := Lib.hid ((Box.new w a1y a1m a1d a1h a1i a1s 23).up u1)
      have u := Lib.hid (((Up.refl _).alloc' _).trans u1)
      clear u1
      go_wp2_with fail
      refine (ON _).mono ?_; rintro e w2 ⟨rfl, u2⟩
      replace b_c := Lib.hid (b_c.out.up u2)
      replace u := Lib.hid (u.out.trans u2)
      clear u2
      obtain ⟨c0, c1, c2, c3, c4, c5⟩ := b_c.out
      have l_c := cell_lt c0
      go_wp2_with fail
      clear c0 c1 c2 c3 c4 c5 l_c
      refine (RT _ (t.out.up (u.out.alloc' _))).mono ?_; rintro e w3 ⟨rfl, u3⟩
      replace b_c := Lib.hid (b_c.out.up ((Up.alloc _ _).trans u3))
      have b_d := Lib.hid ((Box.new w2 0 0 0 0 0 0 23).up u3)
      replace u := Lib.hid ((u.out.alloc' _).trans u3)
      clear u3
      obtain ⟨c0, c1, c2, c3, c4, c5⟩ := b_c.out
      have l_c := cell_lt c0
      go_wp2_with fail
      go_ret
      exact ⟨rfl, u.out⟩
    · rw [r] at RT
      have SC : ∀ w, Tabs w → _ := fun w T => seconds_yes a1y a1m a1d a1h a1i a1s w T r
      have OC : ∀ w, Tabs w → _ := fun w T => of_yes _ a1y a1m a1d a1h a1i a1s w T r rfl
      clear r
      generalize secI a1y a1m a1d a1h a1i a1s = A at *
      go_enter Tryd.func4, Tryd.ntmps4
      go_wp2_with fail
      refine (shown_any _ (t.out.up ((Up.refl _).alloc' _))).mono ?_; rintro e w1 ⟨rfl, u1⟩
      have b_c := Lib.hid ((Box.new w a1y a1m a1d a1h a1i a1s 23).up u1)
      have u := Lib.hid (((Up.refl _).alloc' _).trans u1)
      clear u1
      go_wp2_with fail
      refine (ON _).mono ?_; rintro e w2 ⟨rfl, u2⟩
      replace b_c := Lib.hid (b_c.out.up u2)
      replace u := Lib.hid (u.out.trans u2)
      clear u2
      obtain ⟨c0, c1, c2, c3, c4, c5⟩ := b_c.out
      have l_c := cell_lt c0
      go_wp2_with fail
      clear c0 c1 c2 c3 c4 c5 l_c
      refine (RT _ (t.out.up (u.out.alloc' _))).mono ?_; rintro e w3 ⟨rfl, u3⟩
      replace b_c := Lib.hid (b_c.out.up ((Up.alloc _ _).trans u3))
      have b_d := Lib.hid ((Box.new w2 0 0 0 0 0 0 23).up u3)
      replace u := Lib.hid ((u.out.alloc' _).trans u3)
      clear u3
      obtain ⟨c0, c1, c2, c3, c4, c5⟩ := b_c.out
      have l_c := cell_lt c0
      go_wp2_with fail
      clear c0 c1 c2 c3 c4 c5 l_c
      refine (SC _ (t.out.up (u.out))).mono ?_; rintro e w4 ⟨rfl, u4⟩
      replace b_c := Lib.hid (b_c.out.up u4)
      replace b_d := Lib.hid (b_d.out.up u4)
      replace u := Lib.hid (u.out.trans u4)
      clear u4
      obtain ⟨c0, c1, c2, c3, c4, c5⟩ := b_c.out
      have l_c := cell_lt c0
      go_wp2_with fail
      clear c0 c1 c2 c3 c4 c5 l_c
      refine (OC _ (t.out.up (u.out))).mono ?_; rintro e w5 ⟨rfl, u5⟩
      replace b_c := Lib.hid (b_c.out.up u5)
      replace b_d := Lib.hid (b_d.out.up u5)
      replace u := Lib.hid (u.out.trans u5)
      clear u5
      obtain ⟨c0, c1, c2, c3, c4, c5⟩ := b_c.out
      have l_c := cell_lt c0
      go_wp2_with fail
      go_ret
      exact ⟨rfl, (u.out.alloc' _)⟩
  · have OY : ∀ w, Tabs w → _ := fun w T => of_yes a0 dy dm dd dh di ds w T hr hs
    have SY : ∀ w, Tabs w → _ := fun w T => seconds_yes dy dm dd dh di ds w T hr
    rw [hs] at SY
    clear hr hs
    cases r : rightC a1y a1m a1d a1h a1i a1s
    · rw [r] at RT
      clear r
      go_enter Tryd.func4, Tryd.ntmps4
      go_wp2_with fail
      refine (shown_any _ (t.out.up ((Up.refl _).alloc' _))).mono ?_; rintro e w1 ⟨rfl, u1⟩
      have b_c := Lib.hid ((Box.new w a1y a1m a1d a1h a1i a1s 23).up u1)
      have u := Lib.hid (((Up.refl _).alloc' _).trans u1)
      clear u1
      go_wp2_with fail
      refine (OY _ (t.out.up (u.out))).mono ?_; rintro e w2 ⟨rfl, u2⟩
      replace b_c := Lib.hid (b_c.out.up u2)
      replace u := Lib.hid (u.out.trans u2)
      clear u2
      obtain ⟨c0, c1, c2, c3, c4, c5⟩ := b_c.out
      have l_c := cell_lt c0
      go_wp2_with fail
      clear c0 c1 c2 c3 c4 c5 l_c
      refine (SY _ (t.out.up (u.out.alloc' _))).mono ?_; rintro e w3 ⟨rfl, u3⟩
      replace b_c := Lib.hid (b_c.out.up ((Up.alloc _ _).trans u3))
      have b_d := Lib.hid ((Box.new w2 dy dm dd dh di ds 23).up u3)
      replace u := Lib.hid ((u.out.alloc' _).trans u3)
      clear u3
      obtain ⟨c0, c1, c2, c3, c4, c5⟩ := b_c.out
      have l_c := cell_lt c0
      go_wp2_with fail
      clear c0 c1 c2 c3 c4 c5 l_c
      refine (RT _ (t.out.up (u.out))).mono ?_; rintro e w4 ⟨rfl, u4⟩
      replace b_c := Lib.hid (b_c.out.up u4)
      replace b_d := Lib.hid (b_d.out.up u4)
      replace u := Lib.hid (u.out.trans u4)
      clear u4
      obtain ⟨c0, c1, c2, c3, c4, c5⟩ := b_c.out
      have l_c := cell_lt c0
      go_wp2_with fail
      go_ret
      exact ⟨rfl, u.out⟩
    · rw [r] at RT
      have SC : ∀ w, Tabs w → _ := fun w T => seconds_yes a1y a1m a1d a1h a1i a1s w T r
      have OC : ∀ w, Tabs w → _ := fun w T => of_yes _ a1y a1m a1d a1h a1i a1s w T r rfl
      clear r
      generalize secI a1y a1m a1d a1h a1i a1s = A at *
      go_enter Tryd.func4, Tryd.ntmps4
      go_wp2_with fail
      refine (shown_any _ (t.out.up ((Up.refl _).alloc' _))).mono ?_; rintro e w1 ⟨rfl, u1⟩
      have b_c := Lib.hid ((Box.new w a1y a1m a1d a1h a1i a1s 23).up u1)
      have u := Lib.hid (((Up.refl _).alloc' _).trans u1)
      clear u1
      go_wp2_with fail
      refine (OY _ (t.out.up (u.out))).mono ?_; rintro e w2 ⟨rfl, u2⟩
      replace b_c := Lib.hid (b_c.out.up u2)
      replace u := Lib.hid (u.out.trans u2)
      clear u2
      obtain ⟨c0, c1, c2, c3, c4, c5⟩ := b_c.out
      have l_c := cell_lt c0
      go_wp2_with fail
      clear c0 c1 c2 c3 c4 c5 l_c
      refine (SY _ (t.out.up (u.out.alloc' _))).mono ?_; rintro e w3 ⟨rfl, u3⟩
      replace b_c := Lib.hid (b_c.out.up ((Up.alloc _ _).trans u3))
      have b_d := Lib.hid ((Box.new w2 dy dm dd dh di ds 23).up u3)
      replace u := Lib.hid ((u.out.alloc' _).trans u3)
      clear u3
      obtain ⟨c0, c1, c2, c3, c4, c5⟩ := b_c.out
      have l_c := cell_lt c0
      go_wp2_with fail
      clear c0 c1 c2 c3 c4 c5 l_c
      refine (RT _ (t.out.up (u.out))).mono ?_; rintro e w4 ⟨rfl, u4⟩
      replace b_c := Lib.hid (b_c.out.up u4)
      replace b_d := Lib.hid (b_d.out.up u4)
      replace u := Lib.hid (u.out.trans u4)
      clear u4
      obtain ⟨c0, c1, c2, c3, c4, c5⟩ := b_c.out
      have l_c := cell_lt c0
      go_wp2_with fail
      clear c0 c1 c2 c3 c4 c5 l_c
      refine (SC _ (t.out.up (u.out))).mono ?_; rintro e w5 ⟨rfl, u5⟩
      replace b_c := Lib.hid (b_c.out.up u5)
      replace b_d := Lib.hid (b_d.out.up u5)
      replace u := Lib.hid (u.out.trans u5)
      clear u5
      obtain ⟨c0, c1, c2, c3, c4, c5⟩ := b_c.out
      have l_c := cell_lt c0
      go_wp2_with fail
      clear c0 c1 c2 c3 c4 c5 l_c
      refine (OC _ (t.out.up (u.out))).mono ?_; rintro e w6 ⟨rfl, u6⟩
      replace b_c := Lib.hid (b_c.out.up u6)
      replace b_d := Lib.hid (b_d.out.up u6)
      replace u := Lib.hid (u.out.trans u6)
      clear u6
      obtain ⟨c0, c1, c2, c3, c4, c5⟩ := b_c.out
      have l_c := cell_lt c0
      go_wp2_with fail
      go_ret
      exact ⟨rfl, (u.out.alloc' _)⟩

set_option maxRecDepth 100000 in
theorem lifted (os : Os) (started : os.Started) (H : Type) (enc : TypeId × Value → H) :
    ReturnsInHanded {} Tryd.checked os 4 .any (fun w args => (Rows.clockBackSpec.pre enc Tryd.prog Tryd.f4 [] false w args ∧ laidMetH Tryd.prog laidD w) ∧ sizedMet enc Tryd.prog Tryd.f4 (OpenSpec.ofChange Rows.clockBackSpec) false w args) (Rows.clockBackSpec.post enc Tryd.prog Tryd.f4 false true false false) := by
  refine returnsInHanded_of_change_and (C := Tryd.checked) (X := fun w _ => laidMetH Tryd.prog laidD w) (fun _ _ _ hh h => h.of_heap hh) own started (by kernel_rfl) Tryd.func4
    (ChangeSpec.witness_shaped (enc := enc) (C := Tryd.checked) (os := os) (X := fun w _ => laidMetH Tryd.prog laidD w) false (World.doorLaid Tryd.prog 400 os) #[.int .i64 0, .agg #[.int .i64 0, .int .i64 0, .int .i64 0, .int .i64 0, .int .i64 0, .int .i64 0]] 8 rfl (World.shaped_of_RefB (by kernel_rfl) (by kernel_rfl)) (by kernel_rfl) (by kernel_rfl) (by kernel_rfl) (door_metD os _)) ?_
  intro W base args ds gs before hval0 hW _ _ hL _
  have hval : ∀ (j : Nat) t v, Tryd.f4.params[j]? = some t → args[j]? = some v → Value.okWide Tryd.prog W .any base t v := hval0
  have hW' := hW
  obtain ⟨p, q, hA0, hV, rfl, hfz, hnd⟩ := hW
  have hA : DataW.TrodAll enc Tryd.prog W 0 (fun _ => true) true Tryd.f4.params.toList args.toList ds p := hA0
  rw [Tryd.params4] at hA hval
  obtain ⟨v0, vs0, d0, ds0, p0, q0, hargs, rfl, rfl, h0, r0⟩ := trodAll_cons hA
  obtain ⟨v1, vs1, d1, ds1, p1, q1, rfl, rfl, rfl, h1, r1⟩ := trodAll_cons r0
  obtain ⟨rfl, rfl, rfl⟩ := trodAll_nil r1
  obtain rfl : args = #[v0, v1] := by cases args; simp_all
  obtain ⟨rfl, rfl⟩ := trodVars_none hV
  obtain ⟨a0, rfl, rfl, rfl, w0⟩ := open_int Tryd.underlying2 (hval 0 2 v0 rfl rfl) h0
  obtain ⟨a1y, a1m, a1d, a1h, a1i, a1s, rfl, rfl, rfl, w1y, w1m, w1d, w1h, w1i, w1s⟩ := open_civ (hval 1 23 v1 rfl rfl) h1
  clear hA0 hval0
  simp only [List.append_nil] at hW'
  refine (walk a0 a1y a1m a1d a1h a1i a1s w0 w1y w1m w1d w1h w1i w1s W (tabs_of_laid hL)).mono fun e W' ⟨he, hg⟩ => ?_
  subst he
  exact ⟨_, rfl, post_flat hW' (fun _ _ _ => (trodAll_cons_mk (shut_bool Tryd.underlying4 _) trodAll_mk0)) (fun sp => (trodAll_cons_mk (shut_int Tryd.underlying2 w0) (trodAll_cons_mk (shut_civ w1y w1m w1d w1h w1i w1s) trodAll_mk0))) (fun _ => rfl)
    hg (ok_one (by kernel_rfl) rfl (okWide_bool_mk Tryd.underlying4 _))⟩

theorem over : Rows.clockBackRow.holds Tryd.pinned (OpenSpec.ofChange Rows.clockBackSpec) :=
  OpenClaim.holds_of_wide 4 Tryd.f4 rfl rfl rfl rfl rfl rfl rfl ⟨rfl, rfl, rfl, rfl, rfl⟩ rfl rfl rfl rfl rfl (by kernel_rfl) Tryd.func4 (by kernel_rfl)
    (of_decide_eq_true (by kernel_rfl)) (by unfold Func.isWrapper; first | (rw [if_pos (by decide +kernel)]; kernel_rfl) | (rw [if_neg (by decide +kernel)]; exact ⟨rfl, rfl⟩))
    (fun os started H enc _ => lifted os started H enc)

set_option maxRecDepth 100000 in
theorem proved : Rows.ClockBackCardSaid :=
  Claim7.holds_tied_plain_at .later [] [.data, .data, .data, .data] true _ false
    over (fun _ h => by cases h) (by kernel_rfl) (fun _ h => by cases h) clockBack_row_tie rfl ⟨rfl, rfl⟩ (by kernel_rfl) rfl
    (fun f fn hf hfn => by
      obtain rfl : f = 4 := Option.some.inj ((show Tryd.prog.funcNamed "longcase/longcaselaw03.ClockBack" = some 4 by kernel_rfl).symm.trans hf) |>.symm
      obtain rfl : fn = Tryd.f4 := (Option.some.inj (Tryd.func4.symm.trans hfn)).symm
      exact ⟨by kernel_rfl, fun j t ht => by
        rw [Tryd.params4] at ht
        have hm : t ∈ [2, 23] := by simpa using Array.mem_of_getElem? ht
        have hall : ([2, 23].all fun u => !Tryd.prog.wantsStandIn u) = true := by kernel_rfl
        exact (show Tryd.prog.wantsStandIn t = false by simpa using List.all_eq_true.1 hall t hm)⟩)
    (by kernel_rfl)
end Go.Proofs.YtdmobmblkbmkhaaDoor.clockBack
