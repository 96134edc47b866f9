/-
  ClockTells (longcaselaw03): for every input it answers true, and its arguments read as before; the listed tables as the program lays them. No condition.
-/
import Derived.Test.YtdmobmblkbmkhaaDoorLcShown3
import Derived.Test.YtdmobmblkbmkhaaDoorLcPrm
import Derived.Test.YtdmobmblkbmkhaaDoorLcRefO
import Derived.Test.YtdmobmblkbmkhaaDoorLcRefT
import Derived.Test.YtdmobmblkbmkhaaDoorTie
import Derived.Test.YtdmobmblkbmkhaaDoorCards
import Derived.WalkKit
import Derived.ProofKit
import Derived.OpenShut
import Derived.LaidMore
import Derived.Stop.Joined
import Derived.SevenTiedAt
namespace Go.Proofs.YtdmobmblkbmkhaaDoor.clockTells
open Go.ChangeShapes Go.WideShapes Go.ChangeAt Go.RowKit Lc
set_option linter.unusedVariables false

theorem own : ownKnob Tryd.prog.godebug = none := by kernel_rfl

set_option maxHeartbeats 8000000 in
set_option maxRecDepth 100000 in
theorem walk (a0y a0m a0d a0h a0i a0s : Int) (a1 : Int) (w0y : (Lit.int .i64 a0y).wf = true) (w0m : (Lit.int .i64 a0m).wf = true) (w0d : (Lit.int .i64 a0d).wf = true) (w0h : (Lit.int .i64 a0h).wf = true) (w0i : (Lit.int .i64 a0i).wf = true) (w0s : (Lit.int .i64 a0s).wf = true) (w1 : (Lit.int .i64 a1).wf = true) (w : World) (T : Tabs w) :
    Calls Tryd.prog 3 #[.agg #[.int .i64 a0y, .int .i64 a0m, .int .i64 a0d, .int .i64 a0h, .int .i64 a0i, .int .i64 a0s], .int .i64 a1] w fun e w' => e = .returned (.bool true) ∧ Up w w' := by
  have RT : ∀ w, Tabs w → _ := fun w T => clockRight_any a0y a0m a0d a0h a0i a0s w T
  have RR := fun w => refRightC_any a0y a0m a0d a0h a0i a0s w
  have t := Lib.hid T; clear T
  rcases of_ex a1 with h | ⟨dy, dm, dd, dh, di, ds, hr, hs⟩
  · have ON := fun w => of_no a1 w (fit_wf w1) h
    have RON := fun w => refOf_no a1 w (fit_wf w1) h
    have RE : ∀ w, Calls Tryd.prog 19 #[.bool false, .int .i64 2] w fun e w' => e = .returned (.int .i64 2) ∧ w = w' := fun w => refE_any false 2 w
    clear h
    cases r : rightC a0y a0m a0d a0h a0i a0s
    · rw [r] at RT RR
      have SE : ∀ w, Tabs w → _ := fun w T => seconds_no a0y a0m a0d a0h a0i a0s w T r
      have TX : ∀ w, Tabs w → _ := fun w T => text_no a0y a0m a0d a0h a0i a0s w T r
      clear r
      go_enter Tryd.func3, Tryd.ntmps3
      go_wp2_with fail
      refine (shown_any _ (t.out.up ((Up.refl _).alloc' _))).mono ?_; rintro e w1 ⟨rfl, u1⟩
      have b_c := Lib.hid ((Box.new w a0y a0m a0d a0h a0i a0s 23).up u1)
      have u := Lib.hid (((Up.refl _).alloc' _).trans u1)
      clear u1
      obtain ⟨c0, c1, c2, c3, c4, c5⟩ := b_c.out
      have l_c := cell_lt c0
      go_wp2_with fail
      clear c0 c1 c2 c3 c4 c5 l_c
      refine (RR _).mono ?_; rintro e w2 ⟨rfl, u2⟩
      replace b_c := Lib.hid (b_c.out.up u2)
      replace u := Lib.hid (u.out.trans u2)
      clear u2
      obtain ⟨c0, c1, c2, c3, c4, c5⟩ := b_c.out
      have l_c := cell_lt c0
      go_wp2_with fail
      clear c0 c1 c2 c3 c4 c5 l_c
      refine (SE _ (t.out.up (u.out))).mono ?_; rintro e w3 ⟨rfl, u3⟩
      replace b_c := Lib.hid (b_c.out.up u3)
      replace u := Lib.hid (u.out.trans u3)
      clear u3
      obtain ⟨c0, c1, c2, c3, c4, c5⟩ := b_c.out
      have l_c := cell_lt c0
      go_wp2_with fail
      clear c0 c1 c2 c3 c4 c5 l_c
      refine (TX _ (t.out.up (u.out))).mono ?_; rintro e w4 ⟨rfl, u4⟩
      replace b_c := Lib.hid (b_c.out.up u4)
      replace u := Lib.hid (u.out.trans u4)
      clear u4
      obtain ⟨c0, c1, c2, c3, c4, c5⟩ := b_c.out
      have l_c := cell_lt c0
      go_wp2_with fail
      clear c0 c1 c2 c3 c4 c5 l_c
      refine (RT _ (t.out.up (u.out))).mono ?_; rintro e w5 ⟨rfl, u5⟩
      replace b_c := Lib.hid (b_c.out.up u5)
      replace u := Lib.hid (u.out.trans u5)
      clear u5
      obtain ⟨c0, c1, c2, c3, c4, c5⟩ := b_c.out
      have l_c := cell_lt c0
      clear b_c
      go_wp2_with fail
      clear c0 c1 c2 c3 c4 c5 l_c
      refine (ON _).mono ?_; rintro e w6 ⟨rfl, u6⟩
      replace u := Lib.hid (u.out.trans u6)
      clear u6
      go_wp2_with fail
      refine (RON _).mono ?_; rintro e w7 ⟨rfl, u7⟩
      have b_d := Lib.hid ((Box.new w6 0 0 0 0 0 0 23).up u7)
      replace u := Lib.hid ((u.out.alloc' _).trans u7)
      clear u7
      obtain ⟨d0, d1, d2, d3, d4, d5⟩ := b_d.out
      have l_d := cell_lt d0
      go_wp2_with fail
      refine (RE _).mono ?_; rintro e w' ⟨rfl, rfl⟩
      go_wp2_with fail
      go_ret
      exact ⟨rfl, (u.out.alloc' _)⟩
    · rw [r] at RT RR
      have SE : ∀ w, Tabs w → _ := fun w T => seconds_yes a0y a0m a0d a0h a0i a0s w T r
      have TX : ∀ w, Tabs w → _ := fun w T => text_yes a0y a0m a0d a0h a0i a0s w T r
      have RS := fun w => refSeconds_yes a0y a0m a0d a0h a0i a0s w r
      have RX := fun w => refText_yes a0y a0m a0d a0h a0i a0s w r
      clear r
      generalize secI a0y a0m a0d a0h a0i a0s = A at *
      generalize textB a0y a0m a0d a0h a0i a0s = X at *
      go_enter Tryd.func3, Tryd.ntmps3
      go_wp2_with fail
      refine (shown_any _ (t.out.up ((Up.refl _).alloc' _))).mono ?_; rintro e w1 ⟨rfl, u1⟩
      have b_c := Lib.hid ((Box.new w a0y a0m a0d a0h a0i a0s 23).up u1)
      have u := Lib.hid (((Up.refl _).alloc' _).trans u1)
      clear u1
      obtain ⟨c0, c1, c2, c3, c4, c5⟩ := b_c.out
      have l_c := cell_lt c0
      go_wp2_with fail
      clear c0 c1 c2 c3 c4 c5 l_c
      refine (RR _).mono ?_; rintro e w2 ⟨rfl, u2⟩
      replace b_c := Lib.hid (b_c.out.up u2)
      replace u := Lib.hid (u.out.trans u2)
      clear u2
      obtain ⟨c0, c1, c2, c3, c4, c5⟩ := b_c.out
      have l_c := cell_lt c0
      go_wp2_with fail
      clear c0 c1 c2 c3 c4 c5 l_c
      refine (SE _ (t.out.up (u.out))).mono ?_; rintro e w3 ⟨rfl, u3⟩
      replace b_c := Lib.hid (b_c.out.up u3)
      replace u := Lib.hid (u.out.trans u3)
      clear u3
      obtain ⟨c0, c1, c2, c3, c4, c5⟩ := b_c.out
      have l_c := cell_lt c0
      go_wp2_with fail
      clear c0 c1 c2 c3 c4 c5 l_c
      refine (TX _ (t.out.up (u.out))).mono ?_; rintro e w4 ⟨rfl, u4⟩
      replace b_c := Lib.hid (b_c.out.up u4)
      replace u := Lib.hid (u.out.trans u4)
      clear u4
      obtain ⟨c0, c1, c2, c3, c4, c5⟩ := b_c.out
      have l_c := cell_lt c0
      go_wp2_with fail
      clear c0 c1 c2 c3 c4 c5 l_c
      refine (RT _ (t.out.up (u.out))).mono ?_; rintro e w5 ⟨rfl, u5⟩
      replace b_c := Lib.hid (b_c.out.up u5)
      replace u := Lib.hid (u.out.trans u5)
      clear u5
      obtain ⟨c0, c1, c2, c3, c4, c5⟩ := b_c.out
      have l_c := cell_lt c0
      go_wp2_with fail
      clear c0 c1 c2 c3 c4 c5 l_c
      refine (RS _).mono ?_; rintro e w6 ⟨rfl, u6⟩
      replace b_c := Lib.hid (b_c.out.up u6)
      replace u := Lib.hid (u.out.trans u6)
      clear u6
      obtain ⟨c0, c1, c2, c3, c4, c5⟩ := b_c.out
      have l_c := cell_lt c0
      go_wp2_with fail
      clear c0 c1 c2 c3 c4 c5 l_c
      refine (RX _).mono ?_; rintro e w7 ⟨rfl, u7⟩
      replace b_c := Lib.hid (b_c.out.up u7)
      replace u := Lib.hid (u.out.trans u7)
      clear u7
      clear b_c
      go_wp2_with fail
      refine (ON _).mono ?_; rintro e w8 ⟨rfl, u8⟩
      replace u := Lib.hid (u.out.trans u8)
      clear u8
      go_wp2_with fail
      refine (RON _).mono ?_; rintro e w9 ⟨rfl, u9⟩
      have b_d := Lib.hid ((Box.new w8 0 0 0 0 0 0 23).up u9)
      replace u := Lib.hid ((u.out.alloc' _).trans u9)
      clear u9
      obtain ⟨d0, d1, d2, d3, d4, d5⟩ := b_d.out
      have l_d := cell_lt d0
      go_wp2_with fail
      refine (RE _).mono ?_; rintro e w' ⟨rfl, rfl⟩
      go_wp2_with fail
      go_ret
      exact ⟨rfl, (u.out.alloc' _)⟩
  · have OY : ∀ w, Tabs w → _ := fun w T => of_yes a1 dy dm dd dh di ds w T hr hs
    have ROY := fun w => refOf_yes a1 dy dm dd dh di ds w hr hs
    have RE : ∀ w, Calls Tryd.prog 19 #[.bool true, .int .i64 2] w fun e w' => e = .returned (.int .i64 0) ∧ w = w' := fun w => refE_any true 2 w
    clear hr hs
    cases r : rightC a0y a0m a0d a0h a0i a0s
    · rw [r] at RT RR
      have SE : ∀ w, Tabs w → _ := fun w T => seconds_no a0y a0m a0d a0h a0i a0s w T r
      have TX : ∀ w, Tabs w → _ := fun w T => text_no a0y a0m a0d a0h a0i a0s w T r
      clear r
      go_enter Tryd.func3, Tryd.ntmps3
      go_wp2_with fail
      refine (shown_any _ (t.out.up ((Up.refl _).alloc' _))).mono ?_; rintro e w1 ⟨rfl, u1⟩
      have b_c := Lib.hid ((Box.new w a0y a0m a0d a0h a0i a0s 23).up u1)
      have u := Lib.hid (((Up.refl _).alloc' _).trans u1)
      clear u1
      obtain ⟨c0, c1, c2, c3, c4, c5⟩ := b_c.out
      have l_c := cell_lt c0
      go_wp2_with fail
      clear c0 c1 c2 c3 c4 c5 l_c
      refine (RR _).mono ?_; rintro e w2 ⟨rfl, u2⟩
      replace b_c := Lib.hid (b_c.out.up u2)
      replace u := Lib.hid (u.out.trans u2)
      clear u2
      obtain ⟨c0, c1, c2, c3, c4, c5⟩ := b_c.out
      have l_c := cell_lt c0
      go_wp2_with fail
      clear c0 c1 c2 c3 c4 c5 l_c
      refine (SE _ (t.out.up (u.out))).mono ?_; rintro e w3 ⟨rfl, u3⟩
      replace b_c := Lib.hid (b_c.out.up u3)
      replace u := Lib.hid (u.out.trans u3)
      clear u3
      obtain ⟨c0, c1, c2, c3, c4, c5⟩ := b_c.out
      have l_c := cell_lt c0
      go_wp2_with fail
      clear c0 c1 c2 c3 c4 c5 l_c
      refine (TX _ (t.out.up (u.out))).mono ?_; rintro e w4 ⟨rfl, u4⟩
      replace b_c := Lib.hid (b_c.out.up u4)
      replace u := Lib.hid (u.out.trans u4)
      clear u4
      obtain ⟨c0, c1, c2, c3, c4, c5⟩ := b_c.out
      have l_c := cell_lt c0
      go_wp2_with fail
      clear c0 c1 c2 c3 c4 c5 l_c
      refine (RT _ (t.out.up (u.out))).mono ?_; rintro e w5 ⟨rfl, u5⟩
      replace b_c := Lib.hid (b_c.out.up u5)
      replace u := Lib.hid (u.out.trans u5)
      clear u5
      obtain ⟨c0, c1, c2, c3, c4, c5⟩ := b_c.out
      have l_c := cell_lt c0
      clear b_c
      go_wp2_with fail
      clear c0 c1 c2 c3 c4 c5 l_c
      refine (OY _ (t.out.up (u.out))).mono ?_; rintro e w6 ⟨rfl, u6⟩
      replace u := Lib.hid (u.out.trans u6)
      clear u6
      go_wp2_with fail
      refine (ROY _).mono ?_; rintro e w7 ⟨rfl, u7⟩
      have b_d := Lib.hid ((Box.new w6 dy dm dd dh di ds 23).up u7)
      replace u := Lib.hid ((u.out.alloc' _).trans u7)
      clear u7
      obtain ⟨d0, d1, d2, d3, d4, d5⟩ := b_d.out
      have l_d := cell_lt d0
      go_wp2_with fail
      refine (RE _).mono ?_; rintro e w' ⟨rfl, rfl⟩
      go_wp2_with fail
      go_ret
      exact ⟨rfl, (u.out.alloc' _)⟩
    · rw [r] at RT RR
      have SE : ∀ w, Tabs w → _ := fun w T => seconds_yes a0y a0m a0d a0h a0i a0s w T r
      have TX : ∀ w, Tabs w → _ := fun w T => text_yes a0y a0m a0d a0h a0i a0s w T r
      have RS := fun w => refSeconds_yes a0y a0m a0d a0h a0i a0s w r
      have RX := fun w => refText_yes a0y a0m a0d a0h a0i a0s w r
      clear r
      generalize secI a0y a0m a0d a0h a0i a0s = A at *
      generalize textB a0y a0m a0d a0h a0i a0s = X at *
      go_enter Tryd.func3, Tryd.ntmps3
      go_wp2_with fail
      refine (shown_any _ (t.out.up ((Up.refl _).alloc' _))).mono ?_; rintro e w1 ⟨rfl, u1⟩
      have b_c := Lib.hid ((Box.new w a0y a0m a0d a0h a0i a0s 23).up u1)
      have u := Lib.hid (((Up.refl _).alloc' _).trans u1)
      clear u1
      obtain ⟨c0, c1, c2, c3, c4, c5⟩ := b_c.out
      have l_c := cell_lt c0
      go_wp2_with fail
      clear c0 c1 c2 c3 c4 c5 l_c
      refine (RR _).mono ?_; rintro e w2 ⟨rfl, u2⟩
      replace b_c := Lib.hid (b_c.out.up u2)
      replace u := Lib.hid (u.out.trans u2)
      clear u2
      obtain ⟨c0, c1, c2, c3, c4, c5⟩ := b_c.out
      have l_c := cell_lt c0
      go_wp2_with fail
      clear c0 c1 c2 c3 c4 c5 l_c
      refine (SE _ (t.out.up (u.out))).mono ?_; rintro e w3 ⟨rfl, u3⟩
      replace b_c := Lib.hid (b_c.out.up u3)
      replace u := Lib.hid (u.out.trans u3)
      clear u3
      obtain ⟨c0, c1, c2, c3, c4, c5⟩ := b_c.out
      have l_c := cell_lt c0
      go_wp2_with fail
      clear c0 c1 c2 c3 c4 c5 l_c
      refine (TX _ (t.out.up (u.out))).mono ?_; rintro e w4 ⟨rfl, u4⟩
      replace b_c := Lib.hid (b_c.out.up u4)
      replace u := Lib.hid (u.out.trans u4)
      clear u4
      obtain ⟨c0, c1, c2, c3, c4, c5⟩ := b_c.out
      have l_c := cell_lt c0
      go_wp2_with fail
      clear c0 c1 c2 c3 c4 c5 l_c
      refine (RT _ (t.out.up (u.out))).mono ?_; rintro e w5 ⟨rfl, u5⟩
      replace b_c := Lib.hid (b_c.out.up u5)
      replace u := Lib.hid (u.out.trans u5)
      clear u5
      obtain ⟨c0, c1, c2, c3, c4, c5⟩ := b_c.out
      have l_c := cell_lt c0
      go_wp2_with fail
      clear c0 c1 c2 c3 c4 c5 l_c
      refine (RS _).mono ?_; rintro e w6 ⟨rfl, u6⟩
      replace b_c := Lib.hid (b_c.out.up u6)
      replace u := Lib.hid (u.out.trans u6)
      clear u6
      obtain ⟨c0, c1, c2, c3, c4, c5⟩ := b_c.out
      have l_c := cell_lt c0
      go_wp2_with fail
      clear c0 c1 c2 c3 c4 c5 l_c
      refine (RX _).mono ?_; rintro e w7 ⟨rfl, u7⟩
      replace b_c := Lib.hid (b_c.out.up u7)
      replace u := Lib.hid (u.out.trans u7)
      clear u7
      clear b_c
      go_wp2_with fail
      refine (OY _ (t.out.up (u.out))).mono ?_; rintro e w8 ⟨rfl, u8⟩
      replace u := Lib.hid (u.out.trans u8)
      clear u8
      go_wp2_with fail
      refine (ROY _).mono ?_; rintro e w9 ⟨rfl, u9⟩
      have b_d := Lib.hid ((Box.new w8 dy dm dd dh di ds 23).up u9)
      replace u := Lib.hid ((u.out.alloc' _).trans u9)
      clear u9
      obtain ⟨d0, d1, d2, d3, d4, d5⟩ := b_d.out
      have l_d := cell_lt d0
      go_wp2_with fail
      refine (RE _).mono ?_; rintro e w' ⟨rfl, rfl⟩
      go_wp2_with fail
      go_ret
      exact ⟨rfl, (u.out.alloc' _)⟩

set_option maxRecDepth 100000 in
theorem lifted (os : Os) (started : os.Started) (H : Type) (enc : TypeId × Value → H) :
    ReturnsInHanded {} Tryd.checked os 3 .any (fun w args => (Rows.clockTellsSpec.pre enc Tryd.prog Tryd.f3 [] false w args ∧ laidMetH Tryd.prog laidD w) ∧ sizedMet enc Tryd.prog Tryd.f3 (OpenSpec.ofChange Rows.clockTellsSpec) false w args) (Rows.clockTellsSpec.post enc Tryd.prog Tryd.f3 false true false false) := by
  refine returnsInHanded_of_change_and (C := Tryd.checked) (X := fun w _ => laidMetH Tryd.prog laidD w) (fun _ _ _ hh h => h.of_heap hh) own started (by kernel_rfl) Tryd.func3
    (ChangeSpec.witness_shaped (enc := enc) (C := Tryd.checked) (os := os) (X := fun w _ => laidMetH Tryd.prog laidD w) false (World.doorLaid Tryd.prog 400 os) #[.agg #[.int .i64 0, .int .i64 0, .int .i64 0, .int .i64 0, .int .i64 0, .int .i64 0], .int .i64 0] 8 rfl (World.shaped_of_RefB (by kernel_rfl) (by kernel_rfl)) (by kernel_rfl) (by kernel_rfl) (by kernel_rfl) (door_metD os _)) ?_
  intro W base args ds gs before hval0 hW _ _ hL _
  have hval : ∀ (j : Nat) t v, Tryd.f3.params[j]? = some t → args[j]? = some v → Value.okWide Tryd.prog W .any base t v := hval0
  have hW' := hW
  obtain ⟨p, q, hA0, hV, rfl, hfz, hnd⟩ := hW
  have hA : DataW.TrodAll enc Tryd.prog W 0 (fun _ => true) true Tryd.f3.params.toList args.toList ds p := hA0
  rw [Tryd.params3] at hA hval
  obtain ⟨v0, vs0, d0, ds0, p0, q0, hargs, rfl, rfl, h0, r0⟩ := trodAll_cons hA
  obtain ⟨v1, vs1, d1, ds1, p1, q1, rfl, rfl, rfl, h1, r1⟩ := trodAll_cons r0
  obtain ⟨rfl, rfl, rfl⟩ := trodAll_nil r1
  obtain rfl : args = #[v0, v1] := by cases args; simp_all
  obtain ⟨rfl, rfl⟩ := trodVars_none hV
  obtain ⟨a0y, a0m, a0d, a0h, a0i, a0s, rfl, rfl, rfl, w0y, w0m, w0d, w0h, w0i, w0s⟩ := open_civ (hval 0 23 v0 rfl rfl) h0
  obtain ⟨a1, rfl, rfl, rfl, w1⟩ := open_int Tryd.underlying2 (hval 1 2 v1 rfl rfl) h1
  clear hA0 hval0
  simp only [List.append_nil] at hW'
  refine (walk a0y a0m a0d a0h a0i a0s a1 w0y w0m w0d w0h w0i w0s w1 W (tabs_of_laid hL)).mono fun e W' ⟨he, hg⟩ => ?_
  subst he
  exact ⟨_, rfl, post_flat hW' (fun _ _ _ => (trodAll_cons_mk (shut_bool Tryd.underlying4 _) trodAll_mk0)) (fun sp => (trodAll_cons_mk (shut_civ w0y w0m w0d w0h w0i w0s) (trodAll_cons_mk (shut_int Tryd.underlying2 w1) trodAll_mk0))) (fun _ => rfl)
    hg (ok_one (by kernel_rfl) rfl (okWide_bool_mk Tryd.underlying4 _))⟩

theorem over : Rows.clockTellsRow.holds Tryd.pinned (OpenSpec.ofChange Rows.clockTellsSpec) :=
  OpenClaim.holds_of_wide 3 Tryd.f3 rfl rfl rfl rfl rfl rfl rfl ⟨rfl, rfl, rfl, rfl, rfl⟩ rfl rfl rfl rfl rfl (by kernel_rfl) Tryd.func3 (by kernel_rfl)
    (of_decide_eq_true (by kernel_rfl)) (by unfold Func.isWrapper; first | (rw [if_pos (by decide +kernel)]; kernel_rfl) | (rw [if_neg (by decide +kernel)]; exact ⟨rfl, rfl⟩))
    (fun os started H enc _ => lifted os started H enc)

set_option maxRecDepth 100000 in
theorem proved : Rows.ClockTellsCardSaid :=
  Claim7.holds_tied_plain_at .later [] [.data, .data, .data, .data] true _ false
    over (fun _ h => by cases h) (by kernel_rfl) (fun _ h => by cases h) clockTells_row_tie rfl ⟨rfl, rfl⟩ (by kernel_rfl) rfl
    (fun f fn hf hfn => by
      obtain rfl : f = 3 := Option.some.inj ((show Tryd.prog.funcNamed "longcase/longcaselaw03.ClockTells" = some 3 by kernel_rfl).symm.trans hf) |>.symm
      obtain rfl : fn = Tryd.f3 := (Option.some.inj (Tryd.func3.symm.trans hfn)).symm
      exact ⟨by kernel_rfl, fun j t ht => by
        rw [Tryd.params3] at ht
        have hm : t ∈ [23, 2] := by simpa using Array.mem_of_getElem? ht
        have hall : ([23, 2].all fun u => !Tryd.prog.wantsStandIn u) = true := by kernel_rfl
        exact (show Tryd.prog.wantsStandIn t = false by simpa using List.all_eq_true.1 hall t hm)⟩)
    (by kernel_rfl)
end Go.Proofs.YtdmobmblkbmkhaaDoor.clockTells
