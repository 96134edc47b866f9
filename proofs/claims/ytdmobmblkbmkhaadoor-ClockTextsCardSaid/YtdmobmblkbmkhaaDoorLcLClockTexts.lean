/-
  ClockTexts (longcaselaw03): for every input it answers true, and its arguments read as before; the listed tables as the program lays them. No condition.
-/
import Derived.Test.YtdmobmblkbmkhaaDoorLcShown3
import Derived.Test.YtdmobmblkbmkhaaDoorLcPrm
import Derived.Test.YtdmobmblkbmkhaaDoorLcRefC
import Derived.Test.YtdmobmblkbmkhaaDoorLcDgs
import Derived.Test.YtdmobmblkbmkhaaDoorTie
import Derived.Test.YtdmobmblkbmkhaaDoorCards
import Derived.WalkKit
import Derived.ProofKit
import Derived.OpenShut
import Derived.LaidMore
import Derived.Stop.Joined
import Derived.SevenTiedAt
namespace Go.Proofs.YtdmobmblkbmkhaaDoor.clockTexts
open Go.ChangeShapes Go.WideShapes Go.ChangeAt Go.RowKit Lc
set_option linter.unusedVariables false

theorem own : ownKnob Tryd.prog.godebug = none := by kernel_rfl

set_option maxHeartbeats 16000000 in
set_option maxRecDepth 100000 in
theorem walk (a0y a0m a0d a0h a0i a0s : Int) (w0y : (Lit.int .i64 a0y).wf = true) (w0m : (Lit.int .i64 a0m).wf = true) (w0d : (Lit.int .i64 a0d).wf = true) (w0h : (Lit.int .i64 a0h).wf = true) (w0i : (Lit.int .i64 a0i).wf = true) (w0s : (Lit.int .i64 a0s).wf = true) (w : World) (T : Tabs w) :
    Calls Tryd.prog 8 #[.agg #[.int .i64 a0y, .int .i64 a0m, .int .i64 a0d, .int .i64 a0h, .int .i64 a0i, .int .i64 a0s]] w fun e w' => e = .returned (.bool true) ∧ Up w w' := by
  have t := Lib.hid T; clear T
  have RT : ∀ w, Tabs w → _ := fun w T => clockRight_any a0y a0m a0d a0h a0i a0s w T
  cases r : rightC a0y a0m a0d a0h a0i a0s
  · rw [r] at RT
    clear r
    go_enter Tryd.func8, Tryd.ntmps8
    go_wp2_with fail
    refine (shown_any _ (t.out.up ((Up.refl _).alloc' _))).mono ?_; rintro e w1 ⟨rfl, u1⟩
    have b_c := Lib.hid ((Box.new w a0y a0m a0d a0h a0i a0s 23).up u1)
    have u := Lib.hid (((Up.refl _).alloc' _).trans u1)
    clear u1
    obtain ⟨c0, c1, c2, c3, c4, c5⟩ := b_c.out
    have l_c := cell_lt c0
    go_wp2_with fail
    clear c0 c1 c2 c3 c4 c5 l_c
    refine (RT _ (t.out.up (u.out))).mono ?_; rintro e w2 ⟨rfl, u2⟩
    replace b_c := Lib.hid (b_c.out.up u2)
    replace u := Lib.hid (u.out.trans u2)
    clear u2
    obtain ⟨c0, c1, c2, c3, c4, c5⟩ := b_c.out
    have l_c := cell_lt c0
    go_wp2_with fail
    go_ret
    exact ⟨rfl, u.out⟩
  · rw [r] at RT
    by_cases c1 : a0y < 0
    · clear r
      go_enter Tryd.func8, Tryd.ntmps8
      go_wp2_with fail
      refine (shown_any _ (t.out.up ((Up.refl _).alloc' _))).mono ?_; rintro e w1 ⟨rfl, u1⟩
      have b_c := Lib.hid ((Box.new w a0y a0m a0d a0h a0i a0s 23).up u1)
      have u := Lib.hid (((Up.refl _).alloc' _).trans u1)
      clear u1
      obtain ⟨c0, c1, c2, c3, c4, c5⟩ := b_c.out
      have l_c := cell_lt c0
      go_wp2_with fail
      clear c0 c1 c2 c3 c4 c5 l_c
      refine (RT _ (t.out.up (u.out))).mono ?_; rintro e w2 ⟨rfl, u2⟩
      replace b_c := Lib.hid (b_c.out.up u2)
      replace u := Lib.hid (u.out.trans u2)
      clear u2
      obtain ⟨c0, c1, c2, c3, c4, c5⟩ := b_c.out
      have l_c := cell_lt c0
      go_wp2_with fail
      go_ret
      exact ⟨rfl, u.out⟩
    have d1 := decf c1
    by_cases c2 : 9999 < a0y
    · clear r c1
      go_enter Tryd.func8, Tryd.ntmps8
      go_wp2_with fail
      refine (shown_any _ (t.out.up ((Up.refl _).alloc' _))).mono ?_; rintro e w1 ⟨rfl, u1⟩
      have b_c := Lib.hid ((Box.new w a0y a0m a0d a0h a0i a0s 23).up u1)
      have u := Lib.hid (((Up.refl _).alloc' _).trans u1)
      clear u1
      obtain ⟨c0, c1, c2, c3, c4, c5⟩ := b_c.out
      have l_c := cell_lt c0
      go_wp2_with fail
      clear c0 c1 c2 c3 c4 c5 l_c
      refine (RT _ (t.out.up (u.out))).mono ?_; rintro e w2 ⟨rfl, u2⟩
      replace b_c := Lib.hid (b_c.out.up u2)
      replace u := Lib.hid (u.out.trans u2)
      clear u2
      obtain ⟨c0, c1, c2, c3, c4, c5⟩ := b_c.out
      have l_c := cell_lt c0
      go_wp2_with fail
      go_ret
      exact ⟨rfl, u.out⟩
    have d2 := decf c2
    have TX : ∀ w, Tabs w → _ := fun w T => text_yes a0y a0m a0d a0h a0i a0s w T r
    have BY := Lib.hid (bytes19 r (by omega) (by omega))
    have sz : (textB a0y a0m a0d a0h a0i a0s).size = 19 := (Array.length_toList (xs := (textB a0y a0m a0d a0h a0i a0s).data)).symm.trans BY.out.len
    clear r c1 c2
    generalize textB a0y a0m a0d a0h a0i a0s = X at *
    go_enter Tryd.func8, Tryd.ntmps8
    go_wp2_with fail
    refine (shown_any _ (t.out.up ((Up.refl _).alloc' _))).mono ?_; rintro e w1 ⟨rfl, u1⟩
    have b_c := Lib.hid ((Box.new w a0y a0m a0d a0h a0i a0s 23).up u1)
    have u := Lib.hid (((Up.refl _).alloc' _).trans u1)
    clear u1
    obtain ⟨c0, c1, c2, c3, c4, c5⟩ := b_c.out
    have l_c := cell_lt c0
    go_wp2_with fail
    clear c0 c1 c2 c3 c4 c5 l_c
    refine (RT _ (t.out.up (u.out))).mono ?_; rintro e w2 ⟨rfl, u2⟩
    replace b_c := Lib.hid (b_c.out.up u2)
    replace u := Lib.hid (u.out.trans u2)
    clear u2
    obtain ⟨c0, c1, c2, c3, c4, c5⟩ := b_c.out
    have l_c := cell_lt c0
    go_wp2_with fail
    clear c0 c1 c2 c3 c4 c5 l_c
    refine (TX _ (t.out.up (u.out))).mono ?_; rintro e w3 ⟨rfl, u3⟩
    replace b_c := Lib.hid (b_c.out.up u3)
    replace u := Lib.hid (u.out.trans u3)
    clear u3
    go_wp2_with fail
    obtain ⟨W0, hW⟩ : ∃ W, W = ((w3.alloc (.cells #[.int .i64 0, .int .i64 0, .int .i64 0, .int .i64 0, .int .i64 0, .int .i64 0] 3)).alloc (.cells #[.int .i64 0, .int .i64 5, .int .i64 8, .int .i64 11, .int .i64 14, .int .i64 17] 3)).alloc (.cells #[.int .i64 4, .int .i64 7, .int .i64 10, .int .i64 13, .int .i64 16, .int .i64 19] 3) := ⟨_, rfl⟩
    rw [← hW]
    have S0 : Hid (St w W0 w3.heap.size w.heap.size a0y a0m a0d a0h a0i a0s 0 0) := by rw [hW]; exact st_start b_c.out u.out 3
    clear hW b_c u
    go_loopw [8] (fun ii wr => ∃ n : Nat, n ≤ 6 ∧ ii = .int .i64 (n : Int) ∧ Hid (St w wr w3.heap.size w.heap.size a0y a0m a0d a0h a0i a0s n 0)) (fun ii _ => (7 - intOf ii).toNat)
    case atStart => exact ⟨0, by omega, rfl, S0⟩
    case round =>
      obtain ⟨n, n1, rfl, S⟩ := hrel
      clear S0
      by_cases e : n < 6
      · have cf := S.out.frm n e
        have V0 := Lib.hid (BY.out.val n e)
        have DG := Lib.hid (fun k => BY.out.dgt n k e)
        have TT := Lib.hid (fun wk v (x : St w wk w3.heap.size w.heap.size a0y a0m a0d a0h a0i a0s n v) => x.til n e)
        obtain ⟨q1, q2, q3⟩ := til_19 e
        have e6 : (n : Int) < 6 := by omega
        generalize fromN n = a at *
        generalize tilN n = b at *
        go_wp2_with fail
        clear cf
        go_loopw [9] (fun kk wk => ∃ k v : Nat, a ≤ k ∧ k ≤ b ∧ kk = .int .i64 (k : Int) ∧ Hid (v < 10 ^ (k - a)) ∧ Hid ((readL v ((X.data.toList.take b).drop k) : Int) = fld a0y a0m a0d a0h a0i a0s n) ∧ Hid (St w wk w3.heap.size w.heap.size a0y a0m a0d a0h a0i a0s n v)) (fun kk _ => (20 - intOf kk).toNat)
        case atStart => exact ⟨a, 0, by omega, by omega, rfl, by unfold Hid; simp, V0.out, S⟩
        case round =>
          obtain ⟨k, v, k1, k2, rfl, Bv, Rv, Sv⟩ := hrel
          clear S V0
          have ct := TT.out _ _ Sv.out
          by_cases c : k < b
          · have c6 : (k : Int) < (b : Int) := by omega
            have ca := Sv.out.all n e
            rw [if_neg (by omega), if_pos rfl] at ca
            have fz := Sv.out.free n
            have hk : k < X.size := by rw [sz]; omega
            have k19 : (k : Int) < 19 := by omega
            have OD := DG.out k k1 c
            have RS := Lib.hid (read_step (L := X.data.toList) (v := v) c (by rw [BY.out.len]; omega))
            rw [← byte_at X k hk] at OD RS
            obtain ⟨cc, hc⟩ : ∃ cc, (X[k]'hk).toNat = cc := ⟨_, rfl⟩
            have vb : v < 1000 := Nat.lt_of_lt_of_le Bv.out (pow_le (show k - a ≤ 3 by omega))
            unfold okD at OD
            rw [hc] at OD RS
            obtain ⟨o1, o2⟩ := OD
            have x1 : decide ((cc : Int) < 48) = false := by simp; omega
            have x2 : decide (57 < (cc : Int)) = false := by simp; omega
            have x3 : ¬ cc < 48 := by omega
            have x4 : ¬ 57 < cc := by omega
            have y1 : IntKind.u8.wrap ((cc : Int) - 48) = (cc : Int) - 48 := by unfold IntKind.wrap; simp [IntKind.bits, IntKind.signed]; omega
            have y2 : IntKind.i64.wrap ((cc : Int) - 48) = (cc : Int) - 48 := IntWalk.i64_in _ (by omega)
            have y3 : IntKind.i64.wrap (10 * (v : Int)) = 10 * (v : Int) := IntWalk.i64_in _ (by omega)
            have y4 : IntKind.i64.wrap (10 * (v : Int) + ((cc : Int) - 48)) = 10 * (v : Int) + ((cc : Int) - 48) := IntWalk.i64_in _ (by omega)
            go_wp2_with fail
            refine wp_region_still_tail 14 (by kernel_rfl) (by kernel_rfl) ?_
            replace ca : ({ wr with drawn := wr.drawn + 1 } : World).cell? ⟨w3.heap.size, n, none⟩ = some (.int .i64 (v : Int)) := ca
            replace fz : ({ wr with drawn := wr.drawn + 1 } : World).frozen? ⟨w3.heap.size, n, none⟩ = false := fz
            replace Sv : Hid (St w ({ wr with drawn := wr.drawn + 1 } : World) w3.heap.size w.heap.size a0y a0m a0d a0h a0i a0s n v) := Lib.hid (Sv.out.draw 1)
            clear ct
            generalize ({ wr with drawn := wr.drawn + 1 } : World) = V at *
            simp only [List.take_succ_cons, List.take_zero, List.drop_succ_cons, List.drop_zero]
            repeat still_step
            refine wpStill_nil ?_
            go_wp2_with fail
            have hu : ((10 * v + (cc - 48) : Nat) : Int) = 10 * (v : Int) + ((cc : Int) - 48) := by omega
            have SS := Sv.out.store e (10 * v + (cc - 48))
            rw [hu] at SS
            have pw : 10 ^ (k + 1 - a) = 10 ^ (k - a) * 10 := by rw [show k + 1 - a = k - a + 1 by omega, Nat.pow_succ]
            go_roundw
            case rel => exact ⟨k + 1, 10 * v + (cc - 48), by omega, by omega, by go_num, by have := Bv.out; unfold Hid; rw [pw]; omega, by unfold Hid; rw [← RS.out]; exact Rv.out, SS⟩
            case measure => simp [intOf]; omega
          · obtain rfl : k = b := by omega
            have RV : ((readL v ((X.data.toList.take k).drop k) : Nat) : Int) = fld a0y a0m a0d a0h a0i a0s n := Rv.out
            rw [List.drop_eq_nil_of_le (by rw [List.length_take]; omega)] at RV
            have SN := Lib.hid (Sv.out.next RV)
            clear RV
            go_wp2_with fail
            go_roundw
            case rel => exact ⟨n + 1, by omega, by go_num, SN⟩
            case measure => simp [intOf]; omega
      · obtain rfl : n = 6 := by omega
        have g0 := S.out.all 0 (by omega)
        have g1 := S.out.all 1 (by omega)
        have g2 := S.out.all 2 (by omega)
        have g3 := S.out.all 3 (by omega)
        have g4 := S.out.all 4 (by omega)
        have g5 := S.out.all 5 (by omega)
        simp only [show (0 : Nat) < 6 from by decide, show (1 : Nat) < 6 from by decide, show (2 : Nat) < 6 from by decide, show (3 : Nat) < 6 from by decide, show (4 : Nat) < 6 from by decide, show (5 : Nat) < 6 from by decide, if_true, fld, List.getD_cons_zero, List.getD_cons_succ] at g0 g1 g2 g3 g4 g5
        obtain ⟨c0, c1, c2, c3, c4, c5⟩ := S.out.box
        obtain ⟨p4, p7, p10, p13, p16⟩ := BY.out.seps
        have z4 : (X[4]'(by rw [sz]; decide)).toNat = 45 := by rw [byte_at, p4]; rfl
        have z7 : (X[7]'(by rw [sz]; decide)).toNat = 45 := by rw [byte_at, p7]; rfl
        have z10 : (X[10]'(by rw [sz]; decide)).toNat = 32 := by rw [byte_at, p10]; rfl
        have z13 : (X[13]'(by rw [sz]; decide)).toNat = 58 := by rw [byte_at, p13]; rfl
        have z16 : (X[16]'(by rw [sz]; decide)).toNat = 58 := by rw [byte_at, p16]; rfl
        clear p4 p7 p10 p13 p16
        go_wp2_with fail
        go_quiet (fail)
        go_wp2_with fail
        go_ret
        exact ⟨rfl, S.out.up.drewN' _⟩

set_option maxRecDepth 100000 in
theorem lifted (os : Os) (started : os.Started) (H : Type) (enc : TypeId × Value → H) :
    ReturnsInHanded {} Tryd.checked os 8 .any (fun w args => (Rows.clockTextsSpec.pre enc Tryd.prog Tryd.f8 [] false w args ∧ laidMetH Tryd.prog laidD w) ∧ sizedMet enc Tryd.prog Tryd.f8 (OpenSpec.ofChange Rows.clockTextsSpec) false w args) (Rows.clockTextsSpec.post enc Tryd.prog Tryd.f8 false true false false) := by
  refine returnsInHanded_of_change_and (C := Tryd.checked) (X := fun w _ => laidMetH Tryd.prog laidD w) (fun _ _ _ hh h => h.of_heap hh) own started (by kernel_rfl) Tryd.func8
    (ChangeSpec.witness_shaped (enc := enc) (C := Tryd.checked) (os := os) (X := fun w _ => laidMetH Tryd.prog laidD w) false (World.doorLaid Tryd.prog 400 os) #[.agg #[.int .i64 0, .int .i64 0, .int .i64 0, .int .i64 0, .int .i64 0, .int .i64 0]] 8 rfl (World.shaped_of_RefB (by kernel_rfl) (by kernel_rfl)) (by kernel_rfl) (by kernel_rfl) (by kernel_rfl) (door_metD os _)) ?_
  intro W base args ds gs before hval0 hW _ _ hL _
  have hval : ∀ (j : Nat) t v, Tryd.f8.params[j]? = some t → args[j]? = some v → Value.okWide Tryd.prog W .any base t v := hval0
  have hW' := hW
  obtain ⟨p, q, hA0, hV, rfl, hfz, hnd⟩ := hW
  have hA : DataW.TrodAll enc Tryd.prog W 0 (fun _ => true) true Tryd.f8.params.toList args.toList ds p := hA0
  rw [Tryd.params8] at hA hval
  obtain ⟨v0, vs0, d0, ds0, p0, q0, hargs, rfl, rfl, h0, r0⟩ := trodAll_cons hA
  obtain ⟨rfl, rfl, rfl⟩ := trodAll_nil r0
  obtain rfl : args = #[v0] := by cases args; simp_all
  obtain ⟨rfl, rfl⟩ := trodVars_none hV
  obtain ⟨a0y, a0m, a0d, a0h, a0i, a0s, rfl, rfl, rfl, w0y, w0m, w0d, w0h, w0i, w0s⟩ := open_civ (hval 0 23 v0 rfl rfl) h0
  clear hA0 hval0
  simp only [List.append_nil] at hW'
  refine (walk a0y a0m a0d a0h a0i a0s w0y w0m w0d w0h w0i w0s W (tabs_of_laid hL)).mono fun e W' ⟨he, hg⟩ => ?_
  subst he
  exact ⟨_, rfl, post_flat hW' (fun _ _ _ => (trodAll_cons_mk (shut_bool Tryd.underlying4 _) trodAll_mk0)) (fun sp => (trodAll_cons_mk (shut_civ w0y w0m w0d w0h w0i w0s) trodAll_mk0)) (fun _ => rfl)
    hg (ok_one (by kernel_rfl) rfl (okWide_bool_mk Tryd.underlying4 _))⟩

theorem over : Rows.clockTextsRow.holds Tryd.pinned (OpenSpec.ofChange Rows.clockTextsSpec) :=
  OpenClaim.holds_of_wide 8 Tryd.f8 rfl rfl rfl rfl rfl rfl rfl ⟨rfl, rfl, rfl, rfl, rfl⟩ rfl rfl rfl rfl rfl (by kernel_rfl) Tryd.func8 (by kernel_rfl)
    (of_decide_eq_true (by kernel_rfl)) (by unfold Func.isWrapper; first | (rw [if_pos (by decide +kernel)]; kernel_rfl) | (rw [if_neg (by decide +kernel)]; exact ⟨rfl, rfl⟩))
    (fun os started H enc _ => lifted os started H enc)

set_option maxRecDepth 100000 in
theorem proved : Rows.ClockTextsCardSaid :=
  Claim7.holds_tied_plain_at .later [] [.data, .data, .data, .data] true _ false
    over (fun _ h => by cases h) (by kernel_rfl) (fun _ h => by cases h) clockTexts_row_tie rfl ⟨rfl, rfl⟩ (by kernel_rfl) rfl
    (fun f fn hf hfn => by
      obtain rfl : f = 8 := Option.some.inj ((show Tryd.prog.funcNamed "longcase/longcaselaw03.ClockTexts" = some 8 by kernel_rfl).symm.trans hf) |>.symm
      obtain rfl : fn = Tryd.f8 := (Option.some.inj (Tryd.func8.symm.trans hfn)).symm
      exact ⟨by kernel_rfl, fun j t ht => by
        rw [Tryd.params8] at ht
        have hm : t ∈ [23] := by simpa using Array.mem_of_getElem? ht
        have hall : ([23].all fun u => !Tryd.prog.wantsStandIn u) = true := by kernel_rfl
        exact (show Tryd.prog.wantsStandIn t = false by simpa using List.all_eq_true.1 hall t hm)⟩)
    (by kernel_rfl)
end Go.Proofs.YtdmobmblkbmkhaaDoor.clockTexts
