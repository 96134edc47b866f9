/-
  For every float 'longcaselaw01.NumberWhole' returns true: a float that is read is between its second and the next one. No conditions.
-/
import Derived.Test.YtnomejaklpfmbaaLcShown
import Derived.Test.YtnomejaklpfmbaaLcNumF
import Derived.WalkKit
import Derived.ProofKit
import Derived.OpenShut
namespace Go.Proofs.Ytnomejaklpfmbaa.numberWhole
open Go.ChangeShapes Go.WideShapes Go.ChangeAt Go.RowKit Lc
set_option linter.unusedVariables false

theorem own : ownKnob Try.prog.godebug = none := by kernel_rfl

theorem lt_wf {b : Nat} (h : (Lit.float .f64 b).wf = true) : b < 18446744073709551616 := by simpa [Lit.wf] using h
/-- A float that was read, and is great, is the number itself. -/
theorem big_same {x : Nat} (h : finB x = true) (hb : 9007199254740992 ≤ sv x / K ∨ sv x / K ≤ -9007199254740992) : sv x = sv x / K * K := by
  symm
  refine whole_big h ?_
  rw [← sv_natAbs]
  have hK := K_pos
  have e : ((9007199254740991 * K : Nat) : Int) = 9007199254740991 * (K : Int) := by simp
  rcases hb with c | c
  · rw [← floor_le] at c
    have : (9007199254740992 : Int) * K = 9007199254740991 * K + K := by rw [show (9007199254740992 : Int) = 9007199254740991 + 1 by omega, Int.add_mul, Int.one_mul]
    omega
  · have c2 : sv x / K < -9007199254740991 := by omega
    rw [← floor_lt] at c2
    have : (-9007199254740991 : Int) * K = - (9007199254740991 * K) := by rw [Int.neg_mul]
    omega

set_option maxHeartbeats 1000000 in
set_option maxRecDepth 100000 in
theorem walk (a0 : Nat) (w0 : (Lit.float .f64 a0).wf = true) (w : World) :
    Calls Try.prog 11 #[.float .f64 a0] w fun e w' => e = .returned (.bool true) ∧ Grown w w' := by
  have L0 := Lib.hid (lt_wf w0)
  clear w0
  cases hf : finB a0 with
  | false =>
    have NF := Lib.hid hf
    go_enter Try.func11, Try.ntmps11
    go_wp2_with fail
    refine (shown_any _).mono ?_; rintro e w' ⟨rfl, n, rfl⟩
    obtain ⟨z, z1, z2, z3⟩ := nan_run (P := Try.prog) .sub 28 a0 a0 (w.drewN n) (.inr (.inl rfl)) (show floatBits .sub .f64 a0 a0 = none from sub_none hf)
    have o := nan_left (y := 0) z1
    clear z1 z2 hf
    go_wp2_with fail
    refine (seconds_not _ _ L0.out NF.out).mono ?_; rintro e w' ⟨rfl, rfl⟩
    go_wp2
    go_ret
    exact ⟨rfl, (Dr.drewN _ _).grown⟩
  | true =>
    cases hs : fitB (sv a0 / K) with
    | false =>
      have S := Lib.hid (sec_far hf hs)
      obtain ⟨z, z1, z2, -, z3⟩ := sub_self hf
      have r1 := fun w => run_float_arith (P := Try.prog) w .sub 28 .f64 a0 a0 z (show floatBits .sub .f64 a0 a0 = some z from z1)
      have o2 := ne_order (fin_nan z2) nan_0
      rw [z3, sv_zero, decide_eq_false (by simp)] at o2
      clear z1 z2 z3 hf hs
      go_enter Try.func11, Try.ntmps11
      go_wp2_with fail
      refine (shown_any _).mono ?_; rintro e w' ⟨rfl, n, rfl⟩
      go_wp2_with fail
      refine (seconds_any _ _ L0.out).mono ?_; rw [S.out.1, S.out.2]; rintro e w' ⟨rfl, rfl⟩
      go_wp2
      go_ret
      exact ⟨rfl, (Dr.drewN _ _).grown⟩
    | true =>
      have S := Lib.hid (sec_yes hf hs)
      have f := fi_rep (floor_rep hf)
      have J : Hid (justB (sv a0 / K) = true) := Lib.hid (by rw [just_near hs f.2.2 hs]; simp)
      have HS := Lib.hid hs
      by_cases g : 9007199254740992 ≤ sv a0 / K ∨ sv a0 / K ≤ -9007199254740992
      · have o := eqo_order (fin_nan f.1) (fin_nan hf)
        rw [f.2.2, ← big_same hf g, decide_eq_true rfl] at o
        generalize sv a0 / K = n at *
        clear f hf hs
        rcases g with g | g
        · have g1 : decide (9007199254740992 ≤ n) = true := by simpa using g
          go_enter Try.func11, Try.ntmps11
          go_wp2_with fail
          refine (shown_any _).mono ?_; rintro e w' ⟨rfl, k, rfl⟩
          go_wp2_with fail
          refine (seconds_any _ _ L0.out).mono ?_; rw [S.out.1, S.out.2]; rintro e w' ⟨rfl, rfl⟩
          go_wp2_with fail
          refine (float_any _ _ HS.out).mono ?_; rw [J.out]; rintro e w' ⟨rfl, rfl⟩
          go_wp2
          go_ret
          exact ⟨rfl, (Dr.drewN _ _).grown⟩
        · have g1 : decide (9007199254740992 ≤ n) = false := by simp; omega
          have g2 : decide (n ≤ -9007199254740992) = true := by simpa using g
          go_enter Try.func11, Try.ntmps11
          go_wp2_with fail
          refine (shown_any _).mono ?_; rintro e w' ⟨rfl, k, rfl⟩
          go_wp2_with fail
          refine (seconds_any _ _ L0.out).mono ?_; rw [S.out.1, S.out.2]; rintro e w' ⟨rfl, rfl⟩
          go_wp2_with fail
          refine (float_any _ _ HS.out).mono ?_; rw [J.out]; rintro e w' ⟨rfl, rfl⟩
          go_wp2
          go_ret
          exact ⟨rfl, (Dr.drewN _ _).grown⟩
      · obtain ⟨z, z1, z2, z3, z4⟩ := add_one f.1 f.2.2 (by omega)
        have r1 := fun w => run_float_arith (P := Try.prog) w .add 28 .f64 (fi (sv a0 / K)) _ _ z1
        have o1 := le_order (fin_nan f.1) (fin_nan hf)
        rw [f.2.2, decide_eq_true (by rw [floor_le]; omega)] at o1
        have o2 := lt_order (fin_nan hf) (fin_nan z2)
        rw [z4, decide_eq_true (by rw [floor_lt]; omega)] at o2
        generalize sv a0 / K = n at *
        have g1 : decide (9007199254740992 ≤ n) = false := by simp; omega
        have g2 : decide (n ≤ -9007199254740992) = false := by simp; omega
        clear f hf hs z1 z2 z3 z4 g
        go_enter Try.func11, Try.ntmps11
        go_wp2_with fail
        refine (shown_any _).mono ?_; rintro e w' ⟨rfl, k, rfl⟩
        go_wp2_with fail
        refine (seconds_any _ _ L0.out).mono ?_; rw [S.out.1, S.out.2]; rintro e w' ⟨rfl, rfl⟩
        go_wp2_with fail
        refine (float_any _ _ HS.out).mono ?_; rw [J.out]; rintro e w' ⟨rfl, rfl⟩
        go_wp2
        go_ret
        exact ⟨rfl, (Dr.drewN _ _).grown⟩

set_option maxRecDepth 100000 in
theorem lifted (os : Os) (started : os.Started) (H : Type) (enc : TypeId × Value → H) :
    ReturnsInHanded {} Try.checked os 11 .any (Rows.numberWholeSpec.pre6 enc Try.prog Try.f11 Rows.numberWholeRow.domain false) (Rows.numberWholeSpec.post enc Try.prog Try.f11 false true false false) := by
  refine returnsInHanded_of_change (C := Try.checked) own started (by kernel_rfl) Try.func11
    (ChangeSpec.witness6 (enc := enc) (C := Try.checked) false ⟨#[], #[.float .f64 0], []⟩ 8 (by kernel_rfl) (by kernel_rfl) (by kernel_rfl) (by kernel_rfl)) ?_
  intro W base args ds gs before hval0 hW hcnd _
  have hval : ∀ (j : Nat) t v, Try.f11.params[j]? = some t → args[j]? = some v → Value.okWide Try.prog W .any base t v := hval0
  have hW' := hW
  obtain ⟨p, q, hA0, hV, rfl, hfz, hnd⟩ := hW
  have hA : DataW.TrodAll enc Try.prog W 0 (fun _ => true) true Try.f11.params.toList args.toList ds p := hA0
  rw [Try.params11] at hA hval
  obtain ⟨v0, vs0, d0, ds0, p0, q0, hargs, rfl, rfl, h0, r0⟩ := trodAll_cons hA
  obtain ⟨rfl, rfl, rfl⟩ := trodAll_nil r0
  obtain rfl : args = #[v0] := by cases args; simp_all
  obtain ⟨rfl, rfl⟩ := trodVars_none hV
  obtain ⟨a0, rfl, rfl, rfl, w0⟩ := open_float Try.underlying28 (hval 0 28 v0 rfl rfl) h0
  clear hA0 hval0
  simp only [List.append_nil] at hW'
  refine (walk a0 w0 W).mono fun e W' ⟨he, hg⟩ => ?_
  subst he
  exact ⟨_, rfl, post_of_same (pa := []) (pv := []) hW' (fun _ _ _ => (trodAll_cons_mk (shut_bool Try.underlying4 _) trodAll_mk0)) (fun sp _ => (trodAll_cons_mk (shut_float Try.underlying28 w0) trodAll_mk0)) (fun _ _ => rfl) rfl
    (hg.frame _) hg.2.1 (ok_one (by kernel_rfl) rfl (okWide_bool_mk Try.underlying4 _))⟩

theorem over : Rows.numberWholeRow.holds Try.pinned (OpenSpec.ofChange Rows.numberWholeSpec) :=
  OpenClaim.holds_of_wide 11 Try.f11 rfl rfl rfl rfl rfl rfl rfl ⟨rfl, rfl, rfl, rfl, rfl⟩ rfl rfl rfl rfl rfl (by kernel_rfl) Try.func11 (by kernel_rfl)
    (of_decide_eq_true (by kernel_rfl)) (by unfold Func.isWrapper; first | (rw [if_pos (by decide +kernel)]; kernel_rfl) | (rw [if_neg (by decide +kernel)]; exact ⟨rfl, rfl⟩))
    (fun os started H enc _ => lifted os started H enc)

theorem proved : Rows.NumberWholeSaid :=
  over
end Go.Proofs.Ytnomejaklpfmbaa.numberWhole
