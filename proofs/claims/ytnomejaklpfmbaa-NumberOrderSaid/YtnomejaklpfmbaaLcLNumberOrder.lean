/-
  For every three floats and every number of 32 bits 'longcaselaw01.NumberOrder' returns true: of three floats the order goes on; turned round it is turned. No conditions.
-/
import Derived.Test.YtnomejaklpfmbaaLcShown
import Derived.Test.YtnomejaklpfmbaaLcNumF
import Derived.WalkKit
import Derived.ProofKit
import Derived.OpenShut
namespace Go.Proofs.Ytnomejaklpfmbaa.numberOrder
open Go.ChangeShapes Go.WideShapes Go.ChangeAt Go.RowKit Lc
set_option linter.unusedVariables false

theorem own : ownKnob Try.prog.godebug = none := by kernel_rfl

theorem lt_wf {b : Nat} (h : (Lit.float .f64 b).wf = true) : b < 18446744073709551616 := by simpa [Lit.wf] using h
theorem cmp3_cases (a b c : Int) :
    (cmp3 a b = -1 ∧ cmp3 b c = -1 ∧ cmp3 b a = 1 ∧ cmp3 a c = -1) ∨ (cmp3 a b = -1 ∧ cmp3 b c = 0 ∧ cmp3 b a = 1) ∨ (cmp3 a b = -1 ∧ cmp3 b c = 1 ∧ cmp3 b a = 1) ∨
    (cmp3 a b = 0 ∧ cmp3 b c = -1 ∧ cmp3 b a = 0 ∧ cmp3 a c = -1) ∨ (cmp3 a b = 0 ∧ cmp3 b c = 0 ∧ cmp3 b a = 0 ∧ cmp3 a c = 0) ∨ (cmp3 a b = 0 ∧ cmp3 b c = 1 ∧ cmp3 b a = 0 ∧ cmp3 a c = 1) ∨
    (cmp3 a b = 1 ∧ cmp3 b a = -1) := by
  rcases Int.lt_trichotomy a b with h | h | h
  · rw [cmp3_lt h, cmp3_gt h]
    rcases Int.lt_trichotomy b c with g | g | g
    · rw [cmp3_lt g, cmp3_lt (show a < c by omega)]; simp
    · rw [cmp3_eq g]; simp
    · rw [cmp3_gt g]; simp
  · rw [cmp3_eq h, cmp3_eq h.symm]
    subst h
    rcases Int.lt_trichotomy a c with g | g | g
    · rw [cmp3_lt g]; simp
    · rw [cmp3_eq g]; simp
    · rw [cmp3_gt g]; simp
  · rw [cmp3_gt h, cmp3_lt h]; simp

set_option maxHeartbeats 4000000 in
set_option maxRecDepth 100000 in
theorem walk (a0 : Nat) (a1 : Nat) (a2 : Nat) (a3 : Int) (w0 : (Lit.float .f64 a0).wf = true) (w1 : (Lit.float .f64 a1).wf = true) (w2 : (Lit.float .f64 a2).wf = true) (w3 : (Lit.int .i32 a3).wf = true) (w : World) :
    Calls Try.prog 7 #[.float .f64 a0, .float .f64 a1, .float .f64 a2, .int .i32 a3] w fun e w' => e = .returned (.bool true) ∧ Grown w w' := by
  have L0 := Lib.hid (lt_wf w0); have L1 := Lib.hid (lt_wf w1); have L2 := Lib.hid (lt_wf w2)
  have b := bounds_i32 w3
  have f := fi_small (n := a3) (by omega)
  obtain ⟨z, z1, z2, z3, z4⟩ := add_one f.1 f.2.2 (by omega)
  have r1 := fun w => run_float_arith (P := Try.prog) w .add 28 .f64 (floatOfInt .f64 a3) _ _ z1
  have L3 : Hid (floatOfInt .f64 a3 < 18446744073709551616) := Lib.hid f.2.1
  have L4 := Lib.hid z3
  have k1 : cmp3 (key (floatOfInt .f64 a3)) (key z) = -1 := cmp3_lt (key_lt (fin_nan f.1) (fin_nan z2) (by rw [floatOfInt_fi, f.2.2, z4, mulK_lt]; omega))
  have k2 : cmp3 (key a0) (key a0) = 0 := cmp3_eq rfl
  have cs := cmp3_cases (key a0) (key a1) (key a2)
  clear w0 w1 w2 w3 b f z1 z2 z3 z4
  rcases cs with ⟨c1, c2, c3, c4⟩ | ⟨c1, c2, c3⟩ | ⟨c1, c2, c3⟩ | ⟨c1, c2, c3, c4⟩ | ⟨c1, c2, c3, c4⟩ | ⟨c1, c2, c3, c4⟩ | ⟨c1, c3⟩
  all_goals
    go_enter Try.func7, Try.ntmps7
    go_wp2_with (first | (go_at_call 12; refine (shown_any _).mono ?_; rintro e w' ⟨rfl, n, rfl⟩) | (go_at_call 23; refine (order_any _ _ _ (by first | exact L0.out | exact L1.out | exact L2.out | exact L3.out | exact L4.out) (by first | exact L0.out | exact L1.out | exact L2.out | exact L3.out | exact L4.out)).mono ?_; rintro e w' ⟨rfl, rfl⟩))
    go_ret
    exact ⟨rfl, (Dr.drewN _ _).grown⟩

set_option maxRecDepth 100000 in
theorem lifted (os : Os) (started : os.Started) (H : Type) (enc : TypeId × Value → H) :
    ReturnsInHanded {} Try.checked os 7 .any (Rows.numberOrderSpec.pre6 enc Try.prog Try.f7 Rows.numberOrderRow.domain false) (Rows.numberOrderSpec.post enc Try.prog Try.f7 false true false false) := by
  refine returnsInHanded_of_change (C := Try.checked) own started (by kernel_rfl) Try.func7
    (ChangeSpec.witness6 (enc := enc) (C := Try.checked) false ⟨#[], #[.float .f64 0, .float .f64 0, .float .f64 0, .int .i32 0], []⟩ 8 (by kernel_rfl) (by kernel_rfl) (by kernel_rfl) (by kernel_rfl)) ?_
  intro W base args ds gs before hval0 hW hcnd _
  have hval : ∀ (j : Nat) t v, Try.f7.params[j]? = some t → args[j]? = some v → Value.okWide Try.prog W .any base t v := hval0
  have hW' := hW
  obtain ⟨p, q, hA0, hV, rfl, hfz, hnd⟩ := hW
  have hA : DataW.TrodAll enc Try.prog W 0 (fun _ => true) true Try.f7.params.toList args.toList ds p := hA0
  rw [Try.params7] at hA hval
  obtain ⟨v0, vs0, d0, ds0, p0, q0, hargs, rfl, rfl, h0, r0⟩ := trodAll_cons hA
  obtain ⟨v1, vs1, d1, ds1, p1, q1, rfl, rfl, rfl, h1, r1⟩ := trodAll_cons r0
  obtain ⟨v2, vs2, d2, ds2, p2, q2, rfl, rfl, rfl, h2, r2⟩ := trodAll_cons r1
  obtain ⟨v3, vs3, d3, ds3, p3, q3, rfl, rfl, rfl, h3, r3⟩ := trodAll_cons r2
  obtain ⟨rfl, rfl, rfl⟩ := trodAll_nil r3
  obtain rfl : args = #[v0, v1, v2, v3] := by cases args; simp_all
  obtain ⟨rfl, rfl⟩ := trodVars_none hV
  obtain ⟨a0, rfl, rfl, rfl, w0⟩ := open_float Try.underlying28 (hval 0 28 v0 rfl rfl) h0
  obtain ⟨a1, rfl, rfl, rfl, w1⟩ := open_float Try.underlying28 (hval 1 28 v1 rfl rfl) h1
  obtain ⟨a2, rfl, rfl, rfl, w2⟩ := open_float Try.underlying28 (hval 2 28 v2 rfl rfl) h2
  obtain ⟨a3, rfl, rfl, rfl, w3⟩ := open_int Try.underlying21 (hval 3 21 v3 rfl rfl) h3
  clear hA0 hval0
  simp only [List.append_nil] at hW'
  refine (walk a0 a1 a2 a3 w0 w1 w2 w3 W).mono fun e W' ⟨he, hg⟩ => ?_
  subst he
  exact ⟨_, rfl, post_of_same (pa := []) (pv := []) hW' (fun _ _ _ => (trodAll_cons_mk (shut_bool Try.underlying4 _) trodAll_mk0)) (fun sp _ => (trodAll_cons_mk (shut_float Try.underlying28 w0) (trodAll_cons_mk (shut_float Try.underlying28 w1) (trodAll_cons_mk (shut_float Try.underlying28 w2) (trodAll_cons_mk (shut_int Try.underlying21 w3) trodAll_mk0))))) (fun _ _ => rfl) rfl
    (hg.frame _) hg.2.1 (ok_one (by kernel_rfl) rfl (okWide_bool_mk Try.underlying4 _))⟩

theorem over : Rows.numberOrderRow.holds Try.pinned (OpenSpec.ofChange Rows.numberOrderSpec) :=
  OpenClaim.holds_of_wide 7 Try.f7 rfl rfl rfl rfl rfl rfl rfl ⟨rfl, rfl, rfl, rfl, rfl⟩ rfl rfl rfl rfl rfl (by kernel_rfl) Try.func7 (by kernel_rfl)
    (of_decide_eq_true (by kernel_rfl)) (by unfold Func.isWrapper; first | (rw [if_pos (by decide +kernel)]; kernel_rfl) | (rw [if_neg (by decide +kernel)]; exact ⟨rfl, rfl⟩))
    (fun os started H enc _ => lifted os started H enc)

theorem proved : Rows.NumberOrderSaid :=
  over
end Go.Proofs.Ytnomejaklpfmbaa.numberOrder
