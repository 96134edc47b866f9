/-
  For every three numbers 'longcaselaw01.NumberLaws' returns true: sums and products do not hang on which comes first, and a product by a sum is both products. No conditions.
-/
import Derived.Test.YtnomejaklpfmbaaLcShown
import Derived.Test.YtnomejaklpfmbaaLcNum
import Derived.WalkKit
import Derived.ProofKit
import Derived.OpenShut
namespace Go.Proofs.Ytnomejaklpfmbaa.numberLaws
open Go.ChangeShapes Go.WideShapes Go.ChangeAt Go.RowKit Lc
set_option linter.unusedVariables false

theorem own : ownKnob Try.prog.godebug = none := by kernel_rfl

theorem tm_bd (a : Int) : -1073741824 < a.tmod 1073741824 ∧ a.tmod 1073741824 < 1073741824 := by
  have := tmod_lt a 1073741824 (by decide)
  simpa using this
theorem prod_bd {a b : Int} (ha : -1073741824 < a ∧ a < 1073741824) (hb : -2147483648 < b ∧ b < 2147483648) : -9223372036854775808 / 2 < a * b ∧ a * b < 9223372036854775808 / 2 := by
  have h1 : a.natAbs ≤ 1073741823 := by omega
  have h2 : b.natAbs ≤ 2147483647 := by omega
  have := Nat.mul_le_mul h1 h2
  rw [← Int.natAbs_mul] at this
  omega

set_option maxHeartbeats 1000000 in
set_option maxRecDepth 100000 in
theorem walk (a0 : Int) (a1 : Int) (a2 : Int) (w0 : (Lit.int .i64 a0).wf = true) (w1 : (Lit.int .i64 a1).wf = true) (w2 : (Lit.int .i64 a2).wf = true) (w : World) :
    Calls Try.prog 10 #[.int .i64 a0, .int .i64 a1, .int .i64 a2] w fun e w' => e = .returned (.bool true) ∧ Grown w w' := by
  have F0 := Lib.hid (fit_wf w0); have F1 := Lib.hid (fit_wf w1)
  clear w0 w1 w2
  have ba := tm_bd a0; have bb := tm_bd a1; have bc := tm_bd a2
  have s1 : fitB (a1.tmod 1073741824 + a2.tmod 1073741824) = true := fitB_true.2 (by omega)
  have g0 : fitB (a0.tmod 1073741824) = true := fitB_true.2 (by omega)
  have g1 : fitB (a1.tmod 1073741824) = true := fitB_true.2 (by omega)
  have g2 : fitB (a2.tmod 1073741824) = true := fitB_true.2 (by omega)
  have p0 := prod_bd (b := a1.tmod 1073741824) ba (by omega)
  have p1 := prod_bd (b := a2.tmod 1073741824) ba (by omega)
  have p2 := prod_bd (b := a1.tmod 1073741824 + a2.tmod 1073741824) ba (by omega)
  have t0 : fitB (a0.tmod 1073741824 * a1.tmod 1073741824) = true := fitB_true.2 (by omega)
  have t1 : fitB (a0.tmod 1073741824 * a2.tmod 1073741824) = true := fitB_true.2 (by omega)
  have t2 : fitB (a0.tmod 1073741824 * (a1.tmod 1073741824 + a2.tmod 1073741824)) = true := fitB_true.2 (by omega)
  have E : Hid ((a0.tmod 1073741824 * (a1.tmod 1073741824 + a2.tmod 1073741824) == wrap64 (a0.tmod 1073741824 * a1.tmod 1073741824 + a0.tmod 1073741824 * a2.tmod 1073741824)) = true) := Lib.hid (by
    rw [Int.mul_add]
    rw [Int.mul_add] at t2
    rw [wrap_fit t2]; simp)
  have v1 := fitV_true s1; have v2 := fitV_true t0; have v3 := fitV_true t1; have v4 := fitV_true t2
  have V1 := Lib.hid v1; have V2 := Lib.hid v2; have V3 := Lib.hid v3; have V4 := Lib.hid v4
  have S1 := Lib.hid s1; have G0 := Lib.hid g0; have G1 := Lib.hid g1; have G2 := Lib.hid g2; have T0 := Lib.hid t0; have T1 := Lib.hid t1; have T2 := Lib.hid t2
  have cs : Hid (a1 + a0 = a0 + a1 ∧ a1 * a0 = a0 * a1) := Lib.hid ⟨Int.add_comm _ _, Int.mul_comm _ _⟩
  clear ba bb bc s1 g0 g1 g2 p0 p1 p2 t0 t1 t2 v1 v2 v3 v4
  go_enter Try.func10, Try.ntmps10
  go_wp2_with fail
  refine (shown_any _).mono ?_; rintro e w' ⟨rfl, n, rfl⟩
  go_wp2_with fail
  refine (add_any _ _ _ F0.out F1.out).mono ?_; rintro e w' ⟨rfl, rfl⟩
  go_wp2_with fail
  refine (add_any _ _ _ F1.out F0.out).mono ?_; rw [cs.out.1]; rintro e w' ⟨rfl, rfl⟩
  go_wp2_with fail
  refine (mul_any _ _ _ F0.out F1.out).mono ?_; rintro e w' ⟨rfl, rfl⟩
  go_wp2_with fail
  refine (mul_any _ _ _ F1.out F0.out).mono ?_; rw [cs.out.2]; rintro e w' ⟨rfl, rfl⟩
  go_wp2_with fail
  refine (add_any _ _ _ G1.out G2.out).mono ?_; rw [V1.out, S1.out]; rintro e w' ⟨rfl, rfl⟩
  go_wp2_with fail
  refine (mul_any _ _ _ G0.out S1.out).mono ?_; rw [V4.out, T2.out]; rintro e w' ⟨rfl, rfl⟩
  go_wp2_with fail
  refine (mul_any _ _ _ G0.out G1.out).mono ?_; rw [V2.out, T0.out]; rintro e w' ⟨rfl, rfl⟩
  go_wp2_with fail
  refine (mul_any _ _ _ G0.out G2.out).mono ?_; rw [V3.out, T1.out]; rintro e w' ⟨rfl, rfl⟩
  have e1 := E.out
  go_wp2
  go_ret
  exact ⟨rfl, (Dr.drewN _ _).grown⟩

set_option maxRecDepth 100000 in
theorem lifted (os : Os) (started : os.Started) (H : Type) (enc : TypeId × Value → H) :
    ReturnsInHanded {} Try.checked os 10 .any (Rows.numberLawsSpec.pre6 enc Try.prog Try.f10 Rows.numberLawsRow.domain false) (Rows.numberLawsSpec.post enc Try.prog Try.f10 false true false false) := by
  refine returnsInHanded_of_change (C := Try.checked) own started (by kernel_rfl) Try.func10
    (ChangeSpec.witness6 (enc := enc) (C := Try.checked) false ⟨#[], #[.int .i64 0, .int .i64 0, .int .i64 0], []⟩ 8 (by kernel_rfl) (by kernel_rfl) (by kernel_rfl) (by kernel_rfl)) ?_
  intro W base args ds gs before hval0 hW hcnd _
  have hval : ∀ (j : Nat) t v, Try.f10.params[j]? = some t → args[j]? = some v → Value.okWide Try.prog W .any base t v := hval0
  have hW' := hW
  obtain ⟨p, q, hA0, hV, rfl, hfz, hnd⟩ := hW
  have hA : DataW.TrodAll enc Try.prog W 0 (fun _ => true) true Try.f10.params.toList args.toList ds p := hA0
  rw [Try.params10] at hA hval
  obtain ⟨v0, vs0, d0, ds0, p0, q0, hargs, rfl, rfl, h0, r0⟩ := trodAll_cons hA
  obtain ⟨v1, vs1, d1, ds1, p1, q1, rfl, rfl, rfl, h1, r1⟩ := trodAll_cons r0
  obtain ⟨v2, vs2, d2, ds2, p2, q2, rfl, rfl, rfl, h2, r2⟩ := trodAll_cons r1
  obtain ⟨rfl, rfl, rfl⟩ := trodAll_nil r2
  obtain rfl : args = #[v0, v1, v2] := by cases args; simp_all
  obtain ⟨rfl, rfl⟩ := trodVars_none hV
  obtain ⟨a0, rfl, rfl, rfl, w0⟩ := open_int Try.underlying2 (hval 0 2 v0 rfl rfl) h0
  obtain ⟨a1, rfl, rfl, rfl, w1⟩ := open_int Try.underlying2 (hval 1 2 v1 rfl rfl) h1
  obtain ⟨a2, rfl, rfl, rfl, w2⟩ := open_int Try.underlying2 (hval 2 2 v2 rfl rfl) h2
  clear hA0 hval0
  simp only [List.append_nil] at hW'
  refine (walk a0 a1 a2 w0 w1 w2 W).mono fun e W' ⟨he, hg⟩ => ?_
  subst he
  exact ⟨_, rfl, post_of_same (pa := []) (pv := []) hW' (fun _ _ _ => (trodAll_cons_mk (shut_bool Try.underlying4 _) trodAll_mk0)) (fun sp _ => (trodAll_cons_mk (shut_int Try.underlying2 w0) (trodAll_cons_mk (shut_int Try.underlying2 w1) (trodAll_cons_mk (shut_int Try.underlying2 w2) trodAll_mk0)))) (fun _ _ => rfl) rfl
    (hg.frame _) hg.2.1 (ok_one (by kernel_rfl) rfl (okWide_bool_mk Try.underlying4 _))⟩

theorem over : Rows.numberLawsRow.holds Try.pinned (OpenSpec.ofChange Rows.numberLawsSpec) :=
  OpenClaim.holds_of_wide 10 Try.f10 rfl rfl rfl rfl rfl rfl rfl ⟨rfl, rfl, rfl, rfl, rfl⟩ rfl rfl rfl rfl rfl (by kernel_rfl) Try.func10 (by kernel_rfl)
    (of_decide_eq_true (by kernel_rfl)) (by unfold Func.isWrapper; first | (rw [if_pos (by decide +kernel)]; kernel_rfl) | (rw [if_neg (by decide +kernel)]; exact ⟨rfl, rfl⟩))
    (fun os started H enc _ => lifted os started H enc)

theorem proved : Rows.NumberLawsSaid :=
  over
end Go.Proofs.Ytnomejaklpfmbaa.numberLaws
