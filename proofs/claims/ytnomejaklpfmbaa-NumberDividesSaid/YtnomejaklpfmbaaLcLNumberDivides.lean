/-
  For every two numbers 'longcaselaw01.NumberDivides' returns true: a quotient, and what is left, make the number again. No conditions.
-/
import Derived.Test.YtnomejaklpfmbaaLcShown
import Derived.Test.YtnomejaklpfmbaaLcNum
import Derived.WalkKit
import Derived.ProofKit
import Derived.OpenShut
namespace Go.Proofs.Ytnomejaklpfmbaa.numberDivides
open Go.ChangeShapes Go.WideShapes Go.ChangeAt Go.RowKit Lc
set_option linter.unusedVariables false

theorem own : ownKnob Try.prog.godebug = none := by kernel_rfl

theorem div_law {a b : Int} (ha : fitB a = true) (hb : 1 ≤ b) : (wrap64 (a / b * b) == wrap64 (a - a % b)) = true := by
  have e := Int.mul_ediv_add_emod a b
  have : a / b * b = a - a % b := by rw [Int.mul_comm]; omega
  rw [this]; simp

theorem walk (a0 : Int) (a1 : Int) (w0 : (Lit.int .i64 a0).wf = true) (w1 : (Lit.int .i64 a1).wf = true) (w : World) :
    Calls Try.prog 5 #[.int .i64 a0, .int .i64 a1] w fun e w' => e = .returned (.bool true) ∧ Grown w w' := by

  have f0 := fit_wf w0; have f1 := fit_wf w1
  have F0 := Lib.hid f0; have F1 := Lib.hid f1
  clear w0 w1 f0 f1
  by_cases hb : a1 < 1
  · go_enter Try.func5, Try.ntmps5
    go_wp2_with (first | (go_at_call 12; refine (shown_any _).mono ?_; rintro e w' ⟨rfl, n, rfl⟩) | (go_at_call 17; refine (div_no _ _ _ hb).mono ?_; rintro e w' ⟨rfl, rfl⟩))
    go_ret
    exact ⟨rfl, (Dr.drewN _ _).grown⟩
  · have h1 : 1 ≤ a1 := by omega
    have l2 := Int.emod_nonneg a0 (show a1 ≠ 0 by omega)
    have l3 := Int.emod_lt_of_pos a0 (show 0 < a1 by omega)
    have e := div_law F0.out h1
    have q : 0 ≤ a0 ∨ a0 / a1 < 0 := by
      by_cases c : 0 ≤ a0
      · exact .inl c
      · exact .inr (Int.ediv_neg_of_neg_of_pos (by omega) (by omega))
    have H1 := Lib.hid h1
    rcases Decidable.em (0 ≤ a0) with c | c
    · have d : decide (0 ≤ a0) = true := by simpa using c
      go_enter Try.func5, Try.ntmps5
      go_wp2_with (first | (go_at_call 12; refine (shown_any _).mono ?_; rintro e w' ⟨rfl, n, rfl⟩) | (go_at_call 17; refine (div_yes _ _ _ H1.out F0.out F1.out).mono ?_; rintro e w' ⟨rfl, n2, rfl⟩))
      go_ret
      exact ⟨rfl, (Dr.drewN _ _).grown⟩
    · have d : decide (a0 / a1 < 0) = true := by simp; omega
      go_enter Try.func5, Try.ntmps5
      go_wp2_with (first | (go_at_call 12; refine (shown_any _).mono ?_; rintro e w' ⟨rfl, n, rfl⟩) | (go_at_call 17; refine (div_yes _ _ _ H1.out F0.out F1.out).mono ?_; rintro e w' ⟨rfl, n2, rfl⟩))
      go_ret
      exact ⟨rfl, (Dr.drewN _ _).grown⟩

set_option maxRecDepth 100000 in
theorem lifted (os : Os) (started : os.Started) (H : Type) (enc : TypeId × Value → H) :
    ReturnsInHanded {} Try.checked os 5 .any (Rows.numberDividesSpec.pre6 enc Try.prog Try.f5 Rows.numberDividesRow.domain false) (Rows.numberDividesSpec.post enc Try.prog Try.f5 false true false false) := by
  refine returnsInHanded_of_change (C := Try.checked) own started (by kernel_rfl) Try.func5
    (ChangeSpec.witness6 (enc := enc) (C := Try.checked) false ⟨#[], #[.int .i64 0, .int .i64 0], []⟩ 8 (by kernel_rfl) (by kernel_rfl) (by kernel_rfl) (by kernel_rfl)) ?_
  intro W base args ds gs before hval0 hW hcnd _
  have hval : ∀ (j : Nat) t v, Try.f5.params[j]? = some t → args[j]? = some v → Value.okWide Try.prog W .any base t v := hval0
  have hW' := hW
  obtain ⟨p, q, hA0, hV, rfl, hfz, hnd⟩ := hW
  have hA : DataW.TrodAll enc Try.prog W 0 (fun _ => true) true Try.f5.params.toList args.toList ds p := hA0
  rw [Try.params5] at hA hval
  obtain ⟨v0, vs0, d0, ds0, p0, q0, hargs, rfl, rfl, h0, r0⟩ := trodAll_cons hA
  obtain ⟨v1, vs1, d1, ds1, p1, q1, rfl, rfl, rfl, h1, r1⟩ := trodAll_cons r0
  obtain ⟨rfl, rfl, rfl⟩ := trodAll_nil r1
  obtain rfl : args = #[v0, v1] := by cases args; simp_all
  obtain ⟨rfl, rfl⟩ := trodVars_none hV
  obtain ⟨a0, rfl, rfl, rfl, w0⟩ := open_int Try.underlying2 (hval 0 2 v0 rfl rfl) h0
  obtain ⟨a1, rfl, rfl, rfl, w1⟩ := open_int Try.underlying2 (hval 1 2 v1 rfl rfl) h1
  clear hA0 hval0
  simp only [List.append_nil] at hW'
  refine (walk a0 a1 w0 w1 W).mono fun e W' ⟨he, hg⟩ => ?_
  subst he
  exact ⟨_, rfl, post_of_same (pa := []) (pv := []) hW' (fun _ _ _ => (trodAll_cons_mk (shut_bool Try.underlying4 _) trodAll_mk0)) (fun sp _ => (trodAll_cons_mk (shut_int Try.underlying2 w0) (trodAll_cons_mk (shut_int Try.underlying2 w1) trodAll_mk0))) (fun _ _ => rfl) rfl
    (hg.frame _) hg.2.1 (ok_one (by kernel_rfl) rfl (okWide_bool_mk Try.underlying4 _))⟩

theorem over : Rows.numberDividesRow.holds Try.pinned (OpenSpec.ofChange Rows.numberDividesSpec) :=
  OpenClaim.holds_of_wide 5 Try.f5 rfl rfl rfl rfl rfl rfl rfl ⟨rfl, rfl, rfl, rfl, rfl⟩ rfl rfl rfl rfl rfl (by kernel_rfl) Try.func5 (by kernel_rfl)
    (of_decide_eq_true (by kernel_rfl)) (by unfold Func.isWrapper; first | (rw [if_pos (by decide +kernel)]; kernel_rfl) | (rw [if_neg (by decide +kernel)]; exact ⟨rfl, rfl⟩))
    (fun os started H enc _ => lifted os started H enc)

theorem proved : Rows.NumberDividesSaid :=
  over
end Go.Proofs.Ytnomejaklpfmbaa.numberDivides
