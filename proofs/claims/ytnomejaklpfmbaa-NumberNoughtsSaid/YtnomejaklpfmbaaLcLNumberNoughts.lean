/-
  For every float 'longcaselaw01.NumberNoughts' returns true: minus nought stands ahead of nought, and either is second 0. No conditions.
-/
import Derived.Test.YtnomejaklpfmbaaLcShown
import Derived.Test.YtnomejaklpfmbaaLcNumF
import Derived.WalkKit
import Derived.ProofKit
import Derived.OpenShut
namespace Go.Proofs.Ytnomejaklpfmbaa.numberNoughts
open Go.ChangeShapes Go.WideShapes Go.ChangeAt Go.RowKit Lc
set_option linter.unusedVariables false

theorem own : ownKnob Try.prog.godebug = none := by kernel_rfl

theorem lt_wf {b : Nat} (h : (Lit.float .f64 b).wf = true) : b < 18446744073709551616 := by simpa [Lit.wf] using h
theorem nan_key {z f : Nat} (h : nanB z = true) : decide (0 ≤ cmp3 (key z) (key f)) = true := by
  rw [key_nan h]
  cases c : nanB f
  · rw [cmp3_gt (key_num c)]; decide
  · rw [key_nan c]; decide

set_option maxHeartbeats 1000000 in
set_option maxRecDepth 100000 in
theorem walk (a0 : Nat) (w0 : (Lit.float .f64 a0).wf = true) (w : World) :
    Calls Try.prog 8 #[.float .f64 a0] w fun e w' => e = .returned (.bool true) ∧ Grown w w' := by
  have L0 := Lib.hid (lt_wf w0)
  clear w0
  cases hf : finB a0 with
  | false =>
    go_enter Try.func8, Try.ntmps8
    go_wp2_with fail
    refine (shown_any _).mono ?_; rintro e w' ⟨rfl, n, rfl⟩
    obtain ⟨z, z1, z2, z3⟩ := nan_run (P := Try.prog) .mul 28 a0 0 (w.drewN n) (.inr (.inr (.inl rfl))) (mul_none hf)
    have o := nan_order z
    rw [z1] at o
    have k := nan_key (f := a0) z1
    have Z1 := Lib.hid z1; have Z2 := Lib.hid z2; clear z1 z2 hf
    go_wp2_with fail
    refine (sh_sec2 z _ Z1.out Z2.out).mono ?_; rintro e w' ⟨rfl, rfl⟩
    go_wp2_with fail
    refine (order_any _ _ _ Z2.out L0.out).mono ?_; rintro e w' ⟨rfl, rfl⟩
    go_wp2
    go_ret
    exact ⟨rfl, (Dr.drewN _ _).grown⟩
  | true =>
    have m := mul_nought hf
    clear hf
    cases hs : ng a0 with
    | false =>
      rw [hs] at m
      have r1 := fun w => run_float_arith (P := Try.prog) w .mul 28 .f64 a0 0 0 m
      have r2 := fun w => run_float_arith (P := Try.prog) w .quo 28 .f64 _ _ _ div_one_0
      have l1 := lt_inf_0
      have e00 : FloatKind.f64.format.order 0 0 = some .eq := by decide +kernel
      have S : Hid (secV 0 = 0 ∧ secE 0 = 0 ∧ cmp3 (key 0) (key 0) = 0) := Lib.hid (by decide +kernel)
      clear m hs
      go_enter Try.func8, Try.ntmps8
      go_wp2_with fail
      refine (shown_any _).mono ?_; rintro e w' ⟨rfl, n, rfl⟩
      go_wp2_with fail
      refine (seconds_any 0 _ (by decide)).mono ?_; rw [S.out.1, S.out.2.1]; rintro e w' ⟨rfl, rfl⟩
      go_wp2_with fail
      refine (order_any 0 0 _ (by decide) (by decide)).mono ?_; rw [S.out.2.2]; rintro e w' ⟨rfl, rfl⟩
      go_wp2
      go_ret
      exact ⟨rfl, (Dr.drewN _ _).grown⟩
    | true =>
      rw [hs] at m
      have r1 := fun w => run_float_arith (P := Try.prog) w .mul 28 .f64 a0 0 9223372036854775808 m
      have r2 := fun w => run_float_arith (P := Try.prog) w .quo 28 .f64 _ _ _ div_one_m0
      have l1 := lt_minf_0
      have e00 : FloatKind.f64.format.order 9223372036854775808 9223372036854775808 = some .eq := by decide +kernel
      have S : Hid (secV 9223372036854775808 = 0 ∧ secE 9223372036854775808 = 0 ∧ cmp3 (key 9223372036854775808) (key 0) = -1) := Lib.hid (by decide +kernel)
      clear m hs
      go_enter Try.func8, Try.ntmps8
      go_wp2_with fail
      refine (shown_any _).mono ?_; rintro e w' ⟨rfl, n, rfl⟩
      go_wp2_with fail
      refine (seconds_any 9223372036854775808 _ (by decide)).mono ?_; rw [S.out.1, S.out.2.1]; rintro e w' ⟨rfl, rfl⟩
      go_wp2_with fail
      refine (order_any 9223372036854775808 0 _ (by decide) (by decide)).mono ?_; rw [S.out.2.2]; rintro e w' ⟨rfl, rfl⟩
      go_wp2
      go_ret
      exact ⟨rfl, (Dr.drewN _ _).grown⟩

set_option maxRecDepth 100000 in
theorem lifted (os : Os) (started : os.Started) (H : Type) (enc : TypeId × Value → H) :
    ReturnsInHanded {} Try.checked os 8 .any (Rows.numberNoughtsSpec.pre6 enc Try.prog Try.f8 Rows.numberNoughtsRow.domain false) (Rows.numberNoughtsSpec.post enc Try.prog Try.f8 false true false false) := by
  refine returnsInHanded_of_change (C := Try.checked) own started (by kernel_rfl) Try.func8
    (ChangeSpec.witness6 (enc := enc) (C := Try.checked) false ⟨#[], #[.float .f64 0], []⟩ 8 (by kernel_rfl) (by kernel_rfl) (by kernel_rfl) (by kernel_rfl)) ?_
  intro W base args ds gs before hval0 hW hcnd _
  have hval : ∀ (j : Nat) t v, Try.f8.params[j]? = some t → args[j]? = some v → Value.okWide Try.prog W .any base t v := hval0
  have hW' := hW
  obtain ⟨p, q, hA0, hV, rfl, hfz, hnd⟩ := hW
  have hA : DataW.TrodAll enc Try.prog W 0 (fun _ => true) true Try.f8.params.toList args.toList ds p := hA0
  rw [Try.params8] at hA hval
  obtain ⟨v0, vs0, d0, ds0, p0, q0, hargs, rfl, rfl, h0, r0⟩ := trodAll_cons hA
  obtain ⟨rfl, rfl, rfl⟩ := trodAll_nil r0
  obtain rfl : args = #[v0] := by cases args; simp_all
  obtain ⟨rfl, rfl⟩ := trodVars_none hV
  obtain ⟨a0, rfl, rfl, rfl, w0⟩ := open_float Try.underlying28 (hval 0 28 v0 rfl rfl) h0
  clear hA0 hval0
  simp only [List.append_nil] at hW'
  refine (walk a0 w0 W).mono fun e W' ⟨he, hg⟩ => ?_
  subst he
  exact ⟨_, rfl, post_of_same (pa := []) (pv := []) hW' (fun _ _ _ => (trodAll_cons_mk (shut_bool Try.underlying4 _) trodAll_mk0)) (fun sp _ => (trodAll_cons_mk (shut_float Try.underlying28 w0) trodAll_mk0)) (fun _ _ => rfl) rfl
    (hg.frame _) hg.2.1 (ok_one (by kernel_rfl) rfl (okWide_bool_mk Try.underlying4 _))⟩

theorem over : Rows.numberNoughtsRow.holds Try.pinned (OpenSpec.ofChange Rows.numberNoughtsSpec) :=
  OpenClaim.holds_of_wide 8 Try.f8 rfl rfl rfl rfl rfl rfl rfl ⟨rfl, rfl, rfl, rfl, rfl⟩ rfl rfl rfl rfl rfl (by kernel_rfl) Try.func8 (by kernel_rfl)
    (of_decide_eq_true (by kernel_rfl)) (by unfold Func.isWrapper; first | (rw [if_pos (by decide +kernel)]; kernel_rfl) | (rw [if_neg (by decide +kernel)]; exact ⟨rfl, rfl⟩))
    (fun os started H enc _ => lifted os started H enc)

theorem proved : Rows.NumberNoughtsSaid :=
  over
end Go.Proofs.Ytnomejaklpfmbaa.numberNoughts
