/-
  For every number 'longcaselaw01.NumberEdges' returns true: whole floats are read as they are, those between two whole numbers as the lesser one, also at the edges. No conditions.
-/
import Derived.Test.YtnomejaklpfmbaaLcShown
import Derived.Test.YtnomejaklpfmbaaLcNumF
import Derived.WalkKit
import Derived.ProofKit
import Derived.OpenShut
namespace Go.Proofs.Ytnomejaklpfmbaa.numberEdges
open Go.ChangeShapes Go.WideShapes Go.ChangeAt Go.RowKit Lc
set_option linter.unusedVariables false

theorem own : ownKnob Try.prog.godebug = none := by kernel_rfl

set_option maxHeartbeats 1000000 in
set_option maxRecDepth 100000 in
theorem walk (a0 : Int) (w0 : (Lit.int .i64 a0).wf = true) (w : World) :
    Calls Try.prog 6 #[.int .i64 a0] w fun e w' => e = .returned (.bool true) ∧ Grown w w' := by
  have hf := fit_wf w0
  have F0 := Lib.hid hf
  clear w0
  obtain ⟨m, e, m1, m2⟩ := fi_is hf
  have L := Lib.hid (fi_lt hf)
  have o := ge_order (fin_nan (fi_fin hf)) nan_hi
  rw [e, sv_hi] at o
  simp only [mulK_le] at o
  by_cases c : 9223372036854775808 ≤ m
  · have J := Lib.hid (just_far hf e c)
    have S := Lib.hid (sec_far (fi_fin hf) (by rw [e, edivK]; exact fitB_false.2 (by omega)))
    rw [decide_eq_true c] at o
    clear hf e m1 m2 c
    go_enter Try.func6, Try.ntmps6
    go_wp2_with fail
    refine (shown_any _).mono ?_; rintro e w' ⟨rfl, n, rfl⟩
    go_wp2_with fail
    refine (float_any _ _ F0.out).mono ?_; rw [J.out]; rintro e w' ⟨rfl, rfl⟩
    go_wp2_with fail
    refine (seconds_any _ _ L.out).mono ?_; rw [S.out.1, S.out.2]; rintro e w' ⟨rfl, rfl⟩
    go_wp2
    go_ret
    exact ⟨rfl, (Dr.drewN _ _).grown⟩
  · have mf : fitB m = true := fitB_true.2 (by omega)
    have J := Lib.hid (just_near hf e mf)
    have S := Lib.hid (sec_yes (fi_fin hf) (by rw [e, edivK]; exact mf))
    have S1 : Hid (sv (fi a0) / K = m) := Lib.hid (by rw [e, edivK])
    rw [decide_eq_false c] at o
    by_cases g : 4503599627370495 < a0 ∨ a0 < -4503599627370495
    · clear hf e m1 m2 c mf
      rcases g with g | g
      · have g1 : decide (4503599627370495 < a0) = true := by simpa using g
        go_enter Try.func6, Try.ntmps6
        go_wp2_with fail
        refine (shown_any _).mono ?_; rintro e w' ⟨rfl, n, rfl⟩
        go_wp2_with fail
        refine (float_any _ _ F0.out).mono ?_; rw [J.out]; rintro e w' ⟨rfl, rfl⟩
        go_wp2_with fail
        refine (seconds_any _ _ L.out).mono ?_; rw [S.out.1, S.out.2, S1.out]; rintro e w' ⟨rfl, rfl⟩
        go_wp2
        go_ret
        exact ⟨rfl, (Dr.drewN _ _).grown⟩
      · have g2 : decide (4503599627370495 < a0) = false := by simp; omega
        have g1 : decide (a0 < -4503599627370495) = true := by simpa using g
        go_enter Try.func6, Try.ntmps6
        go_wp2_with fail
        refine (shown_any _).mono ?_; rintro e w' ⟨rfl, n, rfl⟩
        go_wp2_with fail
        refine (float_any _ _ F0.out).mono ?_; rw [J.out]; rintro e w' ⟨rfl, rfl⟩
        go_wp2_with fail
        refine (seconds_any _ _ L.out).mono ?_; rw [S.out.1, S.out.2, S1.out]; rintro e w' ⟨rfl, rfl⟩
        go_wp2
        go_ret
        exact ⟨rfl, (Dr.drewN _ _).grown⟩
    · have e2 := (fi_small (n := a0) (by omega)).2.2
      have mn : m = a0 := by rw [e, mulK_inj] at e2; exact e2
      subst mn
      obtain ⟨z, z1, z2, z3, z4⟩ := half_up (n := m) (by omega)
      obtain ⟨y, y1, y2, y3, y4⟩ := half_down (n := m) (by omega)
      have r1 := fun w => run_float_arith (P := Try.prog) w .add 28 .f64 _ _ _ z1
      have r2 := fun w => run_float_arith (P := Try.prog) w .sub 28 .f64 _ _ _ y1
      have g1 : decide (4503599627370495 < m) = false := by simp; omega
      have g2 : decide (m < -4503599627370495) = false := by simp; omega
      have Z : Hid (z < 18446744073709551616 ∧ secV z = m ∧ secE z = 0) := Lib.hid ⟨z2, z3, z4⟩
      have Y : Hid (y < 18446744073709551616 ∧ secV y = m - 1 ∧ secE y = 0) := Lib.hid ⟨y2, y3, y4⟩
      have wr : wrap64 (m - 1) = m - 1 := wrap_fit (fitB_true.2 (by omega))
      clear hf e m1 m2 c mf e2 z1 z2 z3 z4 y1 y2 y3 y4 g
      go_enter Try.func6, Try.ntmps6
      go_wp2_with fail
      refine (shown_any _).mono ?_; rintro e w' ⟨rfl, n, rfl⟩
      go_wp2_with fail
      refine (float_any _ _ F0.out).mono ?_; rw [J.out]; rintro e w' ⟨rfl, rfl⟩
      go_wp2_with fail
      refine (seconds_any _ _ L.out).mono ?_; rw [S.out.1, S.out.2, S1.out]; rintro e w' ⟨rfl, rfl⟩
      go_wp2_with fail
      refine (seconds_any z _ Z.out.1).mono ?_; rw [Z.out.2.1, Z.out.2.2]; rintro e w' ⟨rfl, rfl⟩
      go_wp2_with fail
      refine (seconds_any y _ Y.out.1).mono ?_; rw [Y.out.2.1, Y.out.2.2]; rintro e w' ⟨rfl, rfl⟩
      go_wp2
      go_ret
      exact ⟨rfl, (Dr.drewN _ _).grown⟩

set_option maxRecDepth 100000 in
theorem lifted (os : Os) (started : os.Started) (H : Type) (enc : TypeId × Value → H) :
    ReturnsInHanded {} Try.checked os 6 .any (Rows.numberEdgesSpec.pre6 enc Try.prog Try.f6 Rows.numberEdgesRow.domain false) (Rows.numberEdgesSpec.post enc Try.prog Try.f6 false true false false) := by
  refine returnsInHanded_of_change (C := Try.checked) own started (by kernel_rfl) Try.func6
    (ChangeSpec.witness6 (enc := enc) (C := Try.checked) false ⟨#[], #[.int .i64 0], []⟩ 8 (by kernel_rfl) (by kernel_rfl) (by kernel_rfl) (by kernel_rfl)) ?_
  intro W base args ds gs before hval0 hW hcnd _
  have hval : ∀ (j : Nat) t v, Try.f6.params[j]? = some t → args[j]? = some v → Value.okWide Try.prog W .any base t v := hval0
  have hW' := hW
  obtain ⟨p, q, hA0, hV, rfl, hfz, hnd⟩ := hW
  have hA : DataW.TrodAll enc Try.prog W 0 (fun _ => true) true Try.f6.params.toList args.toList ds p := hA0
  rw [Try.params6] at hA hval
  obtain ⟨v0, vs0, d0, ds0, p0, q0, hargs, rfl, rfl, h0, r0⟩ := trodAll_cons hA
  obtain ⟨rfl, rfl, rfl⟩ := trodAll_nil r0
  obtain rfl : args = #[v0] := by cases args; simp_all
  obtain ⟨rfl, rfl⟩ := trodVars_none hV
  obtain ⟨a0, rfl, rfl, rfl, w0⟩ := open_int Try.underlying2 (hval 0 2 v0 rfl rfl) h0
  clear hA0 hval0
  simp only [List.append_nil] at hW'
  refine (walk a0 w0 W).mono fun e W' ⟨he, hg⟩ => ?_
  subst he
  exact ⟨_, rfl, post_of_same (pa := []) (pv := []) hW' (fun _ _ _ => (trodAll_cons_mk (shut_bool Try.underlying4 _) trodAll_mk0)) (fun sp _ => (trodAll_cons_mk (shut_int Try.underlying2 w0) trodAll_mk0)) (fun _ _ => rfl) rfl
    (hg.frame _) hg.2.1 (ok_one (by kernel_rfl) rfl (okWide_bool_mk Try.underlying4 _))⟩

theorem over : Rows.numberEdgesRow.holds Try.pinned (OpenSpec.ofChange Rows.numberEdgesSpec) :=
  OpenClaim.holds_of_wide 6 Try.f6 rfl rfl rfl rfl rfl rfl rfl ⟨rfl, rfl, rfl, rfl, rfl⟩ rfl rfl rfl rfl rfl (by kernel_rfl) Try.func6 (by kernel_rfl)
    (of_decide_eq_true (by kernel_rfl)) (by unfold Func.isWrapper; first | (rw [if_pos (by decide +kernel)]; kernel_rfl) | (rw [if_neg (by decide +kernel)]; exact ⟨rfl, rfl⟩))
    (fun os started H enc _ => lifted os started H enc)

theorem proved : Rows.NumberEdgesSaid :=
  over
end Go.Proofs.Ytnomejaklpfmbaa.numberEdges
