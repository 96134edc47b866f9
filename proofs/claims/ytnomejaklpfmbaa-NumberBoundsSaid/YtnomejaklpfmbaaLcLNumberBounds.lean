/-
  For every number 'longcaselaw01.NumberBounds' returns true: at the edges of what fits a sum, or a product, is told just if it fits. No conditions.
-/
import Derived.Test.YtnomejaklpfmbaaLcShown
import Derived.Test.YtnomejaklpfmbaaLcNum
import Derived.WalkKit
import Derived.ProofKit
import Derived.OpenShut
namespace Go.Proofs.Ytnomejaklpfmbaa.numberBounds
open Go.ChangeShapes Go.WideShapes Go.ChangeAt Go.RowKit Lc
set_option linter.unusedVariables false

theorem own : ownKnob Try.prog.godebug = none := by kernel_rfl

theorem and_low (n : Int) : 0 ≤ bits .and .i64 n 9223372036854775807 ∧ bits .and .i64 n 9223372036854775807 ≤ 9223372036854775807 := by
  have h0 : (BitVec.ofInt 64 9223372036854775807).toNat = 2 ^ 63 - 1 := by decide
  have key : (BitVec.ofInt 64 n &&& BitVec.ofInt 64 9223372036854775807).toNat = (n % ((2 ^ 64 : Nat) : Int)).toNat % 2 ^ 63 := by
    rw [BitVec.toNat_and, BitVec.toNat_ofInt, h0, Nat.and_two_pow_sub_one_eq_mod]
  have e : bits .and .i64 n 9223372036854775807 = IntKind.i64.wrap ((BitVec.ofInt 64 n &&& BitVec.ofInt 64 9223372036854775807).toNat : Nat) := rfl
  rw [e, key, IntKind.wrap_i64]
  omega
/-- What the five calls tell, of a number from 0 on. -/
structure Facts (m : Int) : Prop where
  one : fitB (9223372036854775807 + m) = (m == 0)
  two : fitB (-9223372036854775808 + -m) = (m == 0)
  fit : fitB m = true
  fitn : fitB (-m) = true
  fits : fitB (9223372036854775807 - m) = true
  three : fitB (9223372036854775807 - m + m) = true ∧ fitV (9223372036854775807 - m + m) = 9223372036854775807
  four : fitB (m * -1) = true
  five : fitB (-9223372036854775808 * m) = decide (m < 2)
theorem facts {m : Int} (h0 : 0 ≤ m) (h1 : m ≤ 9223372036854775807) : Facts m where
  one := by rw [Bool.eq_iff_iff, fitB_true, beq_iff_eq]; omega
  two := by rw [Bool.eq_iff_iff, fitB_true, beq_iff_eq]; omega
  fit := fitB_true.2 (by omega)
  fitn := fitB_true.2 (by omega)
  fits := fitB_true.2 (by omega)
  three := by
    rw [show 9223372036854775807 - m + m = 9223372036854775807 by omega]
    exact ⟨by decide, by decide⟩
  four := fitB_true.2 (by omega)
  five := by rw [Bool.eq_iff_iff, fitB_true, decide_eq_true_eq]; omega

set_option maxHeartbeats 1000000 in
set_option maxRecDepth 100000 in
theorem walk (a0 : Int) (w0 : (Lit.int .i64 a0).wf = true) (w : World) :
    Calls Try.prog 9 #[.int .i64 a0] w fun e w' => e = .returned (.bool true) ∧ Grown w w' := by
  have hm := and_low a0
  have F := Lib.hid (facts hm.1 hm.2)
  have M := Lib.hid hm
  clear w0 hm
  go_enter Try.func9, Try.ntmps9
  go_wp2_with fail
  refine (shown_any _).mono ?_; rintro e w' ⟨rfl, n, rfl⟩
  go_wp2_with fail
  generalize bits BinOp.and IntKind.i64 a0 9223372036854775807 = m at *
  refine (add_any _ _ _ (by decide) F.out.fit).mono ?_; rw [F.out.one]; rintro e w' ⟨rfl, rfl⟩
  go_wp2_with fail
  have e1 : wrap64 (-m) = -m := wrap_fit F.out.fitn
  simp only [e1]
  refine (add_any _ _ _ (by decide) F.out.fitn).mono ?_; rw [F.out.two]; rintro e w' ⟨rfl, rfl⟩
  clear e1
  go_wp2_with fail
  have e2 : wrap64 (9223372036854775807 - m) = 9223372036854775807 - m := wrap_fit F.out.fits
  simp only [e2]
  refine (add_any _ _ _ F.out.fits F.out.fit).mono ?_; rw [F.out.three.1, F.out.three.2]; rintro e w' ⟨rfl, rfl⟩
  clear e2
  go_wp2_with fail
  refine (mul_any _ _ _ F.out.fit (by decide)).mono ?_; rw [F.out.four]; rintro e w' ⟨rfl, rfl⟩
  go_wp2_with fail
  refine (mul_any _ _ _ (by decide) F.out.fit).mono ?_; rw [F.out.five]; rintro e w' ⟨rfl, rfl⟩
  go_wp2
  go_ret
  exact ⟨rfl, (Dr.drewN _ _).grown⟩

set_option maxRecDepth 100000 in
theorem lifted (os : Os) (started : os.Started) (H : Type) (enc : TypeId × Value → H) :
    ReturnsInHanded {} Try.checked os 9 .any (Rows.numberBoundsSpec.pre6 enc Try.prog Try.f9 Rows.numberBoundsRow.domain false) (Rows.numberBoundsSpec.post enc Try.prog Try.f9 false true false false) := by
  refine returnsInHanded_of_change (C := Try.checked) own started (by kernel_rfl) Try.func9
    (ChangeSpec.witness6 (enc := enc) (C := Try.checked) false ⟨#[], #[.int .i64 0], []⟩ 8 (by kernel_rfl) (by kernel_rfl) (by kernel_rfl) (by kernel_rfl)) ?_
  intro W base args ds gs before hval0 hW hcnd _
  have hval : ∀ (j : Nat) t v, Try.f9.params[j]? = some t → args[j]? = some v → Value.okWide Try.prog W .any base t v := hval0
  have hW' := hW
  obtain ⟨p, q, hA0, hV, rfl, hfz, hnd⟩ := hW
  have hA : DataW.TrodAll enc Try.prog W 0 (fun _ => true) true Try.f9.params.toList args.toList ds p := hA0
  rw [Try.params9] at hA hval
  obtain ⟨v0, vs0, d0, ds0, p0, q0, hargs, rfl, rfl, h0, r0⟩ := trodAll_cons hA
  obtain ⟨rfl, rfl, rfl⟩ := trodAll_nil r0
  obtain rfl : args = #[v0] := by cases args; simp_all
  obtain ⟨rfl, rfl⟩ := trodVars_none hV
  obtain ⟨a0, rfl, rfl, rfl, w0⟩ := open_int Try.underlying2 (hval 0 2 v0 rfl rfl) h0
  clear hA0 hval0
  simp only [List.append_nil] at hW'
  refine (walk a0 w0 W).mono fun e W' ⟨he, hg⟩ => ?_
  subst he
  exact ⟨_, rfl, post_of_same (pa := []) (pv := []) hW' (fun _ _ _ => (trodAll_cons_mk (shut_bool Try.underlying4 _) trodAll_mk0)) (fun sp _ => (trodAll_cons_mk (shut_int Try.underlying2 w0) trodAll_mk0)) (fun _ _ => rfl) rfl
    (hg.frame _) hg.2.1 (ok_one (by kernel_rfl) rfl (okWide_bool_mk Try.underlying4 _))⟩

theorem over : Rows.numberBoundsRow.holds Try.pinned (OpenSpec.ofChange Rows.numberBoundsSpec) :=
  OpenClaim.holds_of_wide 9 Try.f9 rfl rfl rfl rfl rfl rfl rfl ⟨rfl, rfl, rfl, rfl, rfl⟩ rfl rfl rfl rfl rfl (by kernel_rfl) Try.func9 (by kernel_rfl)
    (of_decide_eq_true (by kernel_rfl)) (by unfold Func.isWrapper; first | (rw [if_pos (by decide +kernel)]; kernel_rfl) | (rw [if_neg (by decide +kernel)]; exact ⟨rfl, rfl⟩))
    (fun os started H enc _ => lifted os started H enc)

theorem proved : Rows.NumberBoundsSaid :=
  over
end Go.Proofs.Ytnomejaklpfmbaa.numberBounds
