/-
  Whatever the header: it is right, and told as bytes, as the document says; and its body has as many bytes (longcaselaw05.HeaderTells). No condition.
-/
import Derived.Test.YtpnnfihaokebcaaLcShown5
import Derived.Test.YtpnnfihaokebcaaLcPst
import Derived.Test.YtpnnfihaokebcaaLcHdO
import Derived.Test.YtpnnfihaokebcaaLcHdrG
import Derived.Test.YtpnnfihaokebcaaLcHdrF
import Derived.WalkKit
import Derived.Deep.RegionHeld
import Derived.BigQuiet
import Derived.ProofKit
import Derived.OpenShut
namespace Go.Proofs.Ytpnnfihaokebcaa.headerTells
open Go.ChangeShapes Go.WideShapes Go.ChangeAt Go.RowKit Lc
set_option linter.unusedVariables false

theorem own : ownKnob Try.prog.godebug = none := by kernel_rfl

theorem six_b {v u s l t y c : Int} (r : rightH v u s l t y c = true) :
    (0 ≤ u ∧ u ≤ 257) ∧ (0 ≤ s ∧ s ≤ 257) ∧ (0 ≤ l ∧ l ≤ 5001) ∧ (0 ≤ t ∧ t ≤ 5001) ∧ (0 ≤ y ∧ y ≤ 257) ∧ (0 ≤ c ∧ c ≤ 257) := by
  have := rightH_true.1 r
  omega

set_option maxHeartbeats 4000000 in
set_option maxRecDepth 100000 in
theorem walk (w : World) (ve0 ut0 st0 le0 ti0 ty0 ch0 : Int) (wve0 : (Lit.int .i64 ve0).wf = true) (wut0 : (Lit.int .i64 ut0).wf = true) (wst0 : (Lit.int .i64 st0).wf = true) (wle0 : (Lit.int .i64 le0).wf = true) (wti0 : (Lit.int .i64 ti0).wf = true) (wty0 : (Lit.int .i64 ty0).wf = true) (wch0 : (Lit.int .i64 ch0).wf = true) :
    Calls Try.prog 3 #[hv ve0 ut0 st0 le0 ti0 ty0 ch0] w fun e w' => e = .returned (.bool true) ∧ Up w w' := by
  have B0 := Lib.hid (HBox.new w ve0 ut0 st0 le0 ti0 ty0 ch0 23)
  have R := Lib.hid fun w => hright_any ve0 ut0 st0 le0 ti0 ty0 ch0 w
  have RR := Lib.hid fun w => refRight_any ve0 ut0 st0 le0 ti0 ty0 ch0 w
  have RF := Lib.hid fun w => ref_any ve0 ut0 st0 le0 ti0 ty0 ch0 w
  cases r : rightH ve0 ut0 st0 le0 ti0 ty0 ch0
  · have E := Lib.hid fun w => encode_no ve0 ut0 st0 le0 ti0 ty0 ch0 w r
    rw [r] at R RR
    clear r
    go_enter Try.func3, Try.ntmps3
    go_wp2_with fail
    refine (shown_any _).mono ?_; rintro e w1 ⟨rfl, u1⟩
    have B1 := Lib.hid (B0.out.up u1)
    have U1 := Lib.hid ((Up.alloc w (.cells #[.int .i64 ve0, .int .i64 ut0, .int .i64 st0, .int .i64 le0, .int .i64 ti0, .int .i64 ty0, .int .i64 ch0] 23)).trans u1)
    clear u1 B0
    obtain ⟨a0, a1, a2, a3, a4, a5, a6⟩ := B1.out
    go_wp2_with fail
    refine (RF.out _).mono ?_; rintro e w2 ⟨rfl, u2⟩
    have B2 := Lib.hid (B1.out.up u2)
    have U2 := Lib.hid (U1.out.trans u2)
    clear u2 B1 U1 a0 a1 a2 a3 a4 a5 a6
    obtain ⟨a0, a1, a2, a3, a4, a5, a6⟩ := B2.out
    go_wp2_with fail
    refine (RR.out _).mono ?_; rintro e w3 ⟨rfl, u3⟩
    have B3 := Lib.hid (B2.out.up u3)
    have U3 := Lib.hid (U2.out.trans u3)
    clear u3 B2 U2 a0 a1 a2 a3 a4 a5 a6
    obtain ⟨a0, a1, a2, a3, a4, a5, a6⟩ := B3.out
    go_wp2_with fail
    refine (E.out _).mono ?_; rintro e w4 ⟨rfl, u4⟩
    have B4 := Lib.hid (B3.out.up u4)
    have U4 := Lib.hid (U3.out.trans u4)
    clear u4 B3 U3 a0 a1 a2 a3 a4 a5 a6
    obtain ⟨a0, a1, a2, a3, a4, a5, a6⟩ := B4.out
    go_wp2_with fail
    refine (R.out _).mono ?_; rintro e w5 ⟨rfl, u5⟩
    have U5 := Lib.hid (U4.out.trans u5)
    clear u5 B4 U4 a0 a1 a2 a3 a4 a5 a6
    go_wp2_with fail
    go_ret
    exact ⟨rfl, U5.out⟩
  · have E := Lib.hid fun w => encode_yes ve0 ut0 st0 le0 ti0 ty0 ch0 w r
    have ER := Lib.hid fun w => refEncode_yes ve0 ut0 st0 le0 ti0 ty0 ch0 w r
    obtain ⟨q1, q2, q3, q4, q5, q6⟩ := six_b r
    have D1 := fun w => body_any ve0 ut0 st0 le0 ti0 ty0 ch0 4 w q1 q2 q3 q4 q5 q6 (.inl rfl)
    have D2 := fun w => body_any ve0 ut0 st0 le0 ti0 ty0 ch0 8 w q1 q2 q3 q4 q5 q6 (.inr rfl)
    have D3 := fun w => refBody_any ve0 ut0 st0 le0 ti0 ty0 ch0 4 w q1 q2 q3 q4 q5 q6 (.inl rfl)
    have D4 := fun w => refBody_any ve0 ut0 st0 le0 ti0 ty0 ch0 8 w q1 q2 q3 q4 q5 q6 (.inr rfl)
    generalize bodyI ut0 st0 le0 ti0 ty0 ch0 4 = F at *
    generalize bodyI ut0 st0 le0 ti0 ty0 ch0 8 = G at *
    rw [r] at R RR
    have eL := encB_len ve0 ut0 st0 le0 ti0 ty0 ch0
    generalize encB ve0 ut0 st0 le0 ti0 ty0 ch0 = X at *
    have XL := Lib.hid eL
    clear r q1 q2 q3 q4 q5 q6 eL
    go_enter Try.func3, Try.ntmps3
    go_wp2_with fail
    refine (shown_any _).mono ?_; rintro e w1 ⟨rfl, u1⟩
    have B1 := Lib.hid (B0.out.up u1)
    have U1 := Lib.hid ((Up.alloc w (.cells #[.int .i64 ve0, .int .i64 ut0, .int .i64 st0, .int .i64 le0, .int .i64 ti0, .int .i64 ty0, .int .i64 ch0] 23)).trans u1)
    clear u1 B0
    obtain ⟨a0, a1, a2, a3, a4, a5, a6⟩ := B1.out
    go_wp2_with fail
    refine (RF.out _).mono ?_; rintro e w2 ⟨rfl, u2⟩
    have B2 := Lib.hid (B1.out.up u2)
    have U2 := Lib.hid (U1.out.trans u2)
    clear u2 B1 U1 a0 a1 a2 a3 a4 a5 a6
    obtain ⟨a0, a1, a2, a3, a4, a5, a6⟩ := B2.out
    go_wp2_with fail
    refine (RR.out _).mono ?_; rintro e w3 ⟨rfl, u3⟩
    have B3 := Lib.hid (B2.out.up u3)
    have U3 := Lib.hid (U2.out.trans u3)
    clear u3 B2 U2 a0 a1 a2 a3 a4 a5 a6
    obtain ⟨a0, a1, a2, a3, a4, a5, a6⟩ := B3.out
    go_wp2_with fail
    refine (E.out _).mono ?_; rintro e w4 ⟨a, rfl, ho, u4⟩
    obtain ⟨A, c, rfl, hc, hcm, hr, _⟩ := ho.form
    rw [XL.out] at hc ⊢
    have R4 := Lib.hid hr
    have B4 := Lib.hid (B3.out.up u4)
    have U4 := Lib.hid (U3.out.trans u4)
    clear u4 B3 U3 a0 a1 a2 a3 a4 a5 a6 ho hr
    obtain ⟨a0, a1, a2, a3, a4, a5, a6⟩ := B4.out
    go_wp2_with fail
    refine (R.out _).mono ?_; rintro e w5 ⟨rfl, u5⟩
    have R5 := Lib.hid (R4.out.up u5)
    have B5 := Lib.hid (B4.out.up u5)
    have U5 := Lib.hid (U4.out.trans u5)
    clear u5 B4 U4 R4 a0 a1 a2 a3 a4 a5 a6
    obtain ⟨a0, a1, a2, a3, a4, a5, a6⟩ := B5.out
    go_wp2_with fail
    have UU : Hid (Up w5 w5.drew) := Up.drewN w5 1
    have KS : Hid (∀ w', Up w5 w' → (w'.cell? ⟨w.heap.size, 0, none⟩ = some (.int .i64 ve0) ∧ w'.cell? ⟨w.heap.size, 1, none⟩ = some (.int .i64 ut0) ∧ w'.cell? ⟨w.heap.size, 2, none⟩ = some (.int .i64 st0) ∧ w'.cell? ⟨w.heap.size, 3, none⟩ = some (.int .i64 le0) ∧ w'.cell? ⟨w.heap.size, 4, none⟩ = some (.int .i64 ti0) ∧ w'.cell? ⟨w.heap.size, 5, none⟩ = some (.int .i64 ty0) ∧ w'.cell? ⟨w.heap.size, 6, none⟩ = some (.int .i64 ch0)) ∧ (convert 28 9 (.slice A 44 c)).run Try.prog w' = .ok (.string (str X)) w') := fun w' x => ⟨B5.out.up x, convert_rd w' A 44 c X XL.out (R5.out.up x)⟩
    clear a0 a1 a2 a3 a4 a5 a6
    go_region_held (fun w' => (w'.cell? ⟨w.heap.size, 0, none⟩ = some (.int .i64 ve0) ∧ w'.cell? ⟨w.heap.size, 1, none⟩ = some (.int .i64 ut0) ∧ w'.cell? ⟨w.heap.size, 2, none⟩ = some (.int .i64 st0) ∧ w'.cell? ⟨w.heap.size, 3, none⟩ = some (.int .i64 le0) ∧ w'.cell? ⟨w.heap.size, 4, none⟩ = some (.int .i64 ti0) ∧ w'.cell? ⟨w.heap.size, 5, none⟩ = some (.int .i64 ty0) ∧ w'.cell? ⟨w.heap.size, 6, none⟩ = some (.int .i64 ch0)) ∧ (convert 28 9 (.slice A 44 c)).run Try.prog w' = .ok (.string (str X)) w') (exact KS.out _ UU.out)
      (first
        | (go_at_call 11; refine (RF.out _).mono ?_; rintro e w' ⟨rfl, u⟩; replace UU := Lib.hid (UU.out.trans u); clear u)
        | (go_at_call 14; refine (ER.out _).mono ?_; rintro e w' ⟨a, rfl, ho, u⟩; obtain ⟨A', c', rfl, hc', hcm', hr', _⟩ := ho.form; rw [XL.out] at hc' ⊢; have kc := convert_rd w' A' 44 c' X XL.out hr'; replace UU := Lib.hid (UU.out.trans u); clear u ho hr')
        | (go_at_call 15; first | (with_reducible refine (D1 _).mono ?_; rintro e w' ⟨rfl, u⟩; replace UU := Lib.hid (UU.out.trans u); clear u) | (with_reducible refine (D2 _).mono ?_; rintro e w' ⟨rfl, u⟩; replace UU := Lib.hid (UU.out.trans u); clear u))
        | (go_at_call 16; first | (with_reducible refine (D3 _).mono ?_; rintro e w' ⟨rfl, u⟩; replace UU := Lib.hid (UU.out.trans u); clear u) | (with_reducible refine (D4 _).mono ?_; rintro e w' ⟨rfl, u⟩; replace UU := Lib.hid (UU.out.trans u); clear u)))
    go_wp2_with fail
    go_ret
    exact ⟨rfl, U5.out.trans UU.out⟩

theorem readable : ∀ t ∈ Try.f3.params.toList, Try.prog.readableRec t = true ∧ t < Try.prog.types.size := by
  rw [Try.params3]
  intro t ht
  have hall : ([23].all fun u => Try.prog.readableRec u && decide (u < Try.prog.types.size)) = true := by kernel_rfl
  have := List.all_eq_true.1 hall t (by simpa using ht)
  simpa using this

set_option maxRecDepth 100000 in
theorem lifted (os : Os) (started : os.Started) (H : Type) (enc : TypeId × Value → H) :
    ReturnsInHanded {} Try.checked os 3 .any (Rows.headerTellsSpec.pre6 enc Try.prog Try.f3 Rows.headerTellsRow.domain false) (Rows.headerTellsSpec.post enc Try.prog Try.f3 false true false false) := by
  refine returnsInHanded_of_change (C := Try.checked) own started (by kernel_rfl) Try.func3
    (ChangeSpec.witness6 (enc := enc) (C := Try.checked) false ⟨#[], #[hv 0 0 0 0 0 0 0], []⟩ 8 (by kernel_rfl) (by kernel_rfl) (by kernel_rfl) (by kernel_rfl)) ?_
  intro W base args ds gs before hval0 hW hcnd _
  have hval : ∀ (j : Nat) t v, Try.f3.params[j]? = some t → args[j]? = some v → Value.okWide Try.prog W .any base t v := hval0
  have hW' := hW
  obtain ⟨p, q, hA0, hV, rfl, hfz, hnd⟩ := hW
  have hA : DataW.TrodAll enc Try.prog W 0 (fun _ => true) true Try.f3.params.toList args.toList ds p := hA0
  rw [Try.params3] at hA hval
  obtain ⟨v0, vs0, d0, ds0, p0, q0, hargs, rfl, rfl, h0, r0⟩ := trodAll_cons hA
  obtain ⟨rfl, rfl, rfl⟩ := trodAll_nil r0
  obtain rfl : args = #[v0] := by cases args; simp_all
  obtain ⟨rfl, rfl⟩ := trodVars_none hV
  obtain ⟨ve0, ut0, st0, le0, ti0, ty0, ch0, rfl, wve0, wut0, wst0, wle0, wti0, wty0, wch0⟩ := open_hdr (hval 0 23 v0 rfl rfl) h0
  clear hA0 hval0
  refine (walk W ve0 ut0 st0 le0 ti0 ty0 ch0 wve0 wut0 wst0 wle0 wti0 wty0 wch0).mono fun e W' ⟨he, hg⟩ => ?_
  subst he
  exact ⟨_, rfl, post_up laidOut readable rfl hW' (fun _ _ _ => (trodAll_cons_mk (shut_bool Try.underlying4 _) trodAll_mk0)) rfl rfl
    hg (ok_one (by kernel_rfl) rfl (okWide_bool_mk Try.underlying4 _))⟩

theorem over : Rows.headerTellsRow.holds Try.pinned (OpenSpec.ofChange Rows.headerTellsSpec) :=
  OpenClaim.holds_of_wide 3 Try.f3 rfl rfl rfl rfl rfl rfl rfl ⟨rfl, rfl, rfl, rfl, rfl⟩ rfl rfl rfl rfl rfl (by kernel_rfl) Try.func3 (by kernel_rfl)
    (of_decide_eq_true (by kernel_rfl)) (by unfold Func.isWrapper; first | (rw [if_pos (by decide +kernel)]; kernel_rfl) | (rw [if_neg (by decide +kernel)]; exact ⟨rfl, rfl⟩))
    (fun os started H enc _ => lifted os started H enc)

theorem proved : Rows.HeaderTellsSaid :=
  over
end Go.Proofs.Ytpnnfihaokebcaa.headerTells
