/-
  Whatever the header: a body has as many bytes as what it is told of: one of each more is so many bytes more (longcaselaw05.HeaderBodies). No condition.
-/
import Derived.Test.YtpnnfihaokebcaaLcShown5
import Derived.Test.YtpnnfihaokebcaaLcPst
import Derived.Test.YtpnnfihaokebcaaLcHdO
import Derived.WalkKit
import Derived.Deep.RegionHeld
import Derived.BigQuiet
import Derived.ProofKit
import Derived.OpenShut
namespace Go.Proofs.Ytpnnfihaokebcaa.headerBodies
open Go.ChangeShapes Go.WideShapes Go.ChangeAt Go.RowKit Lc
set_option linter.unusedVariables false

theorem own : ownKnob Try.prog.godebug = none := by kernel_rfl

theorem more_t (u s l t y c : Int) : bodyI u s l (t + 1) y c 4 = bodyI u s l t y c 4 + 5 := by unfold bodyI; omega
theorem more_t8 (u s l t y c : Int) : bodyI u s l (t + 1) y c 8 = bodyI u s l t y c 8 + 9 := by unfold bodyI; omega
theorem more_l (u s l t y c : Int) : bodyI u s (l + 1) t y c 4 = bodyI u s l t y c 4 + 8 := by unfold bodyI; omega
theorem more_l8 (u s l t y c : Int) : bodyI u s (l + 1) t y c 8 = bodyI u s l t y c 8 + 12 := by unfold bodyI; omega
theorem more_c8 (u s l t y c : Int) : bodyI u s l t y (c + 1) 8 = bodyI u s l t y c 8 + 1 := by unfold bodyI; omega
theorem more_8 (u s l t y c : Int) : bodyI u s l t y c 8 - bodyI u s l t y c 4 = 4 * t + 4 * l := by unfold bodyI; omega
theorem six_bd {v u s l t y c : Int} (r : rightH v u s l t y c = true) (ht : t ≤ 4999) (hl : l ≤ 4999) (hc : c ≤ 255) :
    (0 ≤ u ∧ u ≤ 257) ∧ (0 ≤ s ∧ s ≤ 257) ∧ (0 ≤ l ∧ l ≤ 5001) ∧ (0 ≤ t ∧ t ≤ 5001) ∧ (0 ≤ y ∧ y ≤ 257) ∧ (0 ≤ c ∧ c ≤ 257) ∧ (0 ≤ l + 1 ∧ l + 1 ≤ 5001) ∧ (0 ≤ t + 1 ∧ t + 1 ≤ 5001) ∧ (0 ≤ c + 1 ∧ c + 1 ≤ 257) := by
  have := rightH_true.1 r
  omega

set_option maxHeartbeats 4000000 in
set_option maxRecDepth 100000 in
theorem walk (w : World) (ve0 ut0 st0 le0 ti0 ty0 ch0 : Int) (wve0 : (Lit.int .i64 ve0).wf = true) (wut0 : (Lit.int .i64 ut0).wf = true) (wst0 : (Lit.int .i64 st0).wf = true) (wle0 : (Lit.int .i64 le0).wf = true) (wti0 : (Lit.int .i64 ti0).wf = true) (wty0 : (Lit.int .i64 ty0).wf = true) (wch0 : (Lit.int .i64 ch0).wf = true) :
    Calls Try.prog 7 #[hv ve0 ut0 st0 le0 ti0 ty0 ch0] w fun e w' => e = .returned (.bool true) ∧ Up w w' := by
  have B0 := Lib.hid (HBox.new w ve0 ut0 st0 le0 ti0 ty0 ch0 23)
  have R := Lib.hid fun w => hright_any ve0 ut0 st0 le0 ti0 ty0 ch0 w
  cases r : rightH ve0 ut0 st0 le0 ti0 ty0 ch0
  · rw [r] at R
    clear r
    go_enter Try.func7, Try.ntmps7
    go_wp2_with fail
    refine (shown_any _).mono ?_; rintro e w1 ⟨rfl, u1⟩
    obtain ⟨a0, a1, a2, a3, a4, a5, a6⟩ := B0.out.up u1
    have U1 := Lib.hid ((Up.alloc w (.cells #[.int .i64 ve0, .int .i64 ut0, .int .i64 st0, .int .i64 le0, .int .i64 ti0, .int .i64 ty0, .int .i64 ch0] 23)).trans u1)
    clear u1
    go_wp2_with fail
    refine (R.out _).mono ?_; rintro e w2 ⟨rfl, u2⟩
    have U2 := Lib.hid (U1.out.trans u2)
    clear u2 a0 a1 a2 a3 a4 a5 a6
    go_wp2_with fail
    go_ret
    exact ⟨rfl, U2.out⟩
  · rw [r] at R
    by_cases ht : 4999 < ti0
    · clear r
      go_enter Try.func7, Try.ntmps7
      go_wp2_with fail
      refine (shown_any _).mono ?_; rintro e w1 ⟨rfl, u1⟩
      obtain ⟨a0, a1, a2, a3, a4, a5, a6⟩ := B0.out.up u1
      have U1 := Lib.hid ((Up.alloc w (.cells #[.int .i64 ve0, .int .i64 ut0, .int .i64 st0, .int .i64 le0, .int .i64 ti0, .int .i64 ty0, .int .i64 ch0] 23)).trans u1)
      go_wp2_with fail
      refine (R.out _).mono ?_; rintro e w2 ⟨rfl, u2⟩
      have U2 := Lib.hid (U1.out.trans u2)
      replace a0 := u2.cell a0; replace a3 := u2.cell a3; replace a4 := u2.cell a4; replace a6 := u2.cell a6
      clear u1 u2 a1 a2 a5
      go_wp2_with fail
      go_ret
      exact ⟨rfl, U2.out⟩
    by_cases hl : 4999 < le0
    · clear r
      go_enter Try.func7, Try.ntmps7
      go_wp2_with fail
      refine (shown_any _).mono ?_; rintro e w1 ⟨rfl, u1⟩
      obtain ⟨a0, a1, a2, a3, a4, a5, a6⟩ := B0.out.up u1
      have U1 := Lib.hid ((Up.alloc w (.cells #[.int .i64 ve0, .int .i64 ut0, .int .i64 st0, .int .i64 le0, .int .i64 ti0, .int .i64 ty0, .int .i64 ch0] 23)).trans u1)
      go_wp2_with fail
      refine (R.out _).mono ?_; rintro e w2 ⟨rfl, u2⟩
      have U2 := Lib.hid (U1.out.trans u2)
      replace a0 := u2.cell a0; replace a3 := u2.cell a3; replace a4 := u2.cell a4; replace a6 := u2.cell a6
      clear u1 u2 a1 a2 a5
      go_wp2_with fail
      go_ret
      exact ⟨rfl, U2.out⟩
    by_cases hc : 255 < ch0
    · clear r
      go_enter Try.func7, Try.ntmps7
      go_wp2_with fail
      refine (shown_any _).mono ?_; rintro e w1 ⟨rfl, u1⟩
      obtain ⟨a0, a1, a2, a3, a4, a5, a6⟩ := B0.out.up u1
      have U1 := Lib.hid ((Up.alloc w (.cells #[.int .i64 ve0, .int .i64 ut0, .int .i64 st0, .int .i64 le0, .int .i64 ti0, .int .i64 ty0, .int .i64 ch0] 23)).trans u1)
      go_wp2_with fail
      refine (R.out _).mono ?_; rintro e w2 ⟨rfl, u2⟩
      have U2 := Lib.hid (U1.out.trans u2)
      replace a0 := u2.cell a0; replace a3 := u2.cell a3; replace a4 := u2.cell a4; replace a6 := u2.cell a6
      clear u1 u2 a1 a2 a5
      go_wp2_with fail
      go_ret
      exact ⟨rfl, U2.out⟩
    obtain ⟨q1, q2, q3, q4, q5, q6, q7, q8, q9⟩ := six_bd r (by omega) (by omega) (by omega)
    have D1 := fun w => body_any ve0 ut0 st0 le0 ti0 ty0 ch0 4 w q1 q2 q3 q4 q5 q6 (.inl rfl)
    have D2 := fun w => body_any ve0 ut0 st0 le0 ti0 ty0 ch0 8 w q1 q2 q3 q4 q5 q6 (.inr rfl)
    have D3 := fun w => body_any ve0 ut0 st0 le0 (ti0 + 1) ty0 ch0 4 w q1 q2 q3 q8 q5 q6 (.inl rfl)
    have D4 := fun w => body_any ve0 ut0 st0 le0 (ti0 + 1) ty0 ch0 8 w q1 q2 q3 q8 q5 q6 (.inr rfl)
    have D5 := fun w => body_any ve0 ut0 st0 (le0 + 1) ti0 ty0 ch0 4 w q1 q2 q7 q4 q5 q6 (.inl rfl)
    have D6 := fun w => body_any ve0 ut0 st0 (le0 + 1) ti0 ty0 ch0 8 w q1 q2 q7 q4 q5 q6 (.inr rfl)
    have D7 := fun w => body_any ve0 ut0 st0 le0 ti0 ty0 (ch0 + 1) 8 w q1 q2 q3 q4 q5 q9 (.inr rfl)
    rw [more_t] at D3; rw [more_t8] at D4; rw [more_l] at D5; rw [more_l8] at D6; rw [more_c8] at D7
    have M8 := more_8 ut0 st0 le0 ti0 ty0 ch0
    obtain ⟨f0, f1⟩ := bodyI_bd r (z := 4) (.inl rfl)
    obtain ⟨f2, f3⟩ := bodyI_bd r (z := 8) (.inr rfl)
    generalize bodyI ut0 st0 le0 ti0 ty0 ch0 4 = F at *
    generalize bodyI ut0 st0 le0 ti0 ty0 ch0 8 = G at *
    replace D1 := Lib.hid D1; replace D2 := Lib.hid D2; replace D3 := Lib.hid D3; replace D4 := Lib.hid D4; replace D5 := Lib.hid D5; replace D6 := Lib.hid D6; replace D7 := Lib.hid D7
    obtain ⟨t0, t1⟩ := q4; obtain ⟨l0, l1⟩ := q3; obtain ⟨c0, c1⟩ := q6
    clear r q1 q2 q5 q7 q8 q9
    go_enter Try.func7, Try.ntmps7
    go_wp2_with fail
    refine (shown_any _).mono ?_; rintro e w1 ⟨rfl, u1⟩
    have B1 := Lib.hid (B0.out.up u1)
    have U1 := Lib.hid ((Up.alloc w (.cells #[.int .i64 ve0, .int .i64 ut0, .int .i64 st0, .int .i64 le0, .int .i64 ti0, .int .i64 ty0, .int .i64 ch0] 23)).trans u1)
    clear u1 B0
    obtain ⟨a0, a1, a2, a3, a4, a5, a6⟩ := B1.out
    go_wp2_with fail
    refine (R.out _).mono ?_; rintro e w2 ⟨rfl, u2⟩
    have B2 := Lib.hid (B1.out.up u2)
    have U2 := Lib.hid (U1.out.trans u2)
    clear u2 B1 U1 a0 a1 a2 a3 a4 a5 a6
    obtain ⟨a0, a1, a2, a3, a4, a5, a6⟩ := B2.out
    go_wp2_with fail
    refine (D1.out _).mono ?_; rintro e w3 ⟨rfl, u3⟩
    have B3 := Lib.hid (B2.out.up u3)
    have U3 := Lib.hid (U2.out.trans u3)
    clear u3 B2 U2 a0 a1 a2 a3 a4 a5 a6
    obtain ⟨a0, a1, a2, a3, a4, a5, a6⟩ := B3.out
    go_wp2_with fail
    refine (D2.out _).mono ?_; rintro e w4 ⟨rfl, u4⟩
    have B4 := Lib.hid (B3.out.up u4)
    have U4 := Lib.hid (U3.out.trans u4)
    clear u4 B3 U3 a0 a1 a2 a3 a4 a5 a6
    obtain ⟨a0, a1, a2, a3, a4, a5, a6⟩ := B4.out
    have lt := cell_lt a0
    have lt2 : w.heap.size < w4.heap.size + 1 := by omega
    have lt3 : w.heap.size < w4.heap.size + 1 + 1 := by omega
    have U := Lib.hid (((U4.out.alloc' (.cells #[.int .i64 ve0, .int .i64 ut0, .int .i64 st0, .int .i64 le0, .int .i64 (ti0 + 1), .int .i64 ty0, .int .i64 ch0] 23)).alloc' (.cells #[.int .i64 ve0, .int .i64 ut0, .int .i64 st0, .int .i64 (le0 + 1), .int .i64 ti0, .int .i64 ty0, .int .i64 ch0] 23)).alloc' (.cells #[.int .i64 ve0, .int .i64 ut0, .int .i64 st0, .int .i64 le0, .int .i64 ti0, .int .i64 ty0, .int .i64 (ch0 + 1)] 23))
    have BK := Lib.hid (((HBox.new w4 ve0 ut0 st0 le0 (ti0 + 1) ty0 ch0 23).up (Up.alloc _ (.cells #[.int .i64 ve0, .int .i64 ut0, .int .i64 st0, .int .i64 (le0 + 1), .int .i64 ti0, .int .i64 ty0, .int .i64 ch0] 23))).up (Up.alloc _ (.cells #[.int .i64 ve0, .int .i64 ut0, .int .i64 st0, .int .i64 le0, .int .i64 ti0, .int .i64 ty0, .int .i64 (ch0 + 1)] 23)))
    have BL := (HBox.new (w4.alloc (.cells #[.int .i64 ve0, .int .i64 ut0, .int .i64 st0, .int .i64 le0, .int .i64 (ti0 + 1), .int .i64 ty0, .int .i64 ch0] 23)) ve0 ut0 st0 (le0 + 1) ti0 ty0 ch0 23).up (Up.alloc _ (.cells #[.int .i64 ve0, .int .i64 ut0, .int .i64 st0, .int .i64 le0, .int .i64 ti0, .int .i64 ty0, .int .i64 (ch0 + 1)] 23))
    have BM := HBox.new ((w4.alloc (.cells #[.int .i64 ve0, .int .i64 ut0, .int .i64 st0, .int .i64 le0, .int .i64 (ti0 + 1), .int .i64 ty0, .int .i64 ch0] 23)).alloc (.cells #[.int .i64 ve0, .int .i64 ut0, .int .i64 st0, .int .i64 (le0 + 1), .int .i64 ti0, .int .i64 ty0, .int .i64 ch0] 23)) ve0 ut0 st0 le0 ti0 ty0 (ch0 + 1) 23
    rw [World.size_alloc] at BL
    rw [World.size_alloc, World.size_alloc] at BM
    replace BL := Lib.hid BL; replace BM := Lib.hid BM
    go_wp2_with fail
    refine (D3.out _).mono ?_; rintro e w6 ⟨rfl, uu⟩
    replace U := Lib.hid (U.out.trans uu); replace BK := Lib.hid (BK.out.up uu); replace BL := Lib.hid (BL.out.up uu); replace BM := Lib.hid (BM.out.up uu)
    clear uu a0 a1 a2 a3 a4 a5 a6 lt lt2 lt3 B4 U4
    obtain ⟨k0, k1, k2, k3, k4, k5, k6⟩ := BK.out
    obtain ⟨l0', l1', l2', l3', l4', l5', l6'⟩ := BL.out
    obtain ⟨m0, m1, m2, m3, m4, m5, m6⟩ := BM.out
    go_wp2_with fail
    refine (D4.out _).mono ?_; rintro e w7 ⟨rfl, uu⟩
    replace U := Lib.hid (U.out.trans uu); replace BK := Lib.hid (BK.out.up uu); replace BL := Lib.hid (BL.out.up uu); replace BM := Lib.hid (BM.out.up uu)
    clear uu k0 k1 k2 k3 k4 k5 k6 l0' l1' l2' l3' l4' l5' l6' m0 m1 m2 m3 m4 m5 m6
    obtain ⟨k0, k1, k2, k3, k4, k5, k6⟩ := BK.out
    obtain ⟨l0', l1', l2', l3', l4', l5', l6'⟩ := BL.out
    obtain ⟨m0, m1, m2, m3, m4, m5, m6⟩ := BM.out
    go_wp2_with fail
    refine (D5.out _).mono ?_; rintro e w8 ⟨rfl, uu⟩
    replace U := Lib.hid (U.out.trans uu); replace BK := Lib.hid (BK.out.up uu); replace BL := Lib.hid (BL.out.up uu); replace BM := Lib.hid (BM.out.up uu)
    clear uu k0 k1 k2 k3 k4 k5 k6 l0' l1' l2' l3' l4' l5' l6' m0 m1 m2 m3 m4 m5 m6
    obtain ⟨k0, k1, k2, k3, k4, k5, k6⟩ := BK.out
    obtain ⟨l0', l1', l2', l3', l4', l5', l6'⟩ := BL.out
    obtain ⟨m0, m1, m2, m3, m4, m5, m6⟩ := BM.out
    go_wp2_with fail
    refine (D6.out _).mono ?_; rintro e w9 ⟨rfl, uu⟩
    replace U := Lib.hid (U.out.trans uu); replace BK := Lib.hid (BK.out.up uu); replace BL := Lib.hid (BL.out.up uu); replace BM := Lib.hid (BM.out.up uu)
    clear uu k0 k1 k2 k3 k4 k5 k6 l0' l1' l2' l3' l4' l5' l6' m0 m1 m2 m3 m4 m5 m6
    obtain ⟨k0, k1, k2, k3, k4, k5, k6⟩ := BK.out
    obtain ⟨l0', l1', l2', l3', l4', l5', l6'⟩ := BL.out
    obtain ⟨m0, m1, m2, m3, m4, m5, m6⟩ := BM.out
    go_wp2_with fail
    refine (D7.out _).mono ?_; rintro e w10 ⟨rfl, uu⟩
    replace U := Lib.hid (U.out.trans uu); replace BK := Lib.hid (BK.out.up uu); replace BL := Lib.hid (BL.out.up uu); replace BM := Lib.hid (BM.out.up uu)
    clear uu k0 k1 k2 k3 k4 k5 k6 l0' l1' l2' l3' l4' l5' l6' m0 m1 m2 m3 m4 m5 m6
    obtain ⟨k0, k1, k2, k3, k4, k5, k6⟩ := BK.out
    obtain ⟨l0', l1', l2', l3', l4', l5', l6'⟩ := BL.out
    obtain ⟨m0, m1, m2, m3, m4, m5, m6⟩ := BM.out
    go_wp2_with fail
    go_ret
    exact ⟨rfl, U.out⟩

theorem readable : ∀ t ∈ Try.f7.params.toList, Try.prog.readableRec t = true ∧ t < Try.prog.types.size := by
  rw [Try.params7]
  intro t ht
  have hall : ([23].all fun u => Try.prog.readableRec u && decide (u < Try.prog.types.size)) = true := by kernel_rfl
  have := List.all_eq_true.1 hall t (by simpa using ht)
  simpa using this

set_option maxRecDepth 100000 in
theorem lifted (os : Os) (started : os.Started) (H : Type) (enc : TypeId × Value → H) :
    ReturnsInHanded {} Try.checked os 7 .any (Rows.headerBodiesSpec.pre6 enc Try.prog Try.f7 Rows.headerBodiesRow.domain false) (Rows.headerBodiesSpec.post enc Try.prog Try.f7 false true false false) := by
  refine returnsInHanded_of_change (C := Try.checked) own started (by kernel_rfl) Try.func7
    (ChangeSpec.witness6 (enc := enc) (C := Try.checked) false ⟨#[], #[hv 0 0 0 0 0 0 0], []⟩ 8 (by kernel_rfl) (by kernel_rfl) (by kernel_rfl) (by kernel_rfl)) ?_
  intro W base args ds gs before hval0 hW hcnd _
  have hval : ∀ (j : Nat) t v, Try.f7.params[j]? = some t → args[j]? = some v → Value.okWide Try.prog W .any base t v := hval0
  have hW' := hW
  obtain ⟨p, q, hA0, hV, rfl, hfz, hnd⟩ := hW
  have hA : DataW.TrodAll enc Try.prog W 0 (fun _ => true) true Try.f7.params.toList args.toList ds p := hA0
  rw [Try.params7] at hA hval
  obtain ⟨v0, vs0, d0, ds0, p0, q0, hargs, rfl, rfl, h0, r0⟩ := trodAll_cons hA
  obtain ⟨rfl, rfl, rfl⟩ := trodAll_nil r0
  obtain rfl : args = #[v0] := by cases args; simp_all
  obtain ⟨rfl, rfl⟩ := trodVars_none hV
  obtain ⟨ve0, ut0, st0, le0, ti0, ty0, ch0, rfl, wve0, wut0, wst0, wle0, wti0, wty0, wch0⟩ := open_hdr (hval 0 23 v0 rfl rfl) h0
  clear hA0 hval0
  refine (walk W ve0 ut0 st0 le0 ti0 ty0 ch0 wve0 wut0 wst0 wle0 wti0 wty0 wch0).mono fun e W' ⟨he, hg⟩ => ?_
  subst he
  exact ⟨_, rfl, post_up laidOut readable rfl hW' (fun _ _ _ => (trodAll_cons_mk (shut_bool Try.underlying4 _) trodAll_mk0)) rfl rfl
    hg (ok_one (by kernel_rfl) rfl (okWide_bool_mk Try.underlying4 _))⟩

theorem over : Rows.headerBodiesRow.holds Try.pinned (OpenSpec.ofChange Rows.headerBodiesSpec) :=
  OpenClaim.holds_of_wide 7 Try.f7 rfl rfl rfl rfl rfl rfl rfl ⟨rfl, rfl, rfl, rfl, rfl⟩ rfl rfl rfl rfl rfl (by kernel_rfl) Try.func7 (by kernel_rfl)
    (of_decide_eq_true (by kernel_rfl)) (by unfold Func.isWrapper; first | (rw [if_pos (by decide +kernel)]; kernel_rfl) | (rw [if_neg (by decide +kernel)]; exact ⟨rfl, rfl⟩))
    (fun os started H enc _ => lifted os started H enc)

theorem proved : Rows.HeaderBodiesSaid :=
  over
end Go.Proofs.Ytpnnfihaokebcaa.headerBodies
