/-
  TzifReads answers true: bytes (three thousand) are files, or none, as the document says. No condition.
-/
import Derived.Test.YtaljddoenjgbfaaGreatLcShown7
import Derived.Test.YtaljddoenjgbfaaGreatLcTzO
import Derived.Test.YtaljddoenjgbfaaGreatLcMp
import Derived.Test.YtaljddoenjgbfaaGreatLcMm
import Derived.Test.YtaljddoenjgbfaaGreatLcT7D
import Derived.WalkKit
import Derived.Deep.RegionHeld
import Derived.BigQuiet
import Derived.ProofKit
import Derived.OpenShut
import Derived.Deep.CutRange
import Derived.StillTailTactics
namespace Go.Proofs.YtaljddoenjgbfaaGreat.tzifReads
open Go.ChangeShapes Go.WideShapes Go.ChangeAt Go.RowKit Lc
set_option linter.unusedVariables false

set_option maxRecDepth 100000 in
theorem own : ownKnob Tryz.prog.godebug = none := by kernel_rfl

set_option maxRecDepth 100000 in
theorem cut3000 {w : World} {A : Option Addr} {l : List UInt8} {c : Nat} (n : l.length ≤ c) (r : Rd w A l) : ∃ (k : List UInt8) (p : Nat), k.length = p ∧ p ≤ 3000 ∧ p ≤ l.length ∧ p ≤ c ∧ min (l.length : Int) 3000 = (p : Int) ∧ Rd w A k :=
  ⟨l.take 3000, _, rfl, by rw [List.length_take]; omega, by rw [List.length_take]; omega, by rw [List.length_take]; omega, by rw [List.length_take]; omega, r.take 3000⟩

set_option maxHeartbeats 4000000 in
set_option maxRecDepth 100000 in
theorem walk (w : World) (A0 : Option Addr) (l0 : List UInt8) (c0 : Nat) (n0 : l0.length ≤ c0) (m0 : c0 ≤ maxLen) (r0 : Rd w A0 l0) :
    Calls Tryz.prog 4 #[.slice A0 l0.length c0] w fun e w' => e = .returned (.bool true) ∧ Up w w' := by
  obtain ⟨k0, p0, e0, p0a, p0b, p0c, q0, R0⟩ := cut3000 n0 r0
  have SB := Lib.hid (show Sb w (.slice A0 p0 c0) k0 from ⟨A0, c0, by rw [e0], by rw [e0]; exact p0c, m0, R0⟩)
  have SH := Lib.hid (fun w => shown7_any w)
  have D0 := Lib.hid (fun w1 (u : Up w w1) => tdecode_any _ k0 w1 (SB.out.up u))
  have D1 := Lib.hid (fun w1 (u : Up w w1) => ddecode7_any _ k0 w1 (SB.out.up u))
  have V := Lib.hid fun w' (x : Up w w') => convert_rd w' A0 p0 c0 k0 e0 (R0.up x)
  unfold DfP at D0
  unfold DdP at D1
  unfold maxLen at m0
  clear r0 R0 SB e0
  generalize tdE k0 = er at *
  generalize tdF k0 = F at *
  generalize str k0 = SE at *
  have RF := Lib.hid (fun w1 v (k : FlR w1 v F) => ref7_any v F w1 k)
  have SM := Lib.hid (fun w1 a b (ka : FlR w1 a F) (kb : FlR w1 b F) => same7_yes a b F w1 ka kb)
  go_enter Tryz.func4, Tryz.ntmps4
  go_wp2_with fail
  refine (SH.out _).mono ?_; rintro e w1 ⟨rfl, u1⟩
  have V1 := V.out w1 u1
  go_wp2_with fail
  refine (D0.out _ u1).mono ?_; rintro e w2 ⟨v2, rfl, k2, _, u2⟩
  obtain ⟨P0, y0, d0, P1, y1, d1, P2, y2, d2, P3, y3, d3, P4, y4, d4, rfl, _⟩ := k2.form
  have ub := Up.alloc w2 (.cells #[.int .i64 F.ver, .slice P0 y0 d0, .slice P1 y1 d1, .slice P2 y2 d2, .slice P3 y3 d3, .slice P4 y4 d4, .string F.foot] 29)
  have X2 := Lib.hid (Bx7.new w2 (.int .i64 F.ver) (.slice P0 y0 d0) (.slice P1 y1 d1) (.slice P2 y2 d2) (.slice P3 y3 d3) (.slice P4 y4 d4) (.string F.foot) 29)
  have U2 := Lib.hid ((u1.trans u2).trans ub)
  have K2 := Lib.hid (k2.up ub)
  clear u1 u2 k2 D0 SH ub V1
  go_wp2_with fail
  generalize w2.alloc (.cells #[.int .i64 F.ver, .slice P0 y0 d0, .slice P1 y1 d1, .slice P2 y2 d2, .slice P3 y3 d3, .slice P4 y4 d4, .string F.foot] 29) = W2 at *
  generalize w2.heap.size = B2 at *
  refine (D1.out _ U2.out).mono ?_; rintro e w3 ⟨v3, rfl, k3, u3⟩
  obtain ⟨Q0, z0, g0, Q1, z1, g1, Q2, z2, g2, Q3, z3, g3, Q4, z4, g4, rfl, _⟩ := k3.form
  have ub := Up.alloc w3 (.cells #[.int .i64 F.ver, .slice Q0 z0 g0, .slice Q1 z1 g1, .slice Q2 z2 g2, .slice Q3 z3 g3, .slice Q4 z4 g4, .string F.foot] 39)
  have X3 := Lib.hid (Bx7.new w3 (.int .i64 F.ver) (.slice Q0 z0 g0) (.slice Q1 z1 g1) (.slice Q2 z2 g2) (.slice Q3 z3 g3) (.slice Q4 z4 g4) (.string F.foot) 39)
  have u23 := u3.trans ub
  have U3 := Lib.hid (U2.out.trans u23)
  have K3 := Lib.hid (k3.up ub)
  have K2' := Lib.hid (K2.out.up u23)
  have X2' := Lib.hid (X2.out.up u23)
  clear u3 u23 ub k3 D1 X2 K2 U2
  go_wp2_with fail
  generalize w3.alloc (.cells #[.int .i64 F.ver, .slice Q0 z0 g0, .slice Q1 z1 g1, .slice Q2 z2 g2, .slice Q3 z3 g3, .slice Q4 z4 g4, .string F.foot] 39) = V3 at *
  generalize w3.heap.size = B3 at *
  obtain ⟨b0, b1, b2, b3, b4, b5, b6⟩ := X2'.out
  obtain ⟨a0, a1, a2, a3, a4, a5, a6⟩ := X3.out
  replace b0 := cell_regrown b0; replace b1 := cell_regrown b1; replace b2 := cell_regrown b2; replace b3 := cell_regrown b3; replace b4 := cell_regrown b4; replace b5 := cell_regrown b5; replace b6 := cell_regrown b6
  replace a0 := cell_regrown a0; replace a1 := cell_regrown a1; replace a2 := cell_regrown a2; replace a3 := cell_regrown a3; replace a4 := cell_regrown a4; replace a5 := cell_regrown a5; replace a6 := cell_regrown a6
  have G1 := quiet_up (w := V3) (fun W u => RF.out W _ (K2'.out.up u))
  have G3 := quiet_up (w := V3) (fun W u => SM.out W _ _ (K2'.out.up u) (K3.out.up u))
  have v4 := fun d os => V.out _ (U3.out.trans (up_grown V3 d os))
  refine wp_region_quiet_below (by kernel_rfl) (by kernel_rfl) ?_
  repeat (quiet_step (first | (with_reducible exact G1 _ _) | (with_reducible exact G3 _ _)))
  refine wpQuiet_nil ?_
  rintro _ ⟨⟨dq, osq⟩, rfl⟩
  have UF := Lib.hid (U3.out.trans (up_grown V3 dq osq))
  clear a0 a1 a2 a3 a4 a5 a6 b0 b1 b2 b3 b4 b5 b6 G1 G3 v4
  go_wp2_with fail
  go_ret
  exact ⟨rfl, UF.out⟩

set_option maxRecDepth 100000 in
theorem readable : ∀ t ∈ Tryz.f4.params.toList, Tryz.prog.readableRec t = true ∧ t < Tryz.prog.types.size := by
  rw [Tryz.params4]
  intro t ht
  have hall : ([32].all fun u => Tryz.prog.readableRec u && decide (u < Tryz.prog.types.size)) = true := by kernel_rfl
  have := List.all_eq_true.1 hall t (by simpa using ht)
  simpa using this

set_option maxRecDepth 100000 in
theorem lifted (os : Os) (started : os.Started) (H : Type) (enc : TypeId × Value → H) :
    ReturnsInHanded {} Tryz.checked os 4 .any (Rows.tzifReadsSpec.pre6 enc Tryz.prog Tryz.f4 Rows.tzifReadsRow.domain false) (Rows.tzifReadsSpec.post enc Tryz.prog Tryz.f4 false true false false) := by
  refine returnsInHanded_of_change (C := Tryz.checked) own started (by kernel_rfl) Tryz.func4
    (ChangeSpec.witness6 (enc := enc) (C := Tryz.checked) false ⟨#[], #[.slice none 0 0], []⟩ 8 (by kernel_rfl) (by kernel_rfl) (by kernel_rfl) (by kernel_rfl)) ?_
  intro W base args ds gs before hval0 hW hcnd _
  have hval : ∀ (j : Nat) t v, Tryz.f4.params[j]? = some t → args[j]? = some v → Value.okWide Tryz.prog W .any base t v := hval0
  have hW' := hW
  obtain ⟨p, q, hA0, hV, rfl, hfz, hnd⟩ := hW
  have hA : DataW.TrodAll enc Tryz.prog W 0 (fun _ => true) true Tryz.f4.params.toList args.toList ds p := hA0
  rw [Tryz.params4] at hA hval
  obtain ⟨v0, vs0, d0, ds0, p0, q0, hargs, rfl, rfl, h0, r0⟩ := trodAll_cons hA
  obtain ⟨rfl, rfl, rfl⟩ := trodAll_nil r0
  obtain rfl : args = #[v0] := by cases args; simp_all
  obtain ⟨rfl, rfl⟩ := trodVars_none hV
  obtain ⟨A0, l0, c0, rfl, n0, m0, R0⟩ := open_bytes (hval 0 32 v0 rfl rfl) h0
  clear hA0 hval0
  refine (walk W A0 l0 c0 n0 m0 R0).mono fun e W' ⟨he, hg⟩ => ?_
  subst he
  exact ⟨_, rfl, post_up laidOut readable rfl hW' (fun _ _ _ => (trodAll_cons_mk (shut_bool Tryz.underlying4 _) trodAll_mk0)) rfl rfl
    hg (ok_one (by kernel_rfl) rfl (okWide_bool_mk Tryz.underlying4 _))⟩

set_option maxRecDepth 100000 in
theorem over : Rows.tzifReadsRow.holds Tryz.pinned (OpenSpec.ofChange Rows.tzifReadsSpec) :=
  OpenClaim.holds_of_wide 4 Tryz.f4 rfl rfl rfl rfl rfl rfl rfl ⟨rfl, rfl, rfl, rfl, rfl⟩ rfl rfl rfl rfl rfl (by kernel_rfl) Tryz.func4 (by kernel_rfl)
    (of_decide_eq_true (by kernel_rfl)) (by unfold Func.isWrapper; first | (rw [if_pos (by decide +kernel)]; kernel_rfl) | (rw [if_neg (by decide +kernel)]; exact ⟨rfl, rfl⟩))
    (fun os started H enc _ => lifted os started H enc)

set_option maxRecDepth 100000 in
theorem proved : Rows.TzifReadsSaid :=
  over
end Go.Proofs.YtaljddoenjgbfaaGreat.tzifReads
