/-
  TzifOnce answers true: bytes (three thousand) that are a file are told as one that is read as the same. No condition.
-/
import Derived.Test.YtaljddoenjgbfaaLcShown7
import Derived.Test.YtaljddoenjgbfaaLcTzO
import Derived.Test.YtaljddoenjgbfaaLcTzY
import Derived.Test.YtaljddoenjgbfaaLcMp
import Derived.Test.YtaljddoenjgbfaaLcMm
import Derived.WalkKit
import Derived.Deep.RegionHeld
import Derived.BigQuiet
import Derived.ProofKit
import Derived.OpenShut
import Derived.Deep.CutRange
import Derived.StillTailTactics
namespace Go.Proofs.Ytaljddoenjgbfaa.tzifOnce
open Go.ChangeShapes Go.WideShapes Go.ChangeAt Go.RowKit Lc
set_option linter.unusedVariables false

set_option maxRecDepth 100000 in
theorem own : ownKnob Try.prog.godebug = none := by kernel_rfl

set_option maxRecDepth 100000 in
theorem cut3000 {w : World} {A : Option Addr} {l : List UInt8} {c : Nat} (n : l.length ≤ c) (r : Rd w A l) : ∃ (k : List UInt8) (p : Nat), k.length = p ∧ p ≤ 3000 ∧ p ≤ l.length ∧ p ≤ c ∧ min (l.length : Int) 3000 = (p : Int) ∧ Rd w A k :=
  ⟨l.take 3000, _, rfl, by rw [List.length_take]; omega, by rw [List.length_take]; omega, by rw [List.length_take]; omega, by rw [List.length_take]; omega, r.take 3000⟩
set_option maxRecDepth 100000 in
theorem tdF_no {l : List UInt8} (h : ¬ tdE l = 0) : tdF l = fl0 := by unfold tdF; rw [if_neg h]

set_option maxHeartbeats 4000000 in
set_option maxRecDepth 100000 in
theorem walk (w : World) (A0 : Option Addr) (l0 : List UInt8) (c0 : Nat) (n0 : l0.length ≤ c0) (m0 : c0 ≤ maxLen) (r0 : Rd w A0 l0) :
    Calls Try.prog 6 #[.slice A0 l0.length c0] w fun e w' => e = .returned (.bool true) ∧ Up w w' := by
  obtain ⟨k0, p0, e0, p0a, p0b, p0c, q0, R0⟩ := cut3000 n0 r0
  have SB := Lib.hid (show Sb w (.slice A0 p0 c0) k0 from ⟨A0, c0, by rw [e0], by rw [e0]; exact p0c, m0, R0⟩)
  have SH := Lib.hid (fun w => shown7_any w)
  have D0 := Lib.hid (fun w1 (u : Up w w1) => tdecode_any _ k0 w1 (SB.out.up u))
  have PN := Lib.hid (fun h => tdF_no (l := k0) h)
  have PY := Lib.hid (fun h => td_parts (l := k0) h (by rw [e0]; exact p0a))
  rw [e0] at PY
  unfold DfP at D0
  unfold maxLen at m0
  clear r0 R0 SB e0
  generalize tdE k0 = er at *
  generalize tdF k0 = F at *
  go_enter Try.func6, Try.ntmps6
  go_wp2_with fail
  refine (SH.out _).mono ?_; rintro e w1 ⟨rfl, u1⟩
  go_wp2_with fail
  refine (D0.out _ u1).mono ?_; rintro e w2 ⟨v2, rfl, k2, _, u2⟩
  obtain ⟨P0, y0, d0, P1, y1, d1, P2, y2, d2, P3, y3, d3, P4, y4, d4, rfl, _⟩ := k2.form
  have ub := Lib.hid (Up.alloc w2 (.cells #[.int .i64 F.ver, .slice P0 y0 d0, .slice P1 y1 d1, .slice P2 y2 d2, .slice P3 y3 d3, .slice P4 y4 d4, .string F.foot] 29))
  have X2 := Lib.hid (Bx7.new w2 (.int .i64 F.ver) (.slice P0 y0 d0) (.slice P1 y1 d1) (.slice P2 y2 d2) (.slice P3 y3 d3) (.slice P4 y4 d4) (.string F.foot) 29)
  have U2 := Lib.hid ((u1.trans u2).trans ub.out)
  have K2 := Lib.hid (k2.up ub.out)
  clear u1 u2 k2 D0 SH
  by_cases h : er = 0
  · obtain ⟨t1, t2, t3⟩ := PY.out h
    have TE := Lib.hid (td_enc t1 t2)
    have hx : (er != 0) = false := by simpa using h
    have EN := Lib.hid (fun w1 v (k : FlR w1 v F) => tencode_yes v F w1 k t1)
    have DE := Lib.hid (fun w1 v (k : Sb w1 v (encF F)) => tdecode_any v (encF F) w1 k)
    rw [TE.out.1, TE.out.2] at DE
    unfold DfP at DE
    have RT := Lib.hid (fun w1 v (k : FlR w1 v F) => tright_any v F w1 k)
    have RG : rightF F = true := by unfold toldB at t1; simp only [Bool.and_eq_true] at t1; exact t1.1
    rw [RG] at RT
    have RF := Lib.hid (fun w1 v (k : FlR w1 v F) => ref7_any v F w1 k)
    have SM := Lib.hid (fun w1 a b (ka : FlR w1 a F) (kb : FlR w1 b F) => same7_yes a b F w1 ka kb)
    have le : (((encF F).length : Nat) : Int) ≤ (p0 : Int) + 20000 := by omega
    have ll : (encF F).length ≤ 100000 := by unfold toldB at t1; simp only [Bool.and_eq_true, decide_eq_true_eq] at t1; exact t1.2
    have wp0 : IntKind.i64.wrap ((p0 : Int) + 20000) = (p0 : Int) + 20000 := IntWalk.i64_in _ (by omega)
    clear t1 t2 t3 TE RG PY PN
    obtain ⟨f0, f1, f2, f3, f4, f5, f6⟩ := X2.out
    subst h
    generalize encF F = E at *
    go_wp2_with fail
    clear f0 f1 f2 f3 f4 f5 f6
    generalize w2.alloc (.cells #[.int .i64 F.ver, .slice P0 y0 d0, .slice P1 y1 d1, .slice P2 y2 d2, .slice P3 y3 d3, .slice P4 y4 d4, .string F.foot] 29) = V at *
    generalize w2.heap.size = B at *
    refine (EN.out V _ K2.out).mono ?_; rintro e w3 ⟨v3, rfl, o3, u3⟩
    obtain ⟨A3, c3, rfl, i3, j3, r3, _⟩ := o3.form
    have S3 := Lib.hid (show Sb w3 (.slice A3 E.length c3) E from ⟨A3, c3, rfl, i3, j3, r3⟩)
    clear o3 r3
    go_wp2_with fail
    refine (DE.out w3 _ S3.out).mono ?_; rintro e w4 ⟨v4, rfl, k4, _, u4⟩
    obtain ⟨Q0, z0, g0, Q1, z1, g1, Q2, z2, g2, Q3, z3, g3, Q4, z4, g4, rfl, _⟩ := k4.form
    have uc := Lib.hid (Up.alloc w4 (.cells #[.int .i64 F.ver, .slice Q0 z0 g0, .slice Q1 z1 g1, .slice Q2 z2 g2, .slice Q3 z3 g3, .slice Q4 z4 g4, .string F.foot] 29))
    have X4 := Lib.hid (Bx7.new w4 (.int .i64 F.ver) (.slice Q0 z0 g0) (.slice Q1 z1 g1) (.slice Q2 z2 g2) (.slice Q3 z3 g3) (.slice Q4 z4 g4) (.string F.foot) 29)
    have K4 := Lib.hid (k4.up uc.out)
    have U4 := Lib.hid ((u3.trans u4).trans uc.out)
    have K2' := Lib.hid (K2.out.up U4.out)
    have X2' := Lib.hid (X2.out.up U4.out)
    clear u3 u4 k4 S3 EN DE
    go_wp2_with fail
    generalize w4.alloc (.cells #[.int .i64 F.ver, .slice Q0 z0 g0, .slice Q1 z1 g1, .slice Q2 z2 g2, .slice Q3 z3 g3, .slice Q4 z4 g4, .string F.foot] 29) = V4 at *
    generalize w4.heap.size = B4 at *
    obtain ⟨b0, b1, b2, b3, b4, b5, b6⟩ := X2'.out
    obtain ⟨a0, a1, a2, a3, a4, a5, a6⟩ := X4.out
    have k0 := cell_regrown b0; have k1 := cell_regrown b1; have k2 := cell_regrown b2; have k3 := cell_regrown b3; have k4 := cell_regrown b4; have k5 := cell_regrown b5; have k6 := cell_regrown b6
    have m0 := cell_regrown a0; have m1 := cell_regrown a1; have m2 := cell_regrown a2; have m3 := cell_regrown a3; have m4 := cell_regrown a4; have m5 := cell_regrown a5; have m6 := cell_regrown a6
    have G0 := quiet_up (w := V4) (fun W u => RT.out W _ (K2'.out.up u))
    have G1 := quiet_up (w := V4) (fun W u => RF.out W _ (K4.out.up u))
    have G2 := quiet_up (w := V4) (fun W u => RF.out W _ (K2'.out.up u))
    have G3 := quiet_up (w := V4) (fun W u => SM.out W _ _ (K4.out.up u) (K2'.out.up u))
    clear RT RF SM
    refine wp_region_quiet_below (by kernel_rfl) (by kernel_rfl) ?_
    repeat (quiet_step (first | (with_reducible exact G0 _ _) | (with_reducible exact G1 _ _) | (with_reducible exact G2 _ _) | (with_reducible exact G3 _ _)))
    refine wpQuiet_nil ?_
    rintro _ ⟨⟨dq, osq⟩, rfl⟩
    have UF := Lib.hid ((U2.out.trans U4.out).trans (up_grown V4 dq osq))
    clear k0 k1 k2 k3 k4 k5 k6 m0 m1 m2 m3 m4 m5 m6 G0 G1 G2 G3
    go_wp2_with fail
    go_ret
    exact ⟨rfl, UF.out⟩
  · have e := PN.out h
    subst e
    have hx : (er != 0) = true := by simpa using h
    have RF := Lib.hid (ref7_any _ fl0 _ K2.out)
    have SM := Lib.hid (fun w1 (u : Up _ w1) => same7_yes _ _ fl0 w1 (K2.out.up u) (flz_read w1))
    rw [show fl0.ver = 0 from rfl, show fl0.foot = ⟨#[]⟩ from rfl] at RF SM X2 U2 K2 ⊢
    unfold flz at SM
    go_wp2_with fail
    refine RF.out.mono ?_; rintro e w3 ⟨rfl, u3⟩
    go_wp2_with fail
    refine (SM.out _ u3).mono ?_; rintro e w4 ⟨rfl, u4⟩
    go_wp2_with fail
    go_ret
    exact ⟨rfl, (U2.out.trans u3).trans u4⟩

set_option maxRecDepth 100000 in
theorem readable : ∀ t ∈ Try.f6.params.toList, Try.prog.readableRec t = true ∧ t < Try.prog.types.size := by
  rw [Try.params6]
  intro t ht
  have hall : ([32].all fun u => Try.prog.readableRec u && decide (u < Try.prog.types.size)) = true := by kernel_rfl
  have := List.all_eq_true.1 hall t (by simpa using ht)
  simpa using this

set_option maxRecDepth 100000 in
theorem lifted (os : Os) (started : os.Started) (H : Type) (enc : TypeId × Value → H) :
    ReturnsInHanded {} Try.checked os 6 .any (Rows.tzifOnceSpec.pre6 enc Try.prog Try.f6 Rows.tzifOnceRow.domain false) (Rows.tzifOnceSpec.post enc Try.prog Try.f6 false true false false) := by
  refine returnsInHanded_of_change (C := Try.checked) own started (by kernel_rfl) Try.func6
    (ChangeSpec.witness6 (enc := enc) (C := Try.checked) false ⟨#[], #[.slice none 0 0], []⟩ 8 (by kernel_rfl) (by kernel_rfl) (by kernel_rfl) (by kernel_rfl)) ?_
  intro W base args ds gs before hval0 hW hcnd _
  have hval : ∀ (j : Nat) t v, Try.f6.params[j]? = some t → args[j]? = some v → Value.okWide Try.prog W .any base t v := hval0
  have hW' := hW
  obtain ⟨p, q, hA0, hV, rfl, hfz, hnd⟩ := hW
  have hA : DataW.TrodAll enc Try.prog W 0 (fun _ => true) true Try.f6.params.toList args.toList ds p := hA0
  rw [Try.params6] at hA hval
  obtain ⟨v0, vs0, d0, ds0, p0, q0, hargs, rfl, rfl, h0, r0⟩ := trodAll_cons hA
  obtain ⟨rfl, rfl, rfl⟩ := trodAll_nil r0
  obtain rfl : args = #[v0] := by cases args; simp_all
  obtain ⟨rfl, rfl⟩ := trodVars_none hV
  obtain ⟨A0, l0, c0, rfl, n0, m0, R0⟩ := open_bytes (hval 0 32 v0 rfl rfl) h0
  clear hA0 hval0
  refine (walk W A0 l0 c0 n0 m0 R0).mono fun e W' ⟨he, hg⟩ => ?_
  subst he
  exact ⟨_, rfl, post_up laidOut readable rfl hW' (fun _ _ _ => (trodAll_cons_mk (shut_bool Try.underlying4 _) trodAll_mk0)) rfl rfl
    hg (ok_one (by kernel_rfl) rfl (okWide_bool_mk Try.underlying4 _))⟩

set_option maxRecDepth 100000 in
theorem over : Rows.tzifOnceRow.holds Try.pinned (OpenSpec.ofChange Rows.tzifOnceSpec) :=
  OpenClaim.holds_of_wide 6 Try.f6 rfl rfl rfl rfl rfl rfl rfl ⟨rfl, rfl, rfl, rfl, rfl⟩ rfl rfl rfl rfl rfl (by kernel_rfl) Try.func6 (by kernel_rfl)
    (of_decide_eq_true (by kernel_rfl)) (by unfold Func.isWrapper; first | (rw [if_pos (by decide +kernel)]; kernel_rfl) | (rw [if_neg (by decide +kernel)]; exact ⟨rfl, rfl⟩))
    (fun os started H enc _ => lifted os started H enc)

set_option maxRecDepth 100000 in
theorem proved : Rows.TzifOnceSaid :=
  over
end Go.Proofs.Ytaljddoenjgbfaa.tzifOnce
