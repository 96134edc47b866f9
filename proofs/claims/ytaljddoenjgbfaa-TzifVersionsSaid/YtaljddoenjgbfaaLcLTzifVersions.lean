/-
  TzifVersions answers true: a file (cut) of version 2 is one of 3 and 4, too, with the same block, and of 1 only without a footer, and if its moments fit. No condition.
-/
import Derived.Test.YtaljddoenjgbfaaLcShown7
import Derived.Test.YtaljddoenjgbfaaLcTzO
import Derived.Test.YtaljddoenjgbfaaLcTzW
import Derived.Test.YtaljddoenjgbfaaLcMp
import Derived.Test.YtaljddoenjgbfaaLcMm
import Derived.Test.YtaljddoenjgbfaaLcRf3
import Derived.WalkKit
import Derived.Deep.RegionHeld
import Derived.BigQuiet
import Derived.ProofKit
import Derived.OpenShut
import Derived.Deep.CutRange
import Derived.StillTailTactics
namespace Go.Proofs.Ytaljddoenjgbfaa.tzifVersions
open Go.ChangeShapes Go.WideShapes Go.ChangeAt Go.RowKit Lc
set_option linter.unusedVariables false

set_option maxRecDepth 100000 in
theorem own : ownKnob Try.prog.godebug = none := by kernel_rfl

set_option maxHeartbeats 4000000 in
set_option maxRecDepth 100000 in
theorem walk (w : World) (v0 : Value) (f0 : Fil) (r0 : FlR w v0 f0) (b0 : BI f0.blk) (u0 : (Lit.int .i64 f0.ver).wf = true) (s0 : f0.foot.size ≤ maxLen) :
    Calls Try.prog 7 #[v0] w fun e w' => e = .returned (.bool true) ∧ Up w w' := by
  have FW := Lib.hid (fun w1 (u : Up w w1) => few7_any v0 f0 w1 (r0.up u))
  have sm := Lib.hid (cutF_small f0)
  have hbi := Lib.hid (show BI (cutF f0).blk from cut_bi b0)
  obtain ⟨vv, X, s, hF⟩ : ∃ vv X s, cutF f0 = ⟨vv, X, s⟩ := ⟨_, _, _, rfl⟩
  rw [hF] at FW sm hbi
  obtain ⟨A0, n0, c0, A1, n1, c1, A2, n2, c2, A3, n3, c3, A4, n4, c4, rfl, _⟩ := r0.form
  generalize f0.ver = v1 at *
  generalize f0.foot = s1 at *
  have BX := Lib.hid (Bx7.new w (.int .i64 v1) (.slice A0 n0 c0) (.slice A1 n1 c1) (.slice A2 n2 c2) (.slice A3 n3 c3) (.slice A4 n4 c4) (.string s1) 29)
  have FX := Lib.hid (Free.new w #[.int .i64 v1, .slice A0 n0 c0, .slice A1 n1 c1, .slice A2 n2 c2, .slice A3 n3 c3, .slice A4 n4 c4, .string s1] 29)
  have U0 := Lib.hid (Up.alloc w (.cells #[.int .i64 v1, .slice A0 n0 c0, .slice A1 n1 c1, .slice A2 n2 c2, .slice A3 n3 c3, .slice A4 n4 c4, .string s1] 29))
  clear r0 b0 u0 s0 hF
  go_enter Try.func7, Try.ntmps7
  go_wp2_with fail
  refine (shown7_any _).mono ?_; rintro e w1 ⟨rfl, u1⟩
  have U1 := Lib.hid (U0.out.trans u1)
  have B1 := Lib.hid (BX.out.up u1)
  have F1 := Lib.hid (FX.out.up u1)
  clear u1 BX FX U0
  obtain ⟨a0, a1, a2, a3, a4, a5, a6⟩ := B1.out
  go_wp2_with fail
  clear a0 a1 a2 a3 a4 a5 a6
  refine (FW.out _ U1.out).mono ?_; rintro e w2 ⟨v2, rfl, o2, u2⟩
  have lt2 : w.heap.size < w1.heap.size := F1.out.1
  obtain ⟨P0, q0, d0, P1, q1, d1, P2, q2, d2, P3, q3, d3, P4, q4, d4, rfl, k2⟩ := o2.form
  simp only at k2 ⊢
  have lt2' : w.heap.size < w2.heap.size := Nat.lt_of_lt_of_le lt2 u2.size
  have K3 := Lib.hid ((k2.low7 lt2 (.int .i64 vv) (.slice P0 q0 d0) (.slice P1 q1 d1) (.slice P2 q2 d2) (.slice P3 q3 d3) (.slice P4 q4 d4) (.string s)).set1 lt2 0 (.int .i64 2))
  have B3 := Lib.hid ((Bx7.seven (B1.out.up u2) (.int .i64 vv) (.slice P0 q0 d0) (.slice P1 q1 d1) (.slice P2 q2 d2) (.slice P3 q3 d3) (.slice P4 q4 d4) (.string s)).set0 (.int .i64 2))
  have F3 := Lib.hid ((Free.seven (b := w.heap.size) (F1.out.up u2) (.int .i64 vv) (.slice P0 q0 d0) (.slice P1 q1 d1) (.slice P2 q2 d2) (.slice P3 q3 d3) (.slice P4 q4 d4) (.string s)).set1 (b := w.heap.size) (o := 0) (u := .int .i64 2))
  have U3 := Lib.hid (set_up (Up.seven (U1.out.trans u2) (Nat.le_refl _) (.int .i64 vv) (.slice P0 q0 d0) (.slice P1 q1 d1) (.slice P2 q2 d2) (.slice P3 q3 d3) (.slice P4 q4 d4) (.string s)) (Nat.le_refl _) 0 (.int .i64 2))
  obtain ⟨a0, a1, a2, a3, a4, a5, a6⟩ := B1.out.up u2
  obtain ⟨_, fz⟩ := F1.out.up u2
  have z0 := fz 0; have z1 := fz 1; have z2 := fz 2; have z3 := fz 3; have z4 := fz 4; have z5 := fz 5; have z6 := fz 6
  clear fz o2 u2 k2 B1 F1 U1 FW
  go_wp2_with fail
  obtain ⟨V3, hV3⟩ : ∃ V, ((((((((w2.setCell ⟨w.heap.size, 0, none⟩ (.int .i64 vv)).setCell ⟨w.heap.size, 1, none⟩ (.slice P0 q0 d0)).setCell ⟨w.heap.size, 2, none⟩ (.slice P1 q1 d1)).setCell ⟨w.heap.size, 3, none⟩ (.slice P2 q2 d2)).setCell ⟨w.heap.size, 4, none⟩ (.slice P3 q3 d3)).setCell ⟨w.heap.size, 5, none⟩ (.slice P4 q4 d4)).setCell ⟨w.heap.size, 6, none⟩ (.string s)).setCell ⟨w.heap.size, 0, none⟩ (.int .i64 2)) = V := ⟨_, rfl⟩
  rw [hV3]
  replace K3 : Hid (OwB V3 w1.heap.size (.agg #[.slice P0 q0 d0, .slice P1 q1 d1, .slice P2 q2 d2, .slice P3 q3 d3, .slice P4 q4 d4]) X) := by rw [← hV3]; exact K3
  replace B3 : Hid (Bx7 V3 w.heap.size (.int .i64 2) (.slice P0 q0 d0) (.slice P1 q1 d1) (.slice P2 q2 d2) (.slice P3 q3 d3) (.slice P4 q4 d4) (.string s)) := by rw [← hV3]; exact B3
  replace F3 : Hid (Free V3 w.heap.size) := by rw [← hV3]; exact F3
  replace U3 : Hid (Up w V3) := by rw [← hV3]; exact U3
  have HB := Lib.hid lt2
  clear hV3 a0 a1 a2 a3 a4 a5 a6 z0 z1 z2 z3 z4 z5 z6 lt2 lt2'
  have HW := Lib.hid (Nat.le_refl w.heap.size)
  obtain ⟨B, hB⟩ : ∃ B, w.heap.size = B := ⟨_, rfl⟩
  rw [hB] at HB B3 F3 ⊢
  replace HW : Hid (w.heap.size ≤ B) := by rw [hB]; exact Lib.hid (Nat.le_refl B)
  clear hB
  generalize w1.heap.size = base at HB K3 ⊢
  have T2 := Lib.hid (told_small (f := ⟨2, X, s⟩) sm.out)
  obtain ⟨t2, ht2⟩ : ∃ t, toldB ⟨2, X, s⟩ = t := ⟨_, rfl⟩
  cases t2
  · have NO := Lib.hid (tencode_no _ ⟨2, X, s⟩ _ (FlR.of K3.out.rd 2 s) ht2)
    have RT := Lib.hid (fun w1 (u : Up V3 w1) => tright_any _ ⟨2, X, s⟩ w1 ((FlR.of K3.out.rd 2 s).up u))
    rw [← T2.out, ht2] at RT
    refine NO.out.mono ?_; rintro e w4 ⟨rfl, u4⟩
    obtain ⟨a0, a1, a2, a3, a4, a5, a6⟩ := B3.out.up u4
    go_wp2_with fail
    refine (RT.out _ u4).mono ?_; rintro e w5 ⟨rfl, u5⟩
    go_wp2_with fail
    go_ret
    exact ⟨rfl, (U3.out.trans u4).trans u5⟩
  · have YE := Lib.hid (tencode_yes _ ⟨2, X, s⟩ _ (FlR.of K3.out.rd 2 s) ht2)
    have R2 := Lib.hid (show rightF ⟨2, X, s⟩ = true by rw [← T2.out]; exact ht2)
    refine YE.out.mono ?_; rintro e w4 ⟨v4, rfl, o4, u4⟩
    obtain ⟨A4', c4', rfl, _⟩ := o4.form
    have K4 := Lib.hid (K3.out.up u4)
    have B4 := Lib.hid (B3.out.up u4)
    have F4 := Lib.hid (F3.out.up u4)
    have U4 := Lib.hid (U3.out.trans u4)
    clear o4 u4 YE T2 ht2 K3 B3 F3 U3
    generalize (encF ⟨2, X, s⟩).length = l2 at *
    go_wp2_with fail
    go_loopw [6] (fun i wr => ∃ (k n : Int), (k = 3 ∨ k = 4 ∨ k = 5) ∧ i = .int .i64 k ∧ Bx7 wr B (.int .i64 n) (.slice P0 q0 d0) (.slice P1 q1 d1) (.slice P2 q2 d2) (.slice P3 q3 d3) (.slice P4 q4 d4) (.string s) ∧ OwB wr base (.agg #[.slice P0 q0 d0, .slice P1 q1 d1, .slice P2 q2 d2, .slice P3 q3 d3, .slice P4 q4 d4]) X ∧ Free wr B ∧ Up w wr) (fun i _ => (5 - intOf i).toNat)
    case atStart => exact ⟨3, 2, .inl rfl, rfl, B4.out, K4.out, F4.out, U4.out⟩
    case round =>
      obtain ⟨k, n, hk, rfl, b5, k5, f5, u5⟩ := hrel
      have B5 := Lib.hid b5
      have K5 := Lib.hid k5
      have F5 := Lib.hid f5
      have U5 := Lib.hid u5
      clear b5 k5 f5 u5 B4 K4 F4 U4
      by_cases hlt : k ≤ 4
      · have h34 : 3 ≤ k ∧ k ≤ 4 := by omega
        have hR := rightF_ver R2.out (show 2 ≤ k by omega) h34.2
        have tk : toldB ⟨k, X, s⟩ = true := by rw [told_small (f := ⟨k, X, s⟩) sm.out]; exact hR
        have TE := td_enc (f := ⟨k, X, s⟩) tk hbi.out
        have YE := Lib.hid (fun w1 v (q : FlR w1 v ⟨k, X, s⟩) => tencode_yes v ⟨k, X, s⟩ w1 q tk)
        have DE := Lib.hid (fun w1 v (q : Sb w1 v (encF ⟨k, X, s⟩)) => tdecode_any v (encF ⟨k, X, s⟩) w1 q)
        rw [TE.1, TE.2] at DE
        unfold DfP at DE
        have RF := Lib.hid (fun w1 v (q : FlR w1 v ⟨k, X, s⟩) => ref7_any v ⟨k, X, s⟩ w1 q)
        have SM := Lib.hid (fun w1 a b (ka : FlR w1 a ⟨k, X, s⟩) (kb : FlR w1 b ⟨k, X, s⟩) => same7_yes a b ⟨k, X, s⟩ w1 ka kb)
        have wk : (Lit.int .i64 k).wf = true := by rcases hk with rfl | rfl | rfl <;> rfl
        clear TE tk hR
        generalize encF ⟨k, X, s⟩ = E at *
        obtain ⟨a0, a1, a2, a3, a4, a5, a6⟩ := B5.out
        have lt5 := F5.out.1
        have z0 := F5.out.2 0
        go_wp2_with fail
        have K6 := Lib.hid (K5.out.set1 HB.out 0 (.int .i64 k))
        have B6 := Lib.hid (B5.out.set0 (.int .i64 k))
        have F6 := Lib.hid (F5.out.set1 (b := B) (o := 0) (u := .int .i64 k))
        have U6 := Lib.hid (set_up U5.out HW.out 0 (.int .i64 k))
        clear a0 a1 a2 a3 a4 a5 a6 lt5 z0 K5 B5 F5 U5
        generalize wr.setCell ⟨B, 0, none⟩ (.int .i64 k) = V6 at *
        refine (YE.out V6 _ (FlR.of K6.out.rd k s)).mono ?_; rintro e w7 ⟨v7, rfl, o7, u7⟩
        obtain ⟨A7, c7, rfl, i7, j7, r7, _⟩ := o7.form
        have S7 := Lib.hid (show Sb w7 (.slice A7 E.length c7) E from ⟨A7, c7, rfl, i7, j7, r7⟩)
        clear o7 r7
        go_wp2_with fail
        refine (DE.out w7 _ S7.out).mono ?_; rintro e w8 ⟨v8, rfl, k8, _, u8⟩
        obtain ⟨Q0, y0, g0, Q1, y1, g1, Q2, y2, g2, Q3, y3, g3, Q4, y4, g4, rfl, _⟩ := k8.form
        simp only at k8 ⊢
        have u78 := u7.trans u8
        have U8 := Lib.hid (U6.out.trans u78)
        have K8 := Lib.hid (K6.out.up u78)
        have B8 := Lib.hid (B6.out.up u78)
        have F8 := Lib.hid (F6.out.up u78)
        have N8 := Lib.hid k8
        clear u7 u8 u78 k8 S7 K6 B6 F6 U6 YE DE
        have uc := Up.alloc w8 (.cells #[.int .i64 k, .slice Q0 y0 g0, .slice Q1 y1 g1, .slice Q2 y2 g2, .slice Q3 y3 g3, .slice Q4 y4 g4, .string s] 29)
        have X8 := Lib.hid (Bx7.new w8 (.int .i64 k) (.slice Q0 y0 g0) (.slice Q1 y1 g1) (.slice Q2 y2 g2) (.slice Q3 y3 g3) (.slice Q4 y4 g4) (.string s) 29)
        replace U8 := Lib.hid (U8.out.trans uc)
        replace K8 := Lib.hid (K8.out.up uc)
        replace B8 := Lib.hid (B8.out.up uc)
        replace F8 := Lib.hid (F8.out.up uc)
        replace N8 := Lib.hid (N8.out.up uc)
        go_wp2_with fail
        clear uc
        generalize w8.alloc (.cells #[.int .i64 k, .slice Q0 y0 g0, .slice Q1 y1 g1, .slice Q2 y2 g2, .slice Q3 y3 g3, .slice Q4 y4 g4, .string s] 29) = V8 at *
        generalize w8.heap.size = B8' at *
        obtain ⟨b0, b1, b2, b3, b4, b5, b6⟩ := B8.out
        obtain ⟨a0, a1, a2, a3, a4, a5, a6⟩ := X8.out
        replace b0 := cell_regrown b0; replace b1 := cell_regrown b1; replace b2 := cell_regrown b2; replace b3 := cell_regrown b3; replace b4 := cell_regrown b4; replace b5 := cell_regrown b5; replace b6 := cell_regrown b6
        replace a0 := cell_regrown a0; replace a1 := cell_regrown a1; replace a2 := cell_regrown a2; replace a3 := cell_regrown a3; replace a4 := cell_regrown a4; replace a5 := cell_regrown a5; replace a6 := cell_regrown a6
        have M8 := Lib.hid (FlR.of K8.out.rd k s)
        have G1 := quiet_up (w := V8) (fun W u => RF.out W _ (N8.out.up u))
        have G2 := quiet_up (w := V8) (fun W u => RF.out W _ (M8.out.up u))
        have G3 := quiet_up (w := V8) (fun W u => SM.out W _ _ (N8.out.up u) (M8.out.up u))
        clear RF SM
        refine wp_region_quiet_below (by kernel_rfl) (by kernel_rfl) ?_
        repeat (quiet_step (first | (with_reducible exact G1 _ _) | (with_reducible exact G2 _ _) | (with_reducible exact G3 _ _)))
        refine wpQuiet_nil ?_
        rintro _ ⟨⟨dq, osq⟩, rfl⟩
        have UG := up_grown V8 dq osq
        have U9 := Lib.hid (U8.out.trans UG)
        have K9 := Lib.hid (K8.out.up UG)
        have B9 := Lib.hid (B8.out.up UG)
        have F9 := Lib.hid (F8.out.up UG)
        clear UG U8 K8 B8 F8 N8 M8 X8 a0 a1 a2 a3 a4 a5 a6 b0 b1 b2 b3 b4 b5 b6 G1 G2 G3
        have wk1 : IntKind.i64.wrap (k + 1) = k + 1 := IntWalk.i64_in _ (by omega)
        go_wp2_with fail
        go_roundw
        case rel => exact ⟨k + 1, k, by omega, by go_num, B9.out, K9.out, F9.out, U9.out⟩
        case measure => simp [intOf]; omega
      · have hk5 : k = 5 := by omega
        subst hk5
        obtain ⟨a0, a1, a2, a3, a4, a5, a6⟩ := B5.out
        have lt5 := F5.out.1
        have z0 := F5.out.2 0
        have K6 := Lib.hid (K5.out.set1 HB.out 0 (.int .i64 1))
        have B6 := Lib.hid (B5.out.set0 (.int .i64 1))
        have U6 := Lib.hid (set_up U5.out HW.out 0 (.int .i64 1))
        have RI := Lib.hid (fun w1 v q => bright_any v X 4 1 w1 q)
        have DR := Lib.hid (fun w1 v q => dright_any v X 4 1 w1 q)
        have RT := Lib.hid (fun w1 v (q : FlR w1 v ⟨1, X, s⟩) => tright_any v ⟨1, X, s⟩ w1 q)
        rw [rightF_one] at RT
        generalize rightB X 4 1 = rb at *
        clear K5 B5 F5 U5 R2 sm hbi
        have hs : (s.toList.isEmpty = true ∧ Hid (decide (s.size = 0) = true)) ∨ (s.toList.isEmpty = false ∧ Hid (decide (s.size = 0) = false)) := by
          rw [rfoot_size]
          cases decide (s.size = 0)
          · exact .inr ⟨rfl, Lib.hid rfl⟩
          · exact .inl ⟨rfl, Lib.hid rfl⟩
        rcases hs with ⟨e1, e2⟩ | ⟨e1, e2⟩
        · rw [e2.out, Bool.true_and] at RT
          go_wp2_with fail
          clear a0 a1 a2 a3 a4 a5 a6 lt5 z0
          generalize wr.setCell ⟨B, 0, none⟩ (.int .i64 1) = V6 at *
          refine (RI.out _ _ K6.out.rd).mono ?_; rintro e w7 ⟨rfl, u7⟩
          have U7 := Lib.hid (U6.out.trans u7)
          have K7 := Lib.hid (K6.out.up u7)
          obtain ⟨a0, a1, a2, a3, a4, a5, a6⟩ := B6.out.up u7
          have B7 := Lib.hid (B6.out.up u7)
          clear u7 U6 K6 B6
          go_wp2_with fail
          clear a0 a1 a2 a3 a4 a5 a6
          refine (DR.out _ _ K7.out.rd).mono ?_; rintro e w8 ⟨rfl, u8⟩
          have U8 := Lib.hid (U7.out.trans u8)
          have K8 := Lib.hid (FlR.of (K7.out.up u8).rd 1 s)
          obtain ⟨a0, a1, a2, a3, a4, a5, a6⟩ := B7.out.up u8
          have B8 := Lib.hid (B7.out.up u8)
          clear u8 U7 K7 B7
          cases rb
          all_goals
            go_wp2_with fail
            clear a0 a1 a2 a3 a4 a5 a6
            refine (RT.out _ _ K8.out).mono ?_; rintro e w9 ⟨rfl, u9⟩
            obtain ⟨a0, a1, a2, a3, a4, a5, a6⟩ := B8.out.up u9
            go_wp2_with fail
            go_ret
            exact ⟨rfl, U8.out.trans u9⟩
        · rw [e2.out, Bool.false_and] at RT
          go_wp2_with fail
          clear a0 a1 a2 a3 a4 a5 a6 lt5 z0
          generalize wr.setCell ⟨B, 0, none⟩ (.int .i64 1) = V6 at *
          refine (DR.out _ _ K6.out.rd).mono ?_; rintro e w8 ⟨rfl, u8⟩
          have U8 := Lib.hid (U6.out.trans u8)
          have K8 := Lib.hid (FlR.of (K6.out.up u8).rd 1 s)
          obtain ⟨a0, a1, a2, a3, a4, a5, a6⟩ := B6.out.up u8
          have B8 := Lib.hid (B6.out.up u8)
          clear u8 U6 K6 B6
          cases rb
          all_goals
            go_wp2_with fail
            clear a0 a1 a2 a3 a4 a5 a6
            refine (RT.out _ _ K8.out).mono ?_; rintro e w9 ⟨rfl, u9⟩
            obtain ⟨a0, a1, a2, a3, a4, a5, a6⟩ := B8.out.up u9
            go_wp2_with fail
            go_ret
            exact ⟨rfl, U8.out.trans u9⟩

set_option maxRecDepth 100000 in
theorem readable : ∀ t ∈ Try.f7.params.toList, Try.prog.readableRec t = true ∧ t < Try.prog.types.size := by
  rw [Try.params7]
  intro t ht
  have hall : ([29].all fun u => Try.prog.readableRec u && decide (u < Try.prog.types.size)) = true := by kernel_rfl
  have := List.all_eq_true.1 hall t (by simpa using ht)
  simpa using this

set_option maxRecDepth 100000 in
theorem lifted (os : Os) (started : os.Started) (H : Type) (enc : TypeId × Value → H) :
    ReturnsInHanded {} Try.checked os 7 .any (Rows.tzifVersionsSpec.pre6 enc Try.prog Try.f7 Rows.tzifVersionsRow.domain false) (Rows.tzifVersionsSpec.post enc Try.prog Try.f7 false true false false) := by
  refine returnsInHanded_of_change (C := Try.checked) own started (by kernel_rfl) Try.func7
    (ChangeSpec.witness6 (enc := enc) (C := Try.checked) false ⟨#[], #[.agg #[.int .i64 0, .slice none 0 0, .slice none 0 0, .slice none 0 0, .slice none 0 0, .slice none 0 0, .string ByteArray.empty]], []⟩ 8 (by kernel_rfl) (by kernel_rfl) (by kernel_rfl) (by kernel_rfl)) ?_
  intro W base args ds gs before hval0 hW hcnd _
  have hval : ∀ (j : Nat) t v, Try.f7.params[j]? = some t → args[j]? = some v → Value.okWide Try.prog W .any base t v := hval0
  have hW' := hW
  obtain ⟨p, q, hA0, hV, rfl, hfz, hnd⟩ := hW
  have hA : DataW.TrodAll enc Try.prog W 0 (fun _ => true) true Try.f7.params.toList args.toList ds p := hA0
  rw [Try.params7] at hA hval
  obtain ⟨v0, vs0, d0, ds0, p0, q0, hargs, rfl, rfl, h0, r0⟩ := trodAll_cons hA
  obtain ⟨rfl, rfl, rfl⟩ := trodAll_nil r0
  obtain rfl : args = #[v0] := by cases args; simp_all
  obtain ⟨rfl, rfl⟩ := trodVars_none hV
  obtain ⟨f0, R0, b0, u0, s0⟩ := open_fil (hval 0 29 v0 rfl rfl) h0
  clear hA0 hval0
  refine (walk W v0 f0 R0 b0 u0 s0).mono fun e W' ⟨he, hg⟩ => ?_
  subst he
  exact ⟨_, rfl, post_up laidOut readable rfl hW' (fun _ _ _ => (trodAll_cons_mk (shut_bool Try.underlying4 _) trodAll_mk0)) rfl rfl
    hg (ok_one (by kernel_rfl) rfl (okWide_bool_mk Try.underlying4 _))⟩

set_option maxRecDepth 100000 in
theorem over : Rows.tzifVersionsRow.holds Try.pinned (OpenSpec.ofChange Rows.tzifVersionsSpec) :=
  OpenClaim.holds_of_wide 7 Try.f7 rfl rfl rfl rfl rfl rfl rfl ⟨rfl, rfl, rfl, rfl, rfl⟩ rfl rfl rfl rfl rfl (by kernel_rfl) Try.func7 (by kernel_rfl)
    (of_decide_eq_true (by kernel_rfl)) (by unfold Func.isWrapper; first | (rw [if_pos (by decide +kernel)]; kernel_rfl) | (rw [if_neg (by decide +kernel)]; exact ⟨rfl, rfl⟩))
    (fun os started H enc _ => lifted os started H enc)

set_option maxRecDepth 100000 in
theorem proved : Rows.TzifVersionsSaid :=
  over
end Go.Proofs.Ytaljddoenjgbfaa.tzifVersions
