/-
  TzifTells answers true: files (cut) are right, and bytes, as the document says, and what was handed in stays. No condition.
-/
import Derived.Test.YtaljddoenjgbfaaGreatLcTzW
import Derived.Test.YtaljddoenjgbfaaGreatLcMp
import Derived.Test.YtaljddoenjgbfaaGreatLcMm
import Derived.Test.YtaljddoenjgbfaaGreatLcT7A
import Derived.Test.YtaljddoenjgbfaaGreatLcT7B
import Derived.WalkKit
import Derived.Deep.RegionHeld
import Derived.BigQuiet
import Derived.ProofKit
import Derived.OpenShut
import Derived.Deep.CutRange
import Derived.StillTailTactics
namespace Go.Proofs.YtaljddoenjgbfaaGreat.tzifTells
open Go.ChangeShapes Go.WideShapes Go.ChangeAt Go.RowKit Lc
set_option linter.unusedVariables false

set_option maxRecDepth 100000 in
theorem own : ownKnob Tryz.prog.godebug = none := by kernel_rfl

set_option maxRecDepth 100000 in
theorem cut60_idem (s : ByteArray) : cut60 (cut60 s) = cut60 s := by
  unfold cut60
  obtain ⟨m, hm⟩ : ∃ m, (min (s.size : Int) 60).toNat = m := ⟨_, rfl⟩
  rw [hm]
  have hs : (s.extract 0 m).size = m := by rw [ByteArray.size_extract]; omega
  rw [hs, show (min (m : Int) 60).toNat = m by omega]
  apply ByteArray.ext
  rw [ByteArray.data_extract, ByteArray.data_extract, Array.extract_extract]
  congr 1
  omega
set_option maxRecDepth 100000 in
theorem cut110_idem (s : ByteArray) : cut110 (cut110 s) = cut110 s := by
  unfold cut110
  obtain ⟨m, hm⟩ : ∃ m, (min (s.size : Int) 110).toNat = m := ⟨_, rfl⟩
  rw [hm]
  have hs : (s.extract 0 m).size = m := by rw [ByteArray.size_extract]; omega
  rw [hs, show (min (m : Int) 110).toNat = m by omega]
  apply ByteArray.ext
  rw [ByteArray.data_extract, ByteArray.data_extract, Array.extract_extract]
  congr 1
  omega
set_option maxRecDepth 100000 in
theorem cutK_idem (k : Knd) : cutK (cutK k) = cutK k := by unfold cutK; rw [cut60_idem]
set_option maxRecDepth 100000 in
theorem cutB_idem (x : Blk) : cutB (cutB x) = cutB x := by
  have e1 : (((x.ks.take 40).map cutK).take 40).map cutK = (x.ks.take 40).map cutK := by
    rw [← List.map_take, List.take_take, Nat.min_self, List.map_map]
    exact List.map_congr_left fun k _ => cutK_idem k
  show (⟨(((x.ks.take 40).map cutK).take 40).map cutK, (x.js.take 100).take 100, (x.ls.take 50).take 50, (x.sd.take 40).take 40, (x.ut.take 40).take 40⟩ : Blk) = _
  rw [e1, List.take_take, List.take_take, List.take_take, List.take_take]
  rfl
set_option maxRecDepth 100000 in
theorem cutF_idem (f : Fil) : cutF (cutF f) = cutF f := by
  show (⟨f.ver, cutB (cutB f.blk), cut110 (cut110 f.foot)⟩ : Fil) = _
  rw [cutB_idem, cut110_idem]; rfl

set_option maxHeartbeats 4000000 in
set_option maxRecDepth 100000 in
theorem walk (w : World) (v0 : Value) (f0 : Fil) (r0 : FlR w v0 f0) (b0 : BI f0.blk) (u0 : (Lit.int .i64 f0.ver).wf = true) (s0 : f0.foot.size ≤ maxLen) :
    Calls Tryz.prog 3 #[v0] w fun e w' => e = .returned (.bool true) ∧ Up w w' := by
  have FW := Lib.hid (fun w1 (u : Up w w1) => few7_any v0 f0 w1 (r0.up u))
  have idem := Lib.hid (cutF_idem f0)
  have sm := Lib.hid (cutF_small f0)
  have hbi := Lib.hid (show BI (cutF f0).blk from cut_bi b0)
  obtain ⟨vv, X, s, hF⟩ : ∃ vv X s, cutF f0 = ⟨vv, X, s⟩ := ⟨_, _, _, rfl⟩
  rw [hF] at FW sm hbi idem
  obtain ⟨A0, n0, c0, A1, n1, c1, A2, n2, c2, A3, n3, c3, A4, n4, c4, rfl, _⟩ := r0.form
  generalize f0.ver = v1 at *
  generalize f0.foot = s1 at *
  have BX := Lib.hid (Bx7.new w (.int .i64 v1) (.slice A0 n0 c0) (.slice A1 n1 c1) (.slice A2 n2 c2) (.slice A3 n3 c3) (.slice A4 n4 c4) (.string s1) 29)
  have FX := Lib.hid (Free.new w #[.int .i64 v1, .slice A0 n0 c0, .slice A1 n1 c1, .slice A2 n2 c2, .slice A3 n3 c3, .slice A4 n4 c4, .string s1] 29)
  have U0 := Lib.hid (Up.alloc w (.cells #[.int .i64 v1, .slice A0 n0 c0, .slice A1 n1 c1, .slice A2 n2 c2, .slice A3 n3 c3, .slice A4 n4 c4, .string s1] 29))
  clear r0 b0 u0 s0 hF
  go_enter Tryz.func3, Tryz.ntmps3
  go_wp2_with fail
  refine (shown7_any _).mono ?_; rintro e w1 ⟨rfl, u1⟩
  have U1 := Lib.hid (U0.out.trans u1)
  have B1 := Lib.hid (BX.out.up u1)
  have F1 := Lib.hid (FX.out.up u1)
  clear u1 BX FX U0
  obtain ⟨a0, a1, a2, a3, a4, a5, a6⟩ := B1.out
  go_wp2_with fail
  clear a0 a1 a2 a3 a4 a5 a6
  refine (FW.out _ U1.out).mono ?_; rintro e w2 ⟨v2, rfl, o2, u2⟩
  have lt2 : w.heap.size < w1.heap.size := F1.out.1
  obtain ⟨P0, q0, d0, P1, q1, d1, P2, q2, d2, P3, q3, d3, P4, q4, d4, rfl, k2⟩ := o2.form
  simp only at k2 ⊢
  have lt2' : w.heap.size < w2.heap.size := Nat.lt_of_lt_of_le lt2 u2.size
  have K3 := Lib.hid (k2.low7 lt2 (.int .i64 vv) (.slice P0 q0 d0) (.slice P1 q1 d1) (.slice P2 q2 d2) (.slice P3 q3 d3) (.slice P4 q4 d4) (.string s))
  have B3 := Lib.hid (Bx7.seven (B1.out.up u2) (.int .i64 vv) (.slice P0 q0 d0) (.slice P1 q1 d1) (.slice P2 q2 d2) (.slice P3 q3 d3) (.slice P4 q4 d4) (.string s))
  have U3 := Lib.hid (Up.seven (U1.out.trans u2) (Nat.le_refl _) (.int .i64 vv) (.slice P0 q0 d0) (.slice P1 q1 d1) (.slice P2 q2 d2) (.slice P3 q3 d3) (.slice P4 q4 d4) (.string s))
  obtain ⟨a0, a1, a2', a3, a4, a5, a6⟩ := B1.out.up u2
  obtain ⟨_, fz⟩ := F1.out.up u2
  have z0 := fz 0; have z1 := fz 1; have z2 := fz 2; have z3 := fz 3; have z4 := fz 4; have z5 := fz 5; have z6 := fz 6
  clear fz o2 u2 k2 B1 F1 U1 FW
  go_wp2_with fail
  obtain ⟨V3, hV3⟩ : ∃ V, (((((((w2.setCell ⟨w.heap.size, 0, none⟩ (.int .i64 vv)).setCell ⟨w.heap.size, 1, none⟩ (.slice P0 q0 d0)).setCell ⟨w.heap.size, 2, none⟩ (.slice P1 q1 d1)).setCell ⟨w.heap.size, 3, none⟩ (.slice P2 q2 d2)).setCell ⟨w.heap.size, 4, none⟩ (.slice P3 q3 d3)).setCell ⟨w.heap.size, 5, none⟩ (.slice P4 q4 d4)).setCell ⟨w.heap.size, 6, none⟩ (.string s)) = V := ⟨_, rfl⟩
  rw [hV3]
  replace K3 : Hid (FlR V3 (.agg #[.int .i64 vv, .slice P0 q0 d0, .slice P1 q1 d1, .slice P2 q2 d2, .slice P3 q3 d3, .slice P4 q4 d4, .string s]) ⟨vv, X, s⟩) := by rw [← hV3]; exact FlR.of K3.out.rd vv s
  replace B3 : Hid (Bx7 V3 w.heap.size (.int .i64 vv) (.slice P0 q0 d0) (.slice P1 q1 d1) (.slice P2 q2 d2) (.slice P3 q3 d3) (.slice P4 q4 d4) (.string s)) := by rw [← hV3]; exact B3
  replace U3 : Hid (Up w V3) := by rw [← hV3]; exact U3
  clear hV3 a0 a1 a2' a3 a4 a5 a6 z0 z1 z2 z3 z4 z5 z6 lt2 lt2'
  generalize w.heap.size = B at B3 ⊢
  have FY := Lib.hid (few7_any _ ⟨vv, X, s⟩ V3 K3.out)
  rw [idem.out] at FY
  refine FY.out.mono ?_; rintro e w4 ⟨v4, rfl, o4, u4⟩
  obtain ⟨Q0, y0, t0, Q1, y1, t1, Q2, y2, t2, Q3, y3, t3, Q4, y4, t4, rfl, k4⟩ := o4.form
  simp only at k4 ⊢
  have uc := Up.alloc w4 (.cells #[.int .i64 vv, .slice Q0 y0 t0, .slice Q1 y1 t1, .slice Q2 y2 t2, .slice Q3 y3 t3, .slice Q4 y4 t4, .string s] 29)
  have X4 := Lib.hid (Bx7.new w4 (.int .i64 vv) (.slice Q0 y0 t0) (.slice Q1 y1 t1) (.slice Q2 y2 t2) (.slice Q3 y3 t3) (.slice Q4 y4 t4) (.string s) 29)
  have u34 := u4.trans uc
  have N4 := Lib.hid (FlR.of (k4.up uc).rd vv s)
  have B4 := Lib.hid (B3.out.up u34)
  have U4 := Lib.hid (U3.out.trans u34)
  have K4 := Lib.hid (K3.out.up u34)
  obtain ⟨b0, b1', b2, b3, b4, b5, b6⟩ := B4.out
  clear u4 u34 uc o4 k4 FY U3 K3 B3 idem
  go_wp2_with fail
  clear b0 b1' b2 b3 b4 b5 b6
  generalize w4.alloc (.cells #[.int .i64 vv, .slice Q0 y0 t0, .slice Q1 y1 t1, .slice Q2 y2 t2, .slice Q3 y3 t3, .slice Q4 y4 t4, .string s] 29) = V4 at *
  generalize w4.heap.size = C at *
  have T2 := Lib.hid (told_small (f := ⟨vv, X, s⟩) sm.out)
  have RF := Lib.hid (fun w1 v (q : FlR w1 v ⟨vv, X, s⟩) => ref7_any v ⟨vv, X, s⟩ w1 q)
  have SM := Lib.hid (fun w1 a b (ka : FlR w1 a ⟨vv, X, s⟩) (kb : FlR w1 b ⟨vv, X, s⟩) => same7_yes a b ⟨vv, X, s⟩ w1 ka kb)
  have RT := Lib.hid (fun w1 v (q : FlR w1 v ⟨vv, X, s⟩) => tright_any v ⟨vv, X, s⟩ w1 q)
  have DR := Lib.hid (fun w1 v (q : FlR w1 v ⟨vv, X, s⟩) => dright7_any v ⟨vv, X, s⟩ w1 q)
  obtain ⟨t2, ht2⟩ : ∃ t, toldB ⟨vv, X, s⟩ = t := ⟨_, rfl⟩
  rw [← T2.out, ht2] at RT DR
  cases t2
  · have NO := Lib.hid (tencode_no _ ⟨vv, X, s⟩ _ K4.out ht2)
    clear ht2 T2 sm hbi
    refine NO.out.mono ?_; rintro e w5 ⟨rfl, u5⟩
    have B5 := Lib.hid (B4.out.up u5)
    have X5 := Lib.hid (X4.out.up u5)
    have U5 := Lib.hid (U4.out.trans u5)
    have K5 := Lib.hid (K4.out.up u5)
    have N5 := Lib.hid (N4.out.up u5)
    clear u5 B4 X4 U4 K4 N4 NO
    obtain ⟨b0, b1', b2, b3, b4, b5, b6⟩ := B5.out
    go_wp2_with fail
    clear b0 b1' b2 b3 b4 b5 b6
    refine (RF.out _ _ K5.out).mono ?_; rintro e w6 ⟨rfl, u6⟩
    go_wp2_with fail
    refine (DR.out _ _ (K5.out.up u6)).mono ?_; rintro e w7 ⟨rfl, u7⟩
    have u57 := u6.trans u7
    have B7 := Lib.hid (B5.out.up u57)
    have X7 := Lib.hid (X5.out.up u57)
    have U7 := Lib.hid (U5.out.trans u57)
    have K7 := Lib.hid (K5.out.up u57)
    have N7 := Lib.hid (N5.out.up u57)
    clear u6 u7 u57 B5 X5 U5 K5 N5
    go_wp2_with fail
    obtain ⟨b0, b1', b2, b3, b4, b5, b6⟩ := B7.out
    obtain ⟨a0, a1, a2', a3, a4, a5, a6⟩ := X7.out
    replace b0 := cell_regrown b0; replace b1' := cell_regrown b1'; replace b2 := cell_regrown b2; replace b3 := cell_regrown b3; replace b4 := cell_regrown b4; replace b5 := cell_regrown b5; replace b6 := cell_regrown b6
    replace a0 := cell_regrown a0; replace a1 := cell_regrown a1; replace a2' := cell_regrown a2'; replace a3 := cell_regrown a3; replace a4 := cell_regrown a4; replace a5 := cell_regrown a5; replace a6 := cell_regrown a6
    have G0 := quiet_up (w := w7) (fun W u => RT.out W _ (K7.out.up u))
    have G1 := quiet_up (w := w7) (fun W u => RF.out W _ (K7.out.up u))
    have G2 := quiet_up (w := w7) (fun W u => RF.out W _ (N7.out.up u))
    have G3 := quiet_up (w := w7) (fun W u => SM.out W _ _ (K7.out.up u) (N7.out.up u))
    refine wp_region_quiet_below (by kernel_rfl) (by kernel_rfl) ?_
    repeat (quiet_step (first | (with_reducible exact G0 _ _) | (with_reducible exact G1 _ _) | (with_reducible exact G2 _ _) | (with_reducible exact G3 _ _)))
    refine wpQuiet_nil ?_
    rintro _ ⟨⟨dq, osq⟩, rfl⟩
    have UF := Lib.hid (U7.out.trans (up_grown w7 dq osq))
    clear a0 a1 a2' a3 a4 a5 a6 b0 b1' b2 b3 b4 b5 b6 G0 G1 G2 G3
    go_wp2_with fail
    go_ret
    exact ⟨rfl, UF.out⟩
  · have YE := Lib.hid (tencode_yes _ ⟨vv, X, s⟩ _ K4.out ht2)
    have hr2 := told_right ht2
    have DN := Lib.hid (fun w1 v (q : FlR w1 v ⟨vv, X, s⟩) => dencode7_yes v ⟨vv, X, s⟩ w1 q hr2.1 hr2.2)
    have ll := hr2.2
    clear ht2 T2 sm hbi hr2
    refine YE.out.mono ?_; rintro e w5 ⟨v5, rfl, o5, u5⟩
    obtain ⟨A5, c5, rfl, i5, j5, r5, _⟩ := o5.form
    generalize encF ⟨vv, X, s⟩ = E at *
    obtain ⟨l5, hl5⟩ : ∃ l, E.length = l := ⟨_, rfl⟩
    have EL := Lib.hid hl5
    rw [hl5] at i5 ll ⊢
    clear hl5 o5
    have R5 := Lib.hid r5
    have B5 := Lib.hid (B4.out.up u5)
    have X5 := Lib.hid (X4.out.up u5)
    have U5 := Lib.hid (U4.out.trans u5)
    have K5 := Lib.hid (K4.out.up u5)
    have N5 := Lib.hid (N4.out.up u5)
    clear u5 r5 B4 X4 U4 K4 N4 YE
    obtain ⟨b0, b1', b2, b3, b4, b5, b6⟩ := B5.out
    go_wp2_with fail
    clear b0 b1' b2 b3 b4 b5 b6
    refine (RF.out _ _ K5.out).mono ?_; rintro e w6 ⟨rfl, u6⟩
    go_wp2_with fail
    refine (DR.out _ _ (K5.out.up u6)).mono ?_; rintro e w7 ⟨rfl, u7⟩
    have u57 := u6.trans u7
    have B7 := Lib.hid (B5.out.up u57)
    have X7 := Lib.hid (X5.out.up u57)
    have U7 := Lib.hid (U5.out.trans u57)
    have K7 := Lib.hid (K5.out.up u57)
    have N7 := Lib.hid (N5.out.up u57)
    have R7 := Lib.hid (R5.out.up u57)
    clear u6 u7 u57 B5 X5 U5 K5 N5 R5
    go_wp2_with fail
    obtain ⟨b0, b1', b2, b3, b4, b5, b6⟩ := B7.out
    obtain ⟨a0, a1, a2', a3, a4, a5, a6⟩ := X7.out
    replace b0 := cell_regrown b0; replace b1' := cell_regrown b1'; replace b2 := cell_regrown b2; replace b3 := cell_regrown b3; replace b4 := cell_regrown b4; replace b5 := cell_regrown b5; replace b6 := cell_regrown b6
    replace a0 := cell_regrown a0; replace a1 := cell_regrown a1; replace a2' := cell_regrown a2'; replace a3 := cell_regrown a3; replace a4 := cell_regrown a4; replace a5 := cell_regrown a5; replace a6 := cell_regrown a6
    have G0 := quiet_up (w := w7) (fun W u => RT.out W _ (K7.out.up u))
    have G1 := quiet_up (w := w7) (fun W u => RF.out W _ (K7.out.up u))
    have G2 := quiet_up (w := w7) (fun W u => RF.out W _ (N7.out.up u))
    have G3 := quiet_up (w := w7) (fun W u => SM.out W _ _ (K7.out.up u) (N7.out.up u))
    refine wp_region_quiet_below (by kernel_rfl) (by kernel_rfl) ?_
    repeat (quiet_step (first | (with_reducible exact G0 _ _) | (with_reducible exact G1 _ _) | (with_reducible exact G2 _ _) | (with_reducible exact G3 _ _)))
    refine wpQuiet_nil ?_
    rintro _ ⟨⟨dq, osq⟩, rfl⟩
    have UG := up_grown w7 dq osq
    have U8 := Lib.hid (U7.out.trans UG)
    have B8 := Lib.hid (B7.out.up UG)
    have K8 := Lib.hid (K7.out.up UG)
    have R8 := Lib.hid (R7.out.up UG)
    clear a0 a1 a2' a3 a4 a5 a6 b0 b1' b2 b3 b4 b5 b6 G0 G1 G2 G3 UG U7 B7 K7 R7 X7 N7
    obtain ⟨b0, b1', b2, b3, b4, b5, b6⟩ := B8.out
    go_wp2_with fail
    clear b0 b1' b2 b3 b4 b5 b6
    refine (RF.out _ _ K8.out).mono ?_; rintro e w9 ⟨rfl, u9⟩
    go_wp2_with fail
    refine (DN.out _ _ (K8.out.up u9)).mono ?_; rintro e w10 ⟨v10, rfl, o10, u10⟩
    obtain ⟨A10, c10, rfl, i10, j10, r10, _⟩ := o10.form
    have U10 := Lib.hid ((U8.out.trans u9).trans u10)
    have R10 := Lib.hid ((R8.out.up u9).up u10)
    have S10 := Lib.hid r10
    clear o10 r10 u9 u10 U8 B8 K8 R8 RF SM RT DR DN
    rw [EL.out] at i10 ⊢
    have Z1 := convert_rd w10 A5 l5 c5 E EL.out R10.out
    have Z2 := convert_rd w10 A10 l5 c10 E EL.out S10.out
    go_wp2_with fail
    go_ret
    exact ⟨rfl, U10.out⟩

set_option maxRecDepth 100000 in
theorem readable : ∀ t ∈ Tryz.f3.params.toList, Tryz.prog.readableRec t = true ∧ t < Tryz.prog.types.size := by
  rw [Tryz.params3]
  intro t ht
  have hall : ([29].all fun u => Tryz.prog.readableRec u && decide (u < Tryz.prog.types.size)) = true := by kernel_rfl
  have := List.all_eq_true.1 hall t (by simpa using ht)
  simpa using this

set_option maxRecDepth 100000 in
theorem lifted (os : Os) (started : os.Started) (H : Type) (enc : TypeId × Value → H) :
    ReturnsInHanded {} Tryz.checked os 3 .any (Rows.tzifTellsSpec.pre6 enc Tryz.prog Tryz.f3 Rows.tzifTellsRow.domain false) (Rows.tzifTellsSpec.post enc Tryz.prog Tryz.f3 false true false false) := by
  refine returnsInHanded_of_change (C := Tryz.checked) own started (by kernel_rfl) Tryz.func3
    (ChangeSpec.witness6 (enc := enc) (C := Tryz.checked) false ⟨#[], #[.agg #[.int .i64 0, .slice none 0 0, .slice none 0 0, .slice none 0 0, .slice none 0 0, .slice none 0 0, .string ByteArray.empty]], []⟩ 8 (by kernel_rfl) (by kernel_rfl) (by kernel_rfl) (by kernel_rfl)) ?_
  intro W base args ds gs before hval0 hW hcnd _
  have hval : ∀ (j : Nat) t v, Tryz.f3.params[j]? = some t → args[j]? = some v → Value.okWide Tryz.prog W .any base t v := hval0
  have hW' := hW
  obtain ⟨p, q, hA0, hV, rfl, hfz, hnd⟩ := hW
  have hA : DataW.TrodAll enc Tryz.prog W 0 (fun _ => true) true Tryz.f3.params.toList args.toList ds p := hA0
  rw [Tryz.params3] at hA hval
  obtain ⟨v0, vs0, d0, ds0, p0, q0, hargs, rfl, rfl, h0, r0⟩ := trodAll_cons hA
  obtain ⟨rfl, rfl, rfl⟩ := trodAll_nil r0
  obtain rfl : args = #[v0] := by cases args; simp_all
  obtain ⟨rfl, rfl⟩ := trodVars_none hV
  obtain ⟨f0, R0, b0, u0, s0⟩ := open_fil (hval 0 29 v0 rfl rfl) h0
  clear hA0 hval0
  refine (walk W v0 f0 R0 b0 u0 s0).mono fun e W' ⟨he, hg⟩ => ?_
  subst he
  exact ⟨_, rfl, post_up laidOut readable rfl hW' (fun _ _ _ => (trodAll_cons_mk (shut_bool Tryz.underlying4 _) trodAll_mk0)) rfl rfl
    hg (ok_one (by kernel_rfl) rfl (okWide_bool_mk Tryz.underlying4 _))⟩

set_option maxRecDepth 100000 in
theorem over : Rows.tzifTellsRow.holds Tryz.pinned (OpenSpec.ofChange Rows.tzifTellsSpec) :=
  OpenClaim.holds_of_wide 3 Tryz.f3 rfl rfl rfl rfl rfl rfl rfl ⟨rfl, rfl, rfl, rfl, rfl⟩ rfl rfl rfl rfl rfl (by kernel_rfl) Tryz.func3 (by kernel_rfl)
    (of_decide_eq_true (by kernel_rfl)) (by unfold Func.isWrapper; first | (rw [if_pos (by decide +kernel)]; kernel_rfl) | (rw [if_neg (by decide +kernel)]; exact ⟨rfl, rfl⟩))
    (fun os started H enc _ => lifted os started H enc)

set_option maxRecDepth 100000 in
theorem proved : Rows.TzifTellsSaid :=
  over
end Go.Proofs.YtaljddoenjgbfaaGreat.tzifTells
