/-
  TzifBack answers true: what was told of a file (cut) is read as it was; with a byte more it is none, with less it is too short. No condition.
-/
import Derived.Test.YtaljddoenjgbfaaLcShown7
import Derived.Test.YtaljddoenjgbfaaLcTzO
import Derived.Test.YtaljddoenjgbfaaLcTzW
import Derived.Test.YtaljddoenjgbfaaLcMp
import Derived.Test.YtaljddoenjgbfaaLcMm
import Derived.WalkKit
import Derived.Deep.RegionHeld
import Derived.BigQuiet
import Derived.ProofKit
import Derived.OpenShut
import Derived.Deep.CutRange
import Derived.StillTailTactics
namespace Go.Proofs.Ytaljddoenjgbfaa.tzifBack
open Go.ChangeShapes Go.WideShapes Go.ChangeAt Go.RowKit Lc
set_option linter.unusedVariables false

set_option maxRecDepth 100000 in
theorem own : ownKnob Try.prog.godebug = none := by kernel_rfl

set_option maxRecDepth 100000 in
theorem mask24 (a : Int) : ∃ n : Nat, n < 16777216 ∧ bits .and .i64 a 16777215 = n := by
  refine ⟨(BitVec.ofInt 64 a).toNat &&& 16777215, ?_, ?_⟩
  · have := Nat.and_le_right (n := (BitVec.ofInt 64 a).toNat) (m := 16777215); omega
  · have l := Nat.and_le_right (n := (BitVec.ofInt 64 a).toNat) (m := 16777215)
    show IntKind.i64.wrap (((BitVec.ofInt 64 a &&& BitVec.ofInt 64 16777215).toNat : Nat) : Int) = _
    rw [BitVec.toNat_and, show (BitVec.ofInt 64 16777215).toNat = 16777215 from by decide]
    exact IntWalk.i64_in _ (by omega)
set_option maxRecDepth 100000 in
/-- At the world where one byte stands. -/
theorem mo_u8 {a : Int} (h : (Lit.int .u8 a).wf = true) : ∃ m : UInt8, a = (m.toNat : Int) := by
  have h1 : IntKind.u8.min = 0 := rfl
  have h2 : IntKind.u8.max = 255 := rfl
  simp only [Lit.wf, Bool.and_eq_true, decide_eq_true_eq] at h
  exact ⟨UInt8.ofNat a.toNat, by rw [UInt8.toNat_ofNat']; omega⟩
set_option maxRecDepth 100000 in
theorem tdF_no {l : List UInt8} (h : ¬ tdE l = 0) : tdF l = fl0 := by unfold tdF; rw [if_neg h]

set_option maxHeartbeats 4000000 in
set_option maxRecDepth 100000 in
theorem walk (w : World) (v0 : Value) (f0 : Fil) (a1 : Int) (a2 : Int) (r0 : FlR w v0 f0) (b0 : BI f0.blk) (u0 : (Lit.int .i64 f0.ver).wf = true) (s0 : f0.foot.size ≤ maxLen) (w1 : (Lit.int .u8 a1).wf = true) (w2 : (Lit.int .i64 a2).wf = true) :
    Calls Try.prog 3 #[v0, .int .u8 a1, .int .i64 a2] w fun e w' => e = .returned (.bool true) ∧ Up w w' := by
  obtain ⟨mo, rfl⟩ := mo_u8 w1
  obtain ⟨na, hna, mna⟩ := mask24 a2
  have FW := Lib.hid (fun w1 (u : Up w w1) => few7_any v0 f0 w1 (r0.up u))
  have sm := Lib.hid (cutF_small f0)
  have hbi := Lib.hid (show BI (cutF f0).blk from cut_bi b0)
  obtain ⟨vv, X, s, hF⟩ : ∃ vv X s, cutF f0 = ⟨vv, X, s⟩ := ⟨_, _, _, rfl⟩
  rw [hF] at FW sm hbi
  obtain ⟨A0, n0, c0, A1, n1, c1, A2, n2, c2, A3, n3, c3, A4, n4, c4, rfl, _⟩ := r0.form
  generalize f0.ver = v1 at *
  generalize f0.foot = s1 at *
  have BX := Lib.hid (Bx7.new w (.int .i64 v1) (.slice A0 n0 c0) (.slice A1 n1 c1) (.slice A2 n2 c2) (.slice A3 n3 c3) (.slice A4 n4 c4) (.string s1) 29)
  have FX := Lib.hid (Free.new w #[.int .i64 v1, .slice A0 n0 c0, .slice A1 n1 c1, .slice A2 n2 c2, .slice A3 n3 c3, .slice A4 n4 c4, .string s1] 29)
  have U0 := Lib.hid (Up.alloc w (.cells #[.int .i64 v1, .slice A0 n0 c0, .slice A1 n1 c1, .slice A2 n2 c2, .slice A3 n3 c3, .slice A4 n4 c4, .string s1] 29))
  clear r0 b0 u0 s0 hF
  go_enter Try.func3, Try.ntmps3
  go_wp2_with fail
  refine (shown7_any _).mono ?_; rintro e w1 ⟨rfl, u1⟩
  have U1 := Lib.hid (U0.out.trans u1)
  have B1 := Lib.hid (BX.out.up u1)
  have F1 := Lib.hid (FX.out.up u1)
  clear u1 BX FX U0
  obtain ⟨a0, a1, a2, a3, a4, a5, a6⟩ := B1.out
  go_wp2_with fail
  clear a0 a1 a2 a3 a4 a5 a6
  refine (FW.out _ U1.out).mono ?_; rintro e w2 ⟨v2, rfl, o2, u2⟩
  have lt2 : w.heap.size < w1.heap.size := F1.out.1
  obtain ⟨P0, q0, d0, P1, q1, d1, P2, q2, d2, P3, q3, d3, P4, q4, d4, rfl, k2⟩ := o2.form
  simp only at k2 ⊢
  have lt2' : w.heap.size < w2.heap.size := Nat.lt_of_lt_of_le lt2 u2.size
  have K3 := Lib.hid (k2.low7 lt2 (.int .i64 vv) (.slice P0 q0 d0) (.slice P1 q1 d1) (.slice P2 q2 d2) (.slice P3 q3 d3) (.slice P4 q4 d4) (.string s))
  have B3 := Lib.hid (Bx7.seven (B1.out.up u2) (.int .i64 vv) (.slice P0 q0 d0) (.slice P1 q1 d1) (.slice P2 q2 d2) (.slice P3 q3 d3) (.slice P4 q4 d4) (.string s))
  have U3 := Lib.hid (Up.seven (U1.out.trans u2) (Nat.le_refl _) (.int .i64 vv) (.slice P0 q0 d0) (.slice P1 q1 d1) (.slice P2 q2 d2) (.slice P3 q3 d3) (.slice P4 q4 d4) (.string s))
  obtain ⟨a0, a1, a2', a3, a4, a5, a6⟩ := B1.out.up u2
  obtain ⟨_, fz⟩ := F1.out.up u2
  have z0 := fz 0; have z1 := fz 1; have z2 := fz 2; have z3 := fz 3; have z4 := fz 4; have z5 := fz 5; have z6 := fz 6
  clear fz o2 u2 k2 B1 F1 U1 FW
  go_wp2_with fail
  obtain ⟨V3, hV3⟩ : ∃ V, (((((((w2.setCell ⟨w.heap.size, 0, none⟩ (.int .i64 vv)).setCell ⟨w.heap.size, 1, none⟩ (.slice P0 q0 d0)).setCell ⟨w.heap.size, 2, none⟩ (.slice P1 q1 d1)).setCell ⟨w.heap.size, 3, none⟩ (.slice P2 q2 d2)).setCell ⟨w.heap.size, 4, none⟩ (.slice P3 q3 d3)).setCell ⟨w.heap.size, 5, none⟩ (.slice P4 q4 d4)).setCell ⟨w.heap.size, 6, none⟩ (.string s)) = V := ⟨_, rfl⟩
  rw [hV3]
  replace K3 : Hid (FlR V3 (.agg #[.int .i64 vv, .slice P0 q0 d0, .slice P1 q1 d1, .slice P2 q2 d2, .slice P3 q3 d3, .slice P4 q4 d4, .string s]) ⟨vv, X, s⟩) := by rw [← hV3]; exact FlR.of K3.out.rd vv s
  replace B3 : Hid (Bx7 V3 w.heap.size (.int .i64 vv) (.slice P0 q0 d0) (.slice P1 q1 d1) (.slice P2 q2 d2) (.slice P3 q3 d3) (.slice P4 q4 d4) (.string s)) := by rw [← hV3]; exact B3
  replace U3 : Hid (Up w V3) := by rw [← hV3]; exact U3
  clear hV3 a0 a1 a2' a3 a4 a5 a6 z0 z1 z2 z3 z4 z5 z6 lt2 lt2'
  generalize w.heap.size = B at B3 ⊢
  have T2 := Lib.hid (told_small (f := ⟨vv, X, s⟩) sm.out)
  obtain ⟨t2, ht2⟩ : ∃ t, toldB ⟨vv, X, s⟩ = t := ⟨_, rfl⟩
  cases t2
  · have NO := Lib.hid (tencode_no _ ⟨vv, X, s⟩ _ K3.out ht2)
    have RT := Lib.hid (fun w1 (u : Up V3 w1) => tright_any _ ⟨vv, X, s⟩ w1 (K3.out.up u))
    rw [← T2.out, ht2] at RT
    refine NO.out.mono ?_; rintro e w4 ⟨rfl, u4⟩
    obtain ⟨a0, a1, a2', a3, a4, a5, a6⟩ := B3.out.up u4
    go_wp2_with fail
    refine (RT.out _ u4).mono ?_; rintro e w5 ⟨rfl, u5⟩
    go_wp2_with fail
    go_ret
    exact ⟨rfl, (U3.out.trans u4).trans u5⟩
  · have YE := Lib.hid (tencode_yes _ ⟨vv, X, s⟩ _ K3.out ht2)
    have TE := td_enc (f := ⟨vv, X, s⟩) ht2 hbi.out
    have TM := td_more (f := ⟨vv, X, s⟩) ht2 hbi.out mo
    have TL := fun n h => td_less (f := ⟨vv, X, s⟩) (n := n) ht2 hbi.out h
    have TP := enc_pos ⟨vv, X, s⟩
    have LL := (told_right ht2).2
    have DE := Lib.hid (fun w1 v (q : Sb w1 v (encF ⟨vv, X, s⟩)) => tdecode_any v (encF ⟨vv, X, s⟩) w1 q)
    rw [TE.1, TE.2] at DE
    unfold DfP at DE
    have DM := Lib.hid (fun w1 v (q : Sb w1 v (encF ⟨vv, X, s⟩ ++ [mo])) => tdecode_any v (encF ⟨vv, X, s⟩ ++ [mo]) w1 q)
    rw [TM, tdF_no (by rw [TM]; decide)] at DM
    unfold DfP at DM
    have DL := Lib.hid (fun n (h : n < (encF ⟨vv, X, s⟩).length) w1 v (q : Sb w1 v ((encF ⟨vv, X, s⟩).take n)) => by
      have d := tdecode_any v ((encF ⟨vv, X, s⟩).take n) w1 q
      rw [TL n h, tdF_no (by rw [TL n h]; decide)] at d
      unfold DfP at d
      exact d)
    have RF := Lib.hid (fun w1 v (q : FlR w1 v ⟨vv, X, s⟩) => ref7_any v ⟨vv, X, s⟩ w1 q)
    have SM := Lib.hid (fun w1 a b (ka : FlR w1 a ⟨vv, X, s⟩) (kb : FlR w1 b ⟨vv, X, s⟩) => same7_yes a b ⟨vv, X, s⟩ w1 ka kb)
    clear TE TM TL
    generalize encF ⟨vv, X, s⟩ = E at *
    refine YE.out.mono ?_; rintro e w4 ⟨v4, rfl, o4, u4⟩
    obtain ⟨A4', c4', rfl, i4, j4, r4, _⟩ := o4.form
    have R4 := Lib.hid r4
    have S4 := Lib.hid (show Sb w4 (.slice A4' E.length c4') E from ⟨A4', c4', rfl, i4, j4, r4⟩)
    have K4 := Lib.hid (K3.out.up u4)
    have B4 := Lib.hid (B3.out.up u4)
    have U4 := Lib.hid (U3.out.trans u4)
    clear o4 u4 YE T2 ht2 K3 B3 U3 r4
    have EL := Lib.hid (rfl : E.length = E.length)
    obtain ⟨l2, hl2⟩ : ∃ l, E.length = l := ⟨_, rfl⟩
    rw [hl2] at TP LL S4 i4 DL ⊢
    replace EL : Hid (E.length = l2) := hl2
    clear hl2
    go_wp2_with fail
    refine (DE.out _ _ S4.out).mono ?_; rintro e w5 ⟨v5, rfl, k5, _, u5⟩
    obtain ⟨Q0, y0, g0, Q1, y1, g1, Q2, y2, g2, Q3, y3, g3, Q4, y4, g4, rfl, _⟩ := k5.form
    simp only at k5 ⊢
    have uc := Up.alloc w5 (.cells #[.int .i64 vv, .slice Q0 y0 g0, .slice Q1 y1 g1, .slice Q2 y2 g2, .slice Q3 y3 g3, .slice Q4 y4 g4, .string s] 29)
    have X5 := Lib.hid (Bx7.new w5 (.int .i64 vv) (.slice Q0 y0 g0) (.slice Q1 y1 g1) (.slice Q2 y2 g2) (.slice Q3 y3 g3) (.slice Q4 y4 g4) (.string s) 29)
    have u45 := u5.trans uc
    have K5 := Lib.hid (K4.out.up u45)
    have B5 := Lib.hid (B4.out.up u45)
    have U5 := Lib.hid (U4.out.trans u45)
    have R5 := Lib.hid (R4.out.up u45)
    have N5 := Lib.hid (k5.up uc)
    clear u5 k5 K4 B4 U4 R4 S4 DE
    go_upto_region 9 with (fail)
    clear uc
    generalize w5.alloc (.cells #[.int .i64 vv, .slice Q0 y0 g0, .slice Q1 y1 g1, .slice Q2 y2 g2, .slice Q3 y3 g3, .slice Q4 y4 g4, .string s] 29) = V5 at *
    generalize w5.heap.size = BG at *
    go_wp2_with (at_builtin; refine wpList_append_bytes _ rfl _ _ rfl V5.heap.size _ [] rfl (Ow.empty V5 _ (Nat.le_refl _)) A4' E l2 c4' rfl EL.out (R5.out.up (Up.alloc _ _)) ?e1 (by simp) ?_)
    case e1 => have := EL.out; omega
    intro v6 w6 ho6 hg6 hat6
    replace ho6 : Ow w6 V5.heap.size v6 E := by simpa using ho6
    have S6 : Hid (V5.heap.size ≤ w6.heap.size) := by have := hg6.size; simp at this; unfold Hid; omega
    have U6 : Hid (Up V5 w6) := (Up.alloc V5 _).grown hg6 (by intro k hk; simp [Value.ownBlock] at hk; omega)
    have O6 := Lib.hid ho6
    clear ho6 hg6 hat6
    go_wp2_with (at_builtin; refine wpList_append_bytes _ rfl _ _ rfl V5.heap.size _ E rfl (O6.out.up (Up.alloc _ _)) _ [mo] 1 1 rfl rfl (Rd.new w6 [mo] #[.int .u8 mo.toNat] 5 rfl) ?e2 (by have := S6.out; simp; omega) ?_)
    case e2 => have := EL.out; simp only [List.length_cons, List.length_nil]; omega
    intro v7 w7 ho7 hg7 hat7
    have U7 : Hid (Up V5 w7) := (U6.out.alloc' _).grown hg7 O6.out.block
    obtain ⟨A7, c7, rfl, i7, j7, r7, _⟩ := ho7.form
    have S7 := Lib.hid (show Sb w7 (.slice A7 (E ++ [mo]).length c7) (E ++ [mo]) from ⟨A7, c7, rfl, i7, j7, r7⟩)
    clear ho7 hg7 hat7 r7
    have ll7 : (E ++ [mo]).length = l2 + 1 := by have := EL.out; simp; omega
    rw [ll7] at S7 i7 ⊢
    go_wp2_with fail
    refine (DM.out w7 _ S7.out).mono ?_; rintro e w8 ⟨v8, rfl, k8, _, u8⟩
    obtain ⟨H0, x0, h0, H1, x1, h1, H2, x2, h2, H3, x3, h3, H4, x4, h4, rfl, _⟩ := k8.form
    rw [show fl0.ver = 0 from rfl, show fl0.foot = ⟨#[]⟩ from rfl] at k8 ⊢
    have uc := Up.alloc w8 (.cells #[.int .i64 0, .slice H0 x0 h0, .slice H1 x1 h1, .slice H2 x2 h2, .slice H3 x3 h3, .slice H4 x4 h4, .string ⟨#[]⟩] 29)
    have u58 := (U7.trans u8).trans uc
    have K8 := Lib.hid (K5.out.up u58)
    have B8 := Lib.hid (B5.out.up u58)
    have U8 := Lib.hid (U5.out.trans u58)
    have R8 := Lib.hid (R5.out.up u58)
    have N8 := Lib.hid (N5.out.up u58)
    have X8 := Lib.hid (X5.out.up u58)
    clear U7 u8 u58 k8 K5 B5 U5 R5 N5 X5 S7 DM O6 U6 S6 i7 j7 ll7
    obtain ⟨m, hm⟩ : ∃ m, na % l2 = m := ⟨_, rfl⟩
    have hml : m < l2 := by rw [← hm]; exact Nat.mod_lt _ (by omega)
    have hmI : ((na : Nat) : Int).tmod (l2 : Int) = (m : Int) := by rw [Int.tmod_eq_emod_of_nonneg (by omega), ← hm]; rfl
    have S8 := Lib.hid (show Sb _ (.slice A4' m c4') (E.take m) from ⟨A4', c4', by rw [List.length_take, EL.out, Nat.min_eq_left (by omega)], by rw [List.length_take, EL.out]; omega, j4, R8.out.take m⟩)
    go_wp2_with fail
    generalize w8.alloc (.cells #[.int .i64 0, .slice H0 x0 h0, .slice H1 x1 h1, .slice H2 x2 h2, .slice H3 x3 h3, .slice H4 x4 h4, .string ⟨#[]⟩] 29) = V8 at *
    generalize w8.heap.size = BH at *
    refine (DL.out m hml V8 _ S8.out).mono ?_; rintro e w9 ⟨v9, rfl, k9, _, u9⟩
    obtain ⟨J0, t0, j0', J1, t1, j1, J2, t2, j2, J3, t3, j3, J4, t4, j4', rfl, _⟩ := k9.form
    rw [show fl0.ver = 0 from rfl, show fl0.foot = ⟨#[]⟩ from rfl] at k9 ⊢
    have ud := Up.alloc w9 (.cells #[.int .i64 0, .slice J0 t0 j0', .slice J1 t1 j1, .slice J2 t2 j2, .slice J3 t3 j3, .slice J4 t4 j4', .string ⟨#[]⟩] 29)
    have u89 := u9.trans ud
    have K9 := Lib.hid (K8.out.up u89)
    have B9 := Lib.hid (B8.out.up u89)
    have U9 := Lib.hid (U8.out.trans u89)
    have N9 := Lib.hid (N8.out.up u89)
    have X9 := Lib.hid (X8.out.up u89)
    clear u9 u89 k9 K8 B8 U8 R8 N8 X8 S8 DL uc ud
    go_wp2_with fail
    generalize w9.alloc (.cells #[.int .i64 0, .slice J0 t0 j0', .slice J1 t1 j1, .slice J2 t2 j2, .slice J3 t3 j3, .slice J4 t4 j4', .string ⟨#[]⟩] 29) = V9 at *
    generalize w9.heap.size = BI' at *
    obtain ⟨b0, b1, b2, b3, b4, b5, b6⟩ := B9.out
    obtain ⟨a0, a1, a2', a3, a4, a5, a6⟩ := X9.out
    replace b0 := cell_regrown b0; replace b1 := cell_regrown b1; replace b2 := cell_regrown b2; replace b3 := cell_regrown b3; replace b4 := cell_regrown b4; replace b5 := cell_regrown b5; replace b6 := cell_regrown b6
    replace a0 := cell_regrown a0; replace a1 := cell_regrown a1; replace a2' := cell_regrown a2'; replace a3 := cell_regrown a3; replace a4 := cell_regrown a4; replace a5 := cell_regrown a5; replace a6 := cell_regrown a6
    have G1 := quiet_up (w := V9) (fun W u => RF.out W _ (N9.out.up u))
    have G2 := quiet_up (w := V9) (fun W u => RF.out W _ (K9.out.up u))
    have G3 := quiet_up (w := V9) (fun W u => SM.out W _ _ (K9.out.up u) (N9.out.up u))
    clear RF SM
    refine wp_region_quiet_below (by kernel_rfl) (by kernel_rfl) ?_
    repeat (quiet_step (first | (with_reducible exact G1 _ _) | (with_reducible exact G2 _ _) | (with_reducible exact G3 _ _)))
    refine wpQuiet_nil ?_
    rintro _ ⟨⟨dq, osq⟩, rfl⟩
    have UF := Lib.hid (U9.out.trans (up_grown V9 dq osq))
    clear a0 a1 a2' a3 a4 a5 a6 b0 b1 b2 b3 b4 b5 b6 G1 G2 G3
    go_wp2_with fail
    go_ret
    exact ⟨rfl, UF.out⟩

set_option maxRecDepth 100000 in
theorem readable : ∀ t ∈ Try.f3.params.toList, Try.prog.readableRec t = true ∧ t < Try.prog.types.size := by
  rw [Try.params3]
  intro t ht
  have hall : ([29, 5, 3].all fun u => Try.prog.readableRec u && decide (u < Try.prog.types.size)) = true := by kernel_rfl
  have := List.all_eq_true.1 hall t (by simpa using ht)
  simpa using this

set_option maxRecDepth 100000 in
theorem lifted (os : Os) (started : os.Started) (H : Type) (enc : TypeId × Value → H) :
    ReturnsInHanded {} Try.checked os 3 .any (Rows.tzifBackSpec.pre6 enc Try.prog Try.f3 Rows.tzifBackRow.domain false) (Rows.tzifBackSpec.post enc Try.prog Try.f3 false true false false) := by
  refine returnsInHanded_of_change (C := Try.checked) own started (by kernel_rfl) Try.func3
    (ChangeSpec.witness6 (enc := enc) (C := Try.checked) false ⟨#[], #[.agg #[.int .i64 0, .slice none 0 0, .slice none 0 0, .slice none 0 0, .slice none 0 0, .slice none 0 0, .string ByteArray.empty], .int .u8 0, .int .i64 0], []⟩ 8 (by kernel_rfl) (by kernel_rfl) (by kernel_rfl) (by kernel_rfl)) ?_
  intro W base args ds gs before hval0 hW hcnd _
  have hval : ∀ (j : Nat) t v, Try.f3.params[j]? = some t → args[j]? = some v → Value.okWide Try.prog W .any base t v := hval0
  have hW' := hW
  obtain ⟨p, q, hA0, hV, rfl, hfz, hnd⟩ := hW
  have hA : DataW.TrodAll enc Try.prog W 0 (fun _ => true) true Try.f3.params.toList args.toList ds p := hA0
  rw [Try.params3] at hA hval
  obtain ⟨v0, vs0, d0, ds0, p0, q0, hargs, rfl, rfl, h0, r0⟩ := trodAll_cons hA
  obtain ⟨v1, vs1, d1, ds1, p1, q1, rfl, rfl, rfl, h1, r1⟩ := trodAll_cons r0
  obtain ⟨v2, vs2, d2, ds2, p2, q2, rfl, rfl, rfl, h2, r2⟩ := trodAll_cons r1
  obtain ⟨rfl, rfl, rfl⟩ := trodAll_nil r2
  obtain rfl : args = #[v0, v1, v2] := by cases args; simp_all
  obtain ⟨rfl, rfl⟩ := trodVars_none hV
  obtain ⟨f0, R0, b0, u0, s0⟩ := open_fil (hval 0 29 v0 rfl rfl) h0
  obtain ⟨a1, rfl, rfl, rfl, w1⟩ := open_int Try.underlying5 (hval 1 5 v1 rfl rfl) h1
  obtain ⟨a2, rfl, rfl, rfl, w2⟩ := open_int Try.underlying3 (hval 2 3 v2 rfl rfl) h2
  clear hA0 hval0
  refine (walk W v0 f0 a1 a2 R0 b0 u0 s0 w1 w2).mono fun e W' ⟨he, hg⟩ => ?_
  subst he
  exact ⟨_, rfl, post_up laidOut readable rfl hW' (fun _ _ _ => (trodAll_cons_mk (shut_bool Try.underlying4 _) trodAll_mk0)) rfl rfl
    hg (ok_one (by kernel_rfl) rfl (okWide_bool_mk Try.underlying4 _))⟩

set_option maxRecDepth 100000 in
theorem over : Rows.tzifBackRow.holds Try.pinned (OpenSpec.ofChange Rows.tzifBackSpec) :=
  OpenClaim.holds_of_wide 3 Try.f3 rfl rfl rfl rfl rfl rfl rfl ⟨rfl, rfl, rfl, rfl, rfl⟩ rfl rfl rfl rfl rfl (by kernel_rfl) Try.func3 (by kernel_rfl)
    (of_decide_eq_true (by kernel_rfl)) (by unfold Func.isWrapper; first | (rw [if_pos (by decide +kernel)]; kernel_rfl) | (rw [if_neg (by decide +kernel)]; exact ⟨rfl, rfl⟩))
    (fun os started H enc _ => lifted os started H enc)

set_option maxRecDepth 100000 in
theorem proved : Rows.TzifBackSaid :=
  over
end Go.Proofs.Ytaljddoenjgbfaa.tzifBack
