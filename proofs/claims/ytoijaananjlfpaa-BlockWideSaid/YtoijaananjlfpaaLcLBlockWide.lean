/-
  BlockWide answers true: what fits four bytes fits eight, and is read as the same, for any block (cut) and version.
-/
import Derived.Test.YtoijaananjlfpaaLcShown6
import Derived.Test.YtoijaananjlfpaaLcPst
import Derived.Test.YtoijaananjlfpaaLcHdO
import Derived.Test.YtoijaananjlfpaaLcBkO
import Derived.Test.YtoijaananjlfpaaLcBkW
import Derived.WalkKit
import Derived.Deep.RegionHeld
import Derived.BigQuiet
import Derived.ProofKit
import Derived.OpenShut
namespace Go.Proofs.Ytoijaananjlfpaa.blockWide
open Go.ChangeShapes Go.WideShapes Go.ChangeAt Go.RowKit Lc
set_option linter.unusedVariables false

theorem own : ownKnob Try.prog.godebug = none := by kernel_rfl

set_option maxHeartbeats 4000000 in
set_option maxRecDepth 100000 in
theorem walk (w : World) (v0 : Value) (x0 : Blk) (a1 : Int) (r0 : BkR w v0 x0) (b0 : BI x0) (w1 : (Lit.int .i64 a1).wf = true) :
    Calls Try.prog 6 #[v0, .int .i64 a1] w fun e w' => e = .returned (.bool true) ∧ Up w w' := by
  obtain ⟨n, hn, e3⟩ := mask3 a1
  have FW := Lib.hid (fun w1 (u : Up w w1) => few_any v0 x0 w1 (r0.up u))
  have hbi := Lib.hid (cut_bi b0)
  have hlen := cut_len x0
  generalize cutB x0 = X at *
  have RI := Lib.hid (fun w1 v h => bright_any v X 4 (1 + (n : Int)) w1 h)
  obtain ⟨A0, n0, c0, A1, n1, c1, A2, n2, c2, A3, n3, c3, A4, n4, c4, rfl⟩ := r0.form
  have BX := Lib.hid (Bx5.new w (.slice A0 n0 c0) (.slice A1 n1 c1) (.slice A2 n2 c2) (.slice A3 n3 c3) (.slice A4 n4 c4) 27)
  have FX := Lib.hid (Free.new w #[.slice A0 n0 c0, .slice A1 n1 c1, .slice A2 n2 c2, .slice A3 n3 c3, .slice A4 n4 c4] 27)
  have U0 := Lib.hid (Up.alloc w (.cells #[.slice A0 n0 c0, .slice A1 n1 c1, .slice A2 n2 c2, .slice A3 n3 c3, .slice A4 n4 c4] 27))
  clear r0 b0 w1
  go_enter Try.func6, Try.ntmps6
  go_wp2_with fail
  refine (shown_any _).mono ?_; rintro e w1 ⟨rfl, u1⟩
  have U1 := Lib.hid (U0.out.trans u1)
  have B1 := Lib.hid (BX.out.up u1)
  have F1 := Lib.hid (FX.out.up u1)
  clear u1 BX FX U0
  obtain ⟨a0, a1', a2, a3, a4⟩ := B1.out
  go_wp2_with fail
  clear a0 a1' a2 a3 a4
  refine (FW.out _ U1.out).mono ?_; rintro e w2 ⟨v2, rfl, o2, u2⟩
  have U2 := Lib.hid (U1.out.trans u2)
  have lt2 : w.heap.size < w1.heap.size := F1.out.1
  obtain ⟨P0, q0, d0, P1, q1, d1, P2, q2, d2, P3, q3, d3, P4, q4, d4, rfl⟩ := o2.rd.form
  have O3 := Lib.hid (o2.low lt2 (.slice P0 q0 d0) (.slice P1 q1 d1) (.slice P2 q2 d2) (.slice P3 q3 d3) (.slice P4 q4 d4)).rd
  have B3 := Lib.hid (Bx5.five (B1.out.up u2) (.slice P0 q0 d0) (.slice P1 q1 d1) (.slice P2 q2 d2) (.slice P3 q3 d3) (.slice P4 q4 d4))
  have U3 := Lib.hid (Up.five U2.out (Nat.le_refl _) (.slice P0 q0 d0) (.slice P1 q1 d1) (.slice P2 q2 d2) (.slice P3 q3 d3) (.slice P4 q4 d4))
  obtain ⟨a0, a1', a2, a3, a4⟩ := B1.out.up u2
  obtain ⟨_, fz⟩ := F1.out.up u2
  have z0 := fz 0; have z1 := fz 1; have z2 := fz 2; have z3 := fz 3; have z4 := fz 4
  clear fz o2 u2 U2 B1 F1 U1 FW
  go_wp2_with fail
  clear a0 a1' a2 a3 a4 z0 z1 z2 z3 z4
  obtain ⟨ri, hri⟩ : ∃ ri, rightB X 4 (1 + (n : Int)) = ri := ⟨_, rfl⟩
  rw [hri] at RI
  refine (RI.out _ _ O3.out).mono ?_; rintro e w4 ⟨rfl, u4⟩
  have O4 := Lib.hid (O3.out.up u4)
  have B4 := Lib.hid (B3.out.up u4)
  have U4 := Lib.hid (U3.out.trans u4)
  clear u4 O3 B3 U3 RI
  cases ri
  · clear hri
    go_wp2_with fail
    go_ret
    exact ⟨rfl, U4.out⟩
  have E4 := Lib.hid (enc4 X (1 + (n : Int)) (by omega) (by omega) hri)
  have E8 := Lib.hid (enc8 X (1 + (n : Int)) (by omega) (by omega) (right_wide hri))
  have D4 := Lib.hid (dec4 X (1 + (n : Int)) (by omega) (by omega) hri hbi.out [] (encL X 4) _ (List.append_nil _).symm rfl)
  have D8 := Lib.hid (dec8 X (1 + (n : Int)) (by omega) (by omega) (right_wide hri) hbi.out [] (encL X 8) _ (List.append_nil _).symm rfl)
  have bd4 := (enc_bd (z := 4) hri).1
  have bd8 := (enc_bd (z := 8) (right_wide hri)).1
  have LL : (encL X 8).length = (encL X 4).length + 4 * X.js.length + 4 * X.ls.length := by rw [encL_len, encL_len]; omega
  generalize (encL X 4).length = m4 at *
  generalize (encL X 8).length = m8 at *
  obtain ⟨l0n, hl0⟩ : ∃ k, X.ks.length = k := ⟨_, rfl⟩
  obtain ⟨l1n, hl1⟩ : ∃ k, X.js.length = k := ⟨_, rfl⟩
  obtain ⟨l2n, hl2⟩ : ∃ k, X.ls.length = k := ⟨_, rfl⟩
  have HQ : Hid (q1 = X.js.length ∧ q2 = X.ls.length) := by
    obtain ⟨_, _, _, _, _, he, _, ⟨_, _, h1, _⟩, ⟨_, _, h2, _⟩, _⟩ := O4.out
    simp only [Value.agg.injEq, Array.mk.injEq, List.cons.injEq, and_true] at he
    obtain ⟨_, rfl, rfl, _⟩ := he
    injection h1 with _ h1 _
    injection h2 with _ h2 _
    exact ⟨h1, h2⟩
  obtain ⟨hq1, hq2⟩ := HQ.out
  rw [hl1] at hq1
  rw [hl2] at hq2
  subst hq1 hq2
  rw [hl0, hl1, hl2] at E4 E8 D4 D8
  rw [hl1, hl2] at LL
  have LH := Lib.hid LL
  clear LL
  rw [hl0, hl1, hl2] at hlen
  generalize X.ut.length = l4n at *
  generalize X.sd.length = l3n at *
  generalize (nmB X).length = l5n at *
  clear hri hbi HQ hl0 hl1 hl2
  obtain ⟨a0, a1', a2, a3, a4⟩ := B4.out
  go_wp2_with fail
  clear a0 a1' a2 a3 a4
  refine (E4.out _ _ O4.out).mono ?_; rintro e w5 ⟨A5, c5, rfl, f5, g5, r5, u5⟩
  have O5 := Lib.hid (O4.out.up u5)
  have B5 := Lib.hid (B4.out.up u5)
  have U5 := Lib.hid (U4.out.trans u5)
  have R5 := Lib.hid r5
  clear u5 r5 O4 B4 U4 E4
  have H5 := Lib.hid (HBox.new w5 (1 + (n : Int)) l4n l3n q2 q1 l0n l5n 35)
  have u5 := Up.alloc w5 (.cells #[.int .i64 (1 + (n : Int)), .int .i64 l4n, .int .i64 l3n, .int .i64 q2, .int .i64 q1, .int .i64 l0n, .int .i64 l5n] 35)
  obtain ⟨a0, a1', a2, a3, a4⟩ := B5.out
  have lt5 := cell_lt a0
  go_wp2_with fail
  clear a0 a1' a2 a3 a4 lt5
  refine (E8.out _ _ (O5.out.up u5)).mono ?_; rintro e w6 ⟨A6, c6, rfl, f6, g6, r6, u6⟩
  have u56 := u5.trans u6
  have B6 := Lib.hid (B5.out.up u56)
  have U6 := Lib.hid (U5.out.trans u56)
  have R56 := Lib.hid (R5.out.up u56)
  have H56 := Lib.hid (H5.out.up u6)
  have R6 := Lib.hid r6
  clear u5 u6 u56 r6 O5 B5 U5 R5 H5 E8
  have H6 := Lib.hid (HBox.new w6 (1 + (n : Int)) l4n l3n q2 q1 l0n l5n 35)
  have u6 := Up.alloc w6 (.cells #[.int .i64 (1 + (n : Int)), .int .i64 l4n, .int .i64 l3n, .int .i64 q2, .int .i64 q1, .int .i64 l0n, .int .i64 l5n] 35)
  obtain ⟨h0, h1, h2, h3, h4, h5, h6⟩ := H56.out
  have lt6 := cell_lt h0
  go_wp2_with fail
  clear h0 h1 h2 h3 h4 h5 h6 lt6
  refine (D4.out A5 c5 _ f5 g5 (R56.out.up u6)).mono ?_; rintro e w7 ⟨v7, rfl, b7, u7⟩
  have u67 := u6.trans u7
  have B7 := Lib.hid (B6.out.up u67)
  have U7 := Lib.hid (U6.out.trans u67)
  have H57 := Lib.hid (H56.out.up u67)
  have H67 := Lib.hid (H6.out.up u7)
  have R67 := Lib.hid (R6.out.up u67)
  have V7 := Lib.hid b7
  obtain ⟨S0, s0, T0, S1, s1, T1, S2, s2, T2, S3, s3, T3, S4, s4, T4, rfl⟩ := b7.form
  clear u6 u7 u67 b7 B6 U6 H56 H6 R6 R56 D4
  have BY := Lib.hid (Bx5.new w7 (.slice S0 s0 T0) (.slice S1 s1 T1) (.slice S2 s2 T2) (.slice S3 s3 T3) (.slice S4 s4 T4) 27)
  have u7 := Up.alloc w7 (.cells #[.slice S0 s0 T0, .slice S1 s1 T1, .slice S2 s2 T2, .slice S3 s3 T3, .slice S4 s4 T4] 27)
  obtain ⟨h0, h1, h2, h3, h4, h5, h6⟩ := H67.out
  have lt7 := cell_lt h0
  go_wp2_with fail
  clear h0 h1 h2 h3 h4 h5 h6 lt7
  refine (D8.out A6 c6 _ f6 g6 (R67.out.up u7)).mono ?_; rintro e w8 ⟨v8, rfl, b8, u8⟩
  obtain ⟨Y0, y0, Z0, Y1, y1, Z1, Y2, y2, Z2, Y3, y3, Z3, Y4, y4, Z4, rfl⟩ := b8.form
  have u78 := u7.trans u8
  have u9 := Up.alloc w8 (.cells #[.slice Y0 y0 Z0, .slice Y1 y1 Z1, .slice Y2 y2 Z2, .slice Y3 y3 Z3, .slice Y4 y4 Z4] 27)
  have BZ := Bx5.new w8 (.slice Y0 y0 Z0) (.slice Y1 y1 Z1) (.slice Y2 y2 Z2) (.slice Y3 y3 Z3) (.slice Y4 y4 Z4) 27
  have BY9 := (BY.out.up u8).up u9
  have B9 := (B7.out.up u78).up u9
  have U9 := Lib.hid ((U7.out.trans u78).trans u9)
  have H59 := (H57.out.up u78).up u9
  have H69 := (H67.out.up u78).up u9
  have V79 := Lib.hid ((V7.out.up u78).up u9)
  have V89 := Lib.hid (b8.up u9)
  clear u7 u8 u9 u78 b8 B7 U7 H57 H67 R67 V7 BY D8
  go_wp2_with fail
  generalize w8.alloc (.cells #[.slice Y0 y0 Z0, .slice Y1 y1 Z1, .slice Y2 y2 Z2, .slice Y3 y3 Z3, .slice Y4 y4 Z4] 27) = w9 at *
  obtain ⟨a0, a1', a2, a3, a4⟩ := B9
  obtain ⟨b0, b1, b2, b3, b4⟩ := BY9
  obtain ⟨k0', k1, k2, k3, k4⟩ := BZ
  obtain ⟨h0, h1, h2, h3, h4, h5, h6⟩ := H59
  obtain ⟨j0', j1, j2, j3, j4, j5, j6⟩ := H69
  replace a1' := cell_regrown a1'; replace a2 := cell_regrown a2
  replace b0 := cell_regrown b0; replace b1 := cell_regrown b1; replace b2 := cell_regrown b2; replace b3 := cell_regrown b3; replace b4 := cell_regrown b4
  replace k0' := cell_regrown k0'; replace k1 := cell_regrown k1; replace k2 := cell_regrown k2; replace k3 := cell_regrown k3; replace k4 := cell_regrown k4
  replace h0 := cell_regrown h0; replace h1 := cell_regrown h1; replace h2 := cell_regrown h2; replace h3 := cell_regrown h3; replace h4 := cell_regrown h4; replace h5 := cell_regrown h5; replace h6 := cell_regrown h6
  replace j0' := cell_regrown j0'; replace j1 := cell_regrown j1; replace j2 := cell_regrown j2; replace j3 := cell_regrown j3; replace j4 := cell_regrown j4; replace j5 := cell_regrown j5; replace j6 := cell_regrown j6
  clear a0 a3 a4
  have Q1 := quiet_up (w := w9) (fun V u => ref_blk _ X V (V79.out.up u))
  have Q2 := quiet_up (w := w9) (fun V u => ref_blk _ X V (V89.out.up u))
  have Q3 := quiet_up (w := w9) (fun V u => same_yes _ _ X V (V79.out.up u) (V89.out.up u))
  have LI : (m8 : Int) = (m4 : Int) + 4 * (q1 : Int) + 4 * (q2 : Int) := by have := LH.out; omega
  have ww1 : IntKind.i64.wrap (4 * (q1 : Int)) = 4 * (q1 : Int) := IntWalk.i64_in _ (by omega)
  have ww2 : IntKind.i64.wrap (4 * (q2 : Int)) = 4 * (q2 : Int) := IntWalk.i64_in _ (by omega)
  have ww3 : IntKind.i64.wrap ((m4 : Int) + 4 * (q1 : Int)) = (m4 : Int) + 4 * (q1 : Int) := IntWalk.i64_in _ (by omega)
  have ww4 : IntKind.i64.wrap ((m4 : Int) + 4 * (q1 : Int) + 4 * (q2 : Int)) = (m4 : Int) + 4 * (q1 : Int) + 4 * (q2 : Int) := IntWalk.i64_in _ (by omega)
  refine wp_region_quiet_below (by kernel_rfl) (by kernel_rfl) ?_
  repeat (quiet_step (first | (with_reducible exact Q1 _ _) | (with_reducible exact Q2 _ _) | (with_reducible exact Q3 _ _)))
  refine wpQuiet_nil ?_
  intro _ hw'
  obtain ⟨⟨dq, osq⟩, hw''⟩ := hw'
  subst hw''
  go_wp2_with fail
  go_ret
  exact ⟨rfl, U9.out.trans (up_grown w9 dq osq)⟩

theorem readable : ∀ t ∈ Try.f6.params.toList, Try.prog.readableRec t = true ∧ t < Try.prog.types.size := by
  rw [Try.params6]
  intro t ht
  have hall : ([27, 3].all fun u => Try.prog.readableRec u && decide (u < Try.prog.types.size)) = true := by kernel_rfl
  have := List.all_eq_true.1 hall t (by simpa using ht)
  simpa using this

set_option maxRecDepth 100000 in
theorem lifted (os : Os) (started : os.Started) (H : Type) (enc : TypeId × Value → H) :
    ReturnsInHanded {} Try.checked os 6 .any (Rows.blockWideSpec.pre6 enc Try.prog Try.f6 Rows.blockWideRow.domain false) (Rows.blockWideSpec.post enc Try.prog Try.f6 false true false false) := by
  refine returnsInHanded_of_change (C := Try.checked) own started (by kernel_rfl) Try.func6
    (ChangeSpec.witness6 (enc := enc) (C := Try.checked) false ⟨#[], #[.agg #[.slice none 0 0, .slice none 0 0, .slice none 0 0, .slice none 0 0, .slice none 0 0], .int .i64 0], []⟩ 8 (by kernel_rfl) (by kernel_rfl) (by kernel_rfl) (by kernel_rfl)) ?_
  intro W base args ds gs before hval0 hW hcnd _
  have hval : ∀ (j : Nat) t v, Try.f6.params[j]? = some t → args[j]? = some v → Value.okWide Try.prog W .any base t v := hval0
  have hW' := hW
  obtain ⟨p, q, hA0, hV, rfl, hfz, hnd⟩ := hW
  have hA : DataW.TrodAll enc Try.prog W 0 (fun _ => true) true Try.f6.params.toList args.toList ds p := hA0
  rw [Try.params6] at hA hval
  obtain ⟨v0, vs0, d0, ds0, p0, q0, hargs, rfl, rfl, h0, r0⟩ := trodAll_cons hA
  obtain ⟨v1, vs1, d1, ds1, p1, q1, rfl, rfl, rfl, h1, r1⟩ := trodAll_cons r0
  obtain ⟨rfl, rfl, rfl⟩ := trodAll_nil r1
  obtain rfl : args = #[v0, v1] := by cases args; simp_all
  obtain ⟨rfl, rfl⟩ := trodVars_none hV
  obtain ⟨x0, R0, b0⟩ := open_blk (hval 0 27 v0 rfl rfl) h0
  obtain ⟨a1, rfl, rfl, rfl, w1⟩ := open_int Try.underlying3 (hval 1 3 v1 rfl rfl) h1
  clear hA0 hval0
  refine (walk W v0 x0 a1 R0 b0 w1).mono fun e W' ⟨he, hg⟩ => ?_
  subst he
  exact ⟨_, rfl, post_up laidOut readable rfl hW' (fun _ _ _ => (trodAll_cons_mk (shut_bool Try.underlying4 _) trodAll_mk0)) rfl rfl
    hg (ok_one (by kernel_rfl) rfl (okWide_bool_mk Try.underlying4 _))⟩

theorem over : Rows.blockWideRow.holds Try.pinned (OpenSpec.ofChange Rows.blockWideSpec) :=
  OpenClaim.holds_of_wide 6 Try.f6 rfl rfl rfl rfl rfl rfl rfl ⟨rfl, rfl, rfl, rfl, rfl⟩ rfl rfl rfl rfl rfl (by kernel_rfl) Try.func6 (by kernel_rfl)
    (of_decide_eq_true (by kernel_rfl)) (by unfold Func.isWrapper; first | (rw [if_pos (by decide +kernel)]; kernel_rfl) | (rw [if_neg (by decide +kernel)]; exact ⟨rfl, rfl⟩))
    (fun os started H enc _ => lifted os started H enc)

theorem proved : Rows.BlockWideSaid :=
  over
end Go.Proofs.Ytoijaananjlfpaa.blockWide
