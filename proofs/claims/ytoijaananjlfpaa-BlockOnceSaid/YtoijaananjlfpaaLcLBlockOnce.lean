/-
  BlockOnce answers true: bytes that are a block are told as one that is read as the same.
-/
import Derived.Test.YtoijaananjlfpaaLcShown6
import Derived.Test.YtoijaananjlfpaaLcPst
import Derived.Test.YtoijaananjlfpaaLcHdO
import Derived.Test.YtoijaananjlfpaaLcBkO
import Derived.Test.YtoijaananjlfpaaLcBkW
import Derived.WalkKit
import Derived.Deep.RegionHeld
import Derived.BigQuiet
import Derived.ProofKit
import Derived.OpenShut
namespace Go.Proofs.Ytoijaananjlfpaa.blockOnce
open Go.ChangeShapes Go.WideShapes Go.ChangeAt Go.RowKit Lc
set_option linter.unusedVariables false

theorem own : ownKnob Try.prog.godebug = none := by kernel_rfl

theorem cut2000 {w : World} {A : Option Addr} {l : List UInt8} {c : Nat} (n : l.length ≤ c) (r : Rd w A l) : ∃ (k : List UInt8) (p : Nat), k.length = p ∧ p ≤ 2000 ∧ p ≤ l.length ∧ p ≤ c ∧ min (l.length : Int) 2000 = (p : Int) ∧ Rd w A k :=
  ⟨l.take 2000, _, rfl, by rw [List.length_take]; omega, by rw [List.length_take]; omega, by rw [List.length_take]; omega, by rw [List.length_take]; omega, r.take 2000⟩
theorem sg_bd {z : Nat} (hz : z = 4 ∨ z = 8) (n : Int) : -9223372036854775808 ≤ sgI z n ∧ sgI z n ≤ 9223372036854775807 := by
  unfold sgI
  rcases hz with rfl | rfl
  · have e : (2 : Int) ^ (64 - 8 * 4) = 4294967296 := by decide
    rw [e]; omega
  · have e : (2 : Int) ^ (64 - 8 * 8) = 1 := by decide
    rw [e]; omega
theorem dec_parts {b : List UInt8} {ver u s l t y c z : Int} (h : decE b ver u s l t y c z = 0) : rightB (decX b ver u s l t y c z) z ver = true ∧ 1 ≤ ver ∧ ver ≤ 4 ∧ BI (decX b ver u s l t y c z) ∧ ((decX b ver u s l t y c z).js.length : Int) = t ∧ ((decX b ver u s l t y c z).ks.length : Int) = y ∧ ((decX b ver u s l t y c z).ls.length : Int) = l := by
  have hX : decX b ver u s l t y c z = dBk b u.toNat s.toNat l.toNat t.toNat y.toNat c.toNat z.toNat := by unfold decX; rw [if_pos h]
  unfold decE at h
  split at h
  · cases h
  · rename_i h1
    split at h
    · cases h
    · split at h
      · rename_i h3
        rw [not_or] at h1
        have hz : z = 4 ∨ z = 8 := by have := h1.1; unfold zB at this; simp at this; omega
        have hz' : z.toNat = 4 ∨ z.toNat = 8 := by omega
        have r : rightH ver u s l t y c = true := by simpa using h1.2
        have q := rightH_true.1 r
        rw [hX]
        refine ⟨h3.2, by omega, by omega, ⟨fun i hi => ?_, fun i hi => ?_⟩, ?_, ?_, ?_⟩
        · have hi' : i < t.toNat := by simpa [dBk, dJ] using hi
          show _ ≤ ((dJ _ _ _ _).getD i j0).t ∧ ((dJ _ _ _ _).getD i j0).t ≤ _
          have e : (dJ (pMo b t.toNat z.toNat) (pJu b t.toNat z.toNat) t.toNat z.toNat).getD i j0 = rdJ (pMo b t.toNat z.toNat) (pJu b t.toNat z.toNat) z.toNat i := by simp [dJ, List.getD, hi']
          rw [e]
          exact sg_bd hz' _
        · have hi' : i < l.toNat := by simpa [dBk, dL] using hi
          show _ ≤ ((dL _ _ _).getD i l0).t ∧ ((dL _ _ _).getD i l0).t ≤ _
          have e : (dL (pLe b t.toNat y.toNat c.toNat l.toNat z.toNat) l.toNat z.toNat).getD i l0 = rdL (pLe b t.toNat y.toNat c.toNat l.toNat z.toNat) z.toNat i := by simp [dL, List.getD, hi']
          rw [e]
          exact sg_bd hz' _
        · simp [dBk, dJ]; omega
        · simp [dBk, dK]; omega
        · simp [dBk, dL]; omega
      · cases h
theorem decX_no {b : List UInt8} {ver u s l t y c z : Int} (h : ¬ decE b ver u s l t y c z = 0) : decX b ver u s l t y c z = bk0 := by unfold decX; rw [if_neg h]
theorem decP6 (A : Option Addr) (b : List UInt8) (p cc : Nat) (ver u s l t y c z : Int) (w : World) (hp : b.length = p) (hcm : cc ≤ maxLen) (hc : p ≤ cc) (hr : Rd w A b) :
    Calls Try.prog 21 #[.slice A p cc, hv ver u s l t y c, .int .i64 z] w fun e w' => ∃ v, e = .returned (.tuple #[v, .int .i64 (decE b ver u s l t y c z)]) ∧ BkR w' v (decX b ver u s l t y c z) ∧ Up w w' := by
  subst hp; exact bdecode_any A b cc ver u s l t y c z w hcm hc hr

set_option maxHeartbeats 4000000 in
set_option maxRecDepth 100000 in
theorem walk (w : World) (A0 : Option Addr) (l0 : List UInt8) (c0 : Nat) (ve1 ut1 st1 le1 ti1 ty1 ch1 : Int) (a2 : Bool) (n0 : l0.length ≤ c0) (m0 : c0 ≤ maxLen) (r0 : Rd w A0 l0) (wve1 : (Lit.int .i64 ve1).wf = true) (wut1 : (Lit.int .i64 ut1).wf = true) (wst1 : (Lit.int .i64 st1).wf = true) (wle1 : (Lit.int .i64 le1).wf = true) (wti1 : (Lit.int .i64 ti1).wf = true) (wty1 : (Lit.int .i64 ty1).wf = true) (wch1 : (Lit.int .i64 ch1).wf = true)  :
    Calls Try.prog 8 #[.slice A0 l0.length c0, hv ve1 ut1 st1 le1 ti1 ty1 ch1, .bool a2] w fun e w' => e = .returned (.bool true) ∧ Up w w' := by
  obtain ⟨k0, p0, e0, p0a, p0b, p0c, q0, R0⟩ := cut2000 n0 r0
  have H0 := Lib.hid (HBox.new w ve1 ut1 st1 le1 ti1 ty1 ch1 35)
  have U0 := Lib.hid (Up.alloc w (.cells #[.int .i64 ve1, .int .i64 ut1, .int .i64 st1, .int .i64 le1, .int .i64 ti1, .int .i64 ty1, .int .i64 ch1] 35))
  have R0' := Lib.hid R0
  unfold maxLen at m0
  have E0 := Lib.hid e0
  clear r0 R0 e0
  cases a2
  · have D0 := Lib.hid (fun w1 (u : Up w w1) => decP6 A0 k0 p0 c0 ve1 ut1 st1 le1 ti1 ty1 ch1 4 w1 E0.out m0 p0c (R0'.out.up u))
    have DY := Lib.hid (fun h => dec_parts (b := k0) (ver := ve1) (u := ut1) (s := st1) (l := le1) (t := ti1) (y := ty1) (c := ch1) (z := 4) h)
    have DN := Lib.hid (fun h => decX_no (b := k0) (ver := ve1) (u := ut1) (s := st1) (l := le1) (t := ti1) (y := ty1) (c := ch1) (z := 4) h)
    generalize decE k0 ve1 ut1 st1 le1 ti1 ty1 ch1 4 = er at *
    generalize decX k0 ve1 ut1 st1 le1 ti1 ty1 ch1 4 = X at *
    clear R0' E0
    go_enter Try.func8, Try.ntmps8
    go_wp2_with fail
    refine (shown_any _).mono ?_; rintro e w1 ⟨rfl, u1⟩
    have H1 := Lib.hid (H0.out.up u1)
    have U1 := Lib.hid (U0.out.trans u1)
    clear u1 H0 U0
    obtain ⟨h0, h1, h2, h3, h4, h5, h6⟩ := H1.out
    by_cases t60 : 60 < ti1
    · go_wp2_with fail
      go_ret
      exact ⟨rfl, U1.out⟩
    by_cases l60 : 60 < le1
    · go_wp2_with fail
      go_ret
      exact ⟨rfl, U1.out⟩
    go_wp2_with fail
    clear h0 h1 h2 h3 h4 h5 h6
    refine (D0.out _ U1.out).mono ?_; rintro e w2 ⟨v2, rfl, b2, u2⟩
    obtain ⟨S0, s0, T0, S1, s1, T1, S2, s2, T2, S3, s3, T3, S4, s4, T4, rfl⟩ := b2.form
    have u3 := u2.alloc' (.cells #[.slice S0 s0 T0, .slice S1 s1 T1, .slice S2 s2 T2, .slice S3 s3 T3, .slice S4 s4 T4] 27)
    have B3 := Lib.hid (Bx5.new w2 (.slice S0 s0 T0) (.slice S1 s1 T1) (.slice S2 s2 T2) (.slice S3 s3 T3) (.slice S4 s4 T4) 27)
    have V3 := Lib.hid (b2.up (Up.alloc w2 (.cells #[.slice S0 s0 T0, .slice S1 s1 T1, .slice S2 s2 T2, .slice S3 s3 T3, .slice S4 s4 T4] 27)))
    have H3 := Lib.hid (H1.out.up u3)
    have U3 := Lib.hid (U1.out.trans u3)
    clear u2 u3 b2 H1 U1 D0
    by_cases er0 : er = 0
    · subst er0
      obtain ⟨hri, v1, v4, hbi, lj, lk, ll⟩ := DY.out rfl
      have E4 := Lib.hid (enc4 X ve1 v1 v4 hri)
      have D4 := Lib.hid (dec4 X ve1 v1 v4 hri hbi [] (encL X 4) _ (List.append_nil _).symm rfl)
      clear DY DN hri hbi
      generalize (encL X 4).length = m4 at *
      rw [lj, lk, ll] at E4 D4
      generalize X.ut.length = l4n at *
      generalize X.sd.length = l3n at *
      generalize (nmB X).length = l5n at *
      clear lj lk ll
      obtain ⟨h0, h1, h2, h3, h4, h5, h6⟩ := H3.out
      have hlt := cell_lt h0
      go_wp2_with fail
      clear h0 h1 h2 h3 h4 h5 h6 hlt
      generalize w2.alloc (.cells #[.slice S0 s0 T0, .slice S1 s1 T1, .slice S2 s2 T2, .slice S3 s3 T3, .slice S4 s4 T4] 27) = w3 at *
      refine (E4.out _ _ V3.out).mono ?_; rintro e w5 ⟨A5, c5, rfl, f5, g5, r5, u5⟩
      have B5 := Lib.hid (B3.out.up u5)
      have V5 := Lib.hid (V3.out.up u5)
      have H5 := Lib.hid (H3.out.up u5)
      have U5 := Lib.hid (U3.out.trans u5)
      have R5 := Lib.hid r5
      clear u5 r5 B3 V3 H3 U3 E4
      have K5 := Lib.hid (HBox.new w5 ve1 l4n l3n le1 ti1 ty1 l5n 35)
      have u5 := Up.alloc w5 (.cells #[.int .i64 ve1, .int .i64 l4n, .int .i64 l3n, .int .i64 le1, .int .i64 ti1, .int .i64 ty1, .int .i64 l5n] 35)
      go_wp2_with fail
      refine (D4.out A5 c5 _ f5 g5 (R5.out.up u5)).mono ?_; rintro e w7 ⟨v7, rfl, b7, u7⟩
      obtain ⟨Y0, y0, Z0, Y1, y1, Z1, Y2, y2, Z2, Y3, y3, Z3, Y4, y4, Z4, rfl⟩ := b7.form
      have u9 := Up.alloc w7 (.cells #[.slice Y0 y0 Z0, .slice Y1 y1 Z1, .slice Y2 y2 Z2, .slice Y3 y3 Z3, .slice Y4 y4 Z4] 27)
      have u79 := u7.trans u9
      have u59 := u5.trans u79
      have BZ := Bx5.new w7 (.slice Y0 y0 Z0) (.slice Y1 y1 Z1) (.slice Y2 y2 Z2) (.slice Y3 y3 Z3) (.slice Y4 y4 Z4) 27
      have B9 := B5.out.up u59
      have V9 := Lib.hid (V5.out.up u59)
      have Y9 := Lib.hid (b7.up u9)
      have H9 := H5.out.up u59
      have K9 := K5.out.up u79
      have U9 := Lib.hid (U5.out.trans u59)
      clear u5 u7 u9 u79 u59 b7 B5 V5 H5 U5 R5 K5 D4
      go_wp2_with fail
      generalize w7.alloc (.cells #[.slice Y0 y0 Z0, .slice Y1 y1 Z1, .slice Y2 y2 Z2, .slice Y3 y3 Z3, .slice Y4 y4 Z4] 27) = w9 at *
      obtain ⟨b0, b1, b2, b3, b4⟩ := B9
      obtain ⟨k0', k1, k2, k3, k4⟩ := BZ
      obtain ⟨h0, h1, h2, h3, h4, h5, h6⟩ := H9
      obtain ⟨j0', j1, j2, j3, j4, j5, j6⟩ := K9
      replace b0 := cell_regrown b0; replace b1 := cell_regrown b1; replace b2 := cell_regrown b2; replace b3 := cell_regrown b3; replace b4 := cell_regrown b4
      replace k0' := cell_regrown k0'; replace k1 := cell_regrown k1; replace k2 := cell_regrown k2; replace k3 := cell_regrown k3; replace k4 := cell_regrown k4
      replace h3 := cell_regrown h3; replace h4 := cell_regrown h4; replace h5 := cell_regrown h5
      replace j3 := cell_regrown j3; replace j4 := cell_regrown j4; replace j5 := cell_regrown j5
      clear h0 h1 h2 h6 j0' j1 j2 j6
      have Q1 := quiet_up (w := w9) (fun V u => ref_blk _ X V (V9.out.up u))
      have Q2 := quiet_up (w := w9) (fun V u => ref_blk _ X V (Y9.out.up u))
      have Q3 := quiet_up (w := w9) (fun V u => same_yes _ _ X V (V9.out.up u) (Y9.out.up u))
      refine wp_region_quiet_below (by kernel_rfl) (by kernel_rfl) ?_
      repeat (quiet_step (first | (with_reducible exact Q1 _ _) | (with_reducible exact Q2 _ _) | (with_reducible exact Q3 _ _)))
      refine wpQuiet_nil ?_
      intro _ hw'
      obtain ⟨⟨dq, osq⟩, hw''⟩ := hw'
      subst hw''
      go_wp2_with fail
      go_ret
      exact ⟨rfl, U9.out.trans (up_grown w9 dq osq)⟩
    · have hX := DN.out er0
      subst hX
      clear DY DN
      have er1 : decide (er = 0) = false := by simp [er0]
      go_wp2_with fail
      generalize w2.alloc (.cells #[.slice S0 s0 T0, .slice S1 s1 T1, .slice S2 s2 T2, .slice S3 s3 T3, .slice S4 s4 T4] 27) = w3 at *
      refine (ref_blk _ bk0 _ V3.out).mono ?_; rintro e w4 ⟨rfl, u4⟩
      go_wp2_with fail
      refine (same_yes _ _ bk0 _ (V3.out.up u4) (bz_read _)).mono ?_; rintro e w5 ⟨rfl, u5⟩
      go_wp2_with fail
      go_ret
      exact ⟨rfl, (U3.out.trans u4).trans u5⟩
  · have D0 := Lib.hid (fun w1 (u : Up w w1) => decP6 A0 k0 p0 c0 ve1 ut1 st1 le1 ti1 ty1 ch1 8 w1 E0.out m0 p0c (R0'.out.up u))
    have DY := Lib.hid (fun h => dec_parts (b := k0) (ver := ve1) (u := ut1) (s := st1) (l := le1) (t := ti1) (y := ty1) (c := ch1) (z := 8) h)
    have DN := Lib.hid (fun h => decX_no (b := k0) (ver := ve1) (u := ut1) (s := st1) (l := le1) (t := ti1) (y := ty1) (c := ch1) (z := 8) h)
    generalize decE k0 ve1 ut1 st1 le1 ti1 ty1 ch1 8 = er at *
    generalize decX k0 ve1 ut1 st1 le1 ti1 ty1 ch1 8 = X at *
    clear R0' E0
    go_enter Try.func8, Try.ntmps8
    go_wp2_with fail
    refine (shown_any _).mono ?_; rintro e w1 ⟨rfl, u1⟩
    have H1 := Lib.hid (H0.out.up u1)
    have U1 := Lib.hid (U0.out.trans u1)
    clear u1 H0 U0
    obtain ⟨h0, h1, h2, h3, h4, h5, h6⟩ := H1.out
    by_cases t60 : 60 < ti1
    · go_wp2_with fail
      go_ret
      exact ⟨rfl, U1.out⟩
    by_cases l60 : 60 < le1
    · go_wp2_with fail
      go_ret
      exact ⟨rfl, U1.out⟩
    go_wp2_with fail
    clear h0 h1 h2 h3 h4 h5 h6
    refine (D0.out _ U1.out).mono ?_; rintro e w2 ⟨v2, rfl, b2, u2⟩
    obtain ⟨S0, s0, T0, S1, s1, T1, S2, s2, T2, S3, s3, T3, S4, s4, T4, rfl⟩ := b2.form
    have u3 := u2.alloc' (.cells #[.slice S0 s0 T0, .slice S1 s1 T1, .slice S2 s2 T2, .slice S3 s3 T3, .slice S4 s4 T4] 27)
    have B3 := Lib.hid (Bx5.new w2 (.slice S0 s0 T0) (.slice S1 s1 T1) (.slice S2 s2 T2) (.slice S3 s3 T3) (.slice S4 s4 T4) 27)
    have V3 := Lib.hid (b2.up (Up.alloc w2 (.cells #[.slice S0 s0 T0, .slice S1 s1 T1, .slice S2 s2 T2, .slice S3 s3 T3, .slice S4 s4 T4] 27)))
    have H3 := Lib.hid (H1.out.up u3)
    have U3 := Lib.hid (U1.out.trans u3)
    clear u2 u3 b2 H1 U1 D0
    by_cases er0 : er = 0
    · subst er0
      obtain ⟨hri, v1, v4, hbi, lj, lk, ll⟩ := DY.out rfl
      have E4 := Lib.hid (enc8 X ve1 v1 v4 hri)
      have D4 := Lib.hid (dec8 X ve1 v1 v4 hri hbi [] (encL X 8) _ (List.append_nil _).symm rfl)
      clear DY DN hri hbi
      generalize (encL X 8).length = m4 at *
      rw [lj, lk, ll] at E4 D4
      generalize X.ut.length = l4n at *
      generalize X.sd.length = l3n at *
      generalize (nmB X).length = l5n at *
      clear lj lk ll
      obtain ⟨h0, h1, h2, h3, h4, h5, h6⟩ := H3.out
      have hlt := cell_lt h0
      go_wp2_with fail
      clear h0 h1 h2 h3 h4 h5 h6 hlt
      generalize w2.alloc (.cells #[.slice S0 s0 T0, .slice S1 s1 T1, .slice S2 s2 T2, .slice S3 s3 T3, .slice S4 s4 T4] 27) = w3 at *
      refine (E4.out _ _ V3.out).mono ?_; rintro e w5 ⟨A5, c5, rfl, f5, g5, r5, u5⟩
      have B5 := Lib.hid (B3.out.up u5)
      have V5 := Lib.hid (V3.out.up u5)
      have H5 := Lib.hid (H3.out.up u5)
      have U5 := Lib.hid (U3.out.trans u5)
      have R5 := Lib.hid r5
      clear u5 r5 B3 V3 H3 U3 E4
      have K5 := Lib.hid (HBox.new w5 ve1 l4n l3n le1 ti1 ty1 l5n 35)
      have u5 := Up.alloc w5 (.cells #[.int .i64 ve1, .int .i64 l4n, .int .i64 l3n, .int .i64 le1, .int .i64 ti1, .int .i64 ty1, .int .i64 l5n] 35)
      go_wp2_with fail
      refine (D4.out A5 c5 _ f5 g5 (R5.out.up u5)).mono ?_; rintro e w7 ⟨v7, rfl, b7, u7⟩
      obtain ⟨Y0, y0, Z0, Y1, y1, Z1, Y2, y2, Z2, Y3, y3, Z3, Y4, y4, Z4, rfl⟩ := b7.form
      have u9 := Up.alloc w7 (.cells #[.slice Y0 y0 Z0, .slice Y1 y1 Z1, .slice Y2 y2 Z2, .slice Y3 y3 Z3, .slice Y4 y4 Z4] 27)
      have u79 := u7.trans u9
      have u59 := u5.trans u79
      have BZ := Bx5.new w7 (.slice Y0 y0 Z0) (.slice Y1 y1 Z1) (.slice Y2 y2 Z2) (.slice Y3 y3 Z3) (.slice Y4 y4 Z4) 27
      have B9 := B5.out.up u59
      have V9 := Lib.hid (V5.out.up u59)
      have Y9 := Lib.hid (b7.up u9)
      have H9 := H5.out.up u59
      have K9 := K5.out.up u79
      have U9 := Lib.hid (U5.out.trans u59)
      clear u5 u7 u9 u79 u59 b7 B5 V5 H5 U5 R5 K5 D4
      go_wp2_with fail
      generalize w7.alloc (.cells #[.slice Y0 y0 Z0, .slice Y1 y1 Z1, .slice Y2 y2 Z2, .slice Y3 y3 Z3, .slice Y4 y4 Z4] 27) = w9 at *
      obtain ⟨b0, b1, b2, b3, b4⟩ := B9
      obtain ⟨k0', k1, k2, k3, k4⟩ := BZ
      obtain ⟨h0, h1, h2, h3, h4, h5, h6⟩ := H9
      obtain ⟨j0', j1, j2, j3, j4, j5, j6⟩ := K9
      replace b0 := cell_regrown b0; replace b1 := cell_regrown b1; replace b2 := cell_regrown b2; replace b3 := cell_regrown b3; replace b4 := cell_regrown b4
      replace k0' := cell_regrown k0'; replace k1 := cell_regrown k1; replace k2 := cell_regrown k2; replace k3 := cell_regrown k3; replace k4 := cell_regrown k4
      replace h3 := cell_regrown h3; replace h4 := cell_regrown h4; replace h5 := cell_regrown h5
      replace j3 := cell_regrown j3; replace j4 := cell_regrown j4; replace j5 := cell_regrown j5
      clear h0 h1 h2 h6 j0' j1 j2 j6
      have Q1 := quiet_up (w := w9) (fun V u => ref_blk _ X V (V9.out.up u))
      have Q2 := quiet_up (w := w9) (fun V u => ref_blk _ X V (Y9.out.up u))
      have Q3 := quiet_up (w := w9) (fun V u => same_yes _ _ X V (V9.out.up u) (Y9.out.up u))
      refine wp_region_quiet_below (by kernel_rfl) (by kernel_rfl) ?_
      repeat (quiet_step (first | (with_reducible exact Q1 _ _) | (with_reducible exact Q2 _ _) | (with_reducible exact Q3 _ _)))
      refine wpQuiet_nil ?_
      intro _ hw'
      obtain ⟨⟨dq, osq⟩, hw''⟩ := hw'
      subst hw''
      go_wp2_with fail
      go_ret
      exact ⟨rfl, U9.out.trans (up_grown w9 dq osq)⟩
    · have hX := DN.out er0
      subst hX
      clear DY DN
      have er1 : decide (er = 0) = false := by simp [er0]
      go_wp2_with fail
      generalize w2.alloc (.cells #[.slice S0 s0 T0, .slice S1 s1 T1, .slice S2 s2 T2, .slice S3 s3 T3, .slice S4 s4 T4] 27) = w3 at *
      refine (ref_blk _ bk0 _ V3.out).mono ?_; rintro e w4 ⟨rfl, u4⟩
      go_wp2_with fail
      refine (same_yes _ _ bk0 _ (V3.out.up u4) (bz_read _)).mono ?_; rintro e w5 ⟨rfl, u5⟩
      go_wp2_with fail
      go_ret
      exact ⟨rfl, (U3.out.trans u4).trans u5⟩

theorem readable : ∀ t ∈ Try.f8.params.toList, Try.prog.readableRec t = true ∧ t < Try.prog.types.size := by
  rw [Try.params8]
  intro t ht
  have hall : ([33, 35, 4].all fun u => Try.prog.readableRec u && decide (u < Try.prog.types.size)) = true := by kernel_rfl
  have := List.all_eq_true.1 hall t (by simpa using ht)
  simpa using this

set_option maxRecDepth 100000 in
theorem lifted (os : Os) (started : os.Started) (H : Type) (enc : TypeId × Value → H) :
    ReturnsInHanded {} Try.checked os 8 .any (Rows.blockOnceSpec.pre6 enc Try.prog Try.f8 Rows.blockOnceRow.domain false) (Rows.blockOnceSpec.post enc Try.prog Try.f8 false true false false) := by
  refine returnsInHanded_of_change (C := Try.checked) own started (by kernel_rfl) Try.func8
    (ChangeSpec.witness6 (enc := enc) (C := Try.checked) false ⟨#[], #[.slice none 0 0, hv 0 0 0 0 0 0 0, .bool false], []⟩ 8 (by kernel_rfl) (by kernel_rfl) (by kernel_rfl) (by kernel_rfl)) ?_
  intro W base args ds gs before hval0 hW hcnd _
  have hval : ∀ (j : Nat) t v, Try.f8.params[j]? = some t → args[j]? = some v → Value.okWide Try.prog W .any base t v := hval0
  have hW' := hW
  obtain ⟨p, q, hA0, hV, rfl, hfz, hnd⟩ := hW
  have hA : DataW.TrodAll enc Try.prog W 0 (fun _ => true) true Try.f8.params.toList args.toList ds p := hA0
  rw [Try.params8] at hA hval
  obtain ⟨v0, vs0, d0, ds0, p0, q0, hargs, rfl, rfl, h0, r0⟩ := trodAll_cons hA
  obtain ⟨v1, vs1, d1, ds1, p1, q1, rfl, rfl, rfl, h1, r1⟩ := trodAll_cons r0
  obtain ⟨v2, vs2, d2, ds2, p2, q2, rfl, rfl, rfl, h2, r2⟩ := trodAll_cons r1
  obtain ⟨rfl, rfl, rfl⟩ := trodAll_nil r2
  obtain rfl : args = #[v0, v1, v2] := by cases args; simp_all
  obtain ⟨rfl, rfl⟩ := trodVars_none hV
  obtain ⟨A0, l0, c0, rfl, n0, m0, R0⟩ := open_bytes (hval 0 33 v0 rfl rfl) h0
  obtain ⟨ve1, ut1, st1, le1, ti1, ty1, ch1, rfl, wve1, wut1, wst1, wle1, wti1, wty1, wch1⟩ := open_hdr (hval 1 35 v1 rfl rfl) h1
  obtain ⟨a2, rfl, rfl, rfl⟩ := open_bool Try.underlying4 (hval 2 4 v2 rfl rfl) h2
  clear hA0 hval0
  refine (walk W A0 l0 c0 ve1 ut1 st1 le1 ti1 ty1 ch1 a2 n0 m0 R0 wve1 wut1 wst1 wle1 wti1 wty1 wch1 ).mono fun e W' ⟨he, hg⟩ => ?_
  subst he
  exact ⟨_, rfl, post_up laidOut readable rfl hW' (fun _ _ _ => (trodAll_cons_mk (shut_bool Try.underlying4 _) trodAll_mk0)) rfl rfl
    hg (ok_one (by kernel_rfl) rfl (okWide_bool_mk Try.underlying4 _))⟩

theorem over : Rows.blockOnceRow.holds Try.pinned (OpenSpec.ofChange Rows.blockOnceSpec) :=
  OpenClaim.holds_of_wide 8 Try.f8 rfl rfl rfl rfl rfl rfl rfl ⟨rfl, rfl, rfl, rfl, rfl⟩ rfl rfl rfl rfl rfl (by kernel_rfl) Try.func8 (by kernel_rfl)
    (of_decide_eq_true (by kernel_rfl)) (by unfold Func.isWrapper; first | (rw [if_pos (by decide +kernel)]; kernel_rfl) | (rw [if_neg (by decide +kernel)]; exact ⟨rfl, rfl⟩))
    (fun os started H enc _ => lifted os started H enc)

theorem proved : Rows.BlockOnceSaid :=
  over
end Go.Proofs.Ytoijaananjlfpaa.blockOnce
