/-
  BlockTells answers true: blocks are right, and bytes, as the document says, and what was handed in stays, for any block (cut), size and version.
-/
import Derived.Test.YtoijaananjlfpaaLcShown6
import Derived.Test.YtoijaananjlfpaaLcPst
import Derived.Test.YtoijaananjlfpaaLcHdO
import Derived.Test.YtoijaananjlfpaaLcBkO
import Derived.Test.YtoijaananjlfpaaLcBkW
import Derived.Test.YtoijaananjlfpaaLcSam
import Derived.Test.YtoijaananjlfpaaLcRf3
import Derived.Test.YtoijaananjlfpaaLcRf4
import Derived.WalkKit
import Derived.Deep.RegionHeld
import Derived.BigQuiet
import Derived.ProofKit
import Derived.OpenShut
import Derived.Deep.CutRange
import Derived.StillTailTactics
namespace Go.Proofs.Ytoijaananjlfpaa.blockTells
open Go.ChangeShapes Go.WideShapes Go.ChangeAt Go.RowKit Lc
set_option linter.unusedVariables false

theorem own : ownKnob Try.prog.godebug = none := by kernel_rfl

theorem cut60_idem (s : ByteArray) : cut60 (cut60 s) = cut60 s := by
  unfold cut60
  obtain ⟨m, hm⟩ : ∃ m, (min (s.size : Int) 60).toNat = m := ⟨_, rfl⟩
  rw [hm]
  have hs : (s.extract 0 m).size = m := by rw [ByteArray.size_extract]; omega
  rw [hs, show (min (m : Int) 60).toNat = m by omega]
  apply ByteArray.ext
  rw [ByteArray.data_extract, ByteArray.data_extract, Array.extract_extract]
  congr 1
  omega
theorem cutK_idem (k : Knd) : cutK (cutK k) = cutK k := by unfold cutK; rw [cut60_idem]
theorem cutB_idem (x : Blk) : cutB (cutB x) = cutB x := by
  have e1 : (((x.ks.take 40).map cutK).take 40).map cutK = (x.ks.take 40).map cutK := by
    rw [← List.map_take, List.take_take, Nat.min_self, List.map_map]
    exact List.map_congr_left fun k _ => cutK_idem k
  show (⟨(((x.ks.take 40).map cutK).take 40).map cutK, (x.js.take 100).take 100, (x.ls.take 50).take 50, (x.sd.take 40).take 40, (x.ut.take 40).take 40⟩ : Blk) = _
  rw [e1, List.take_take, List.take_take, List.take_take, List.take_take]
  rfl
theorem cut60_size (s : ByteArray) : (cut60 s).size ≤ 60 := by
  unfold cut60; rw [ByteArray.size_extract]; omega
theorem cut_name (x : Blk) : ∀ i, i < (cutB x).ks.length → ((cutB x).ks.getD i k0).name.size ≤ 255 := fun i hi => by
  have h : i < (x.ks.take 40).length := by simpa [cutB] using hi
  have e : (cutB x).ks.getD i k0 = cutK ((x.ks.take 40)[i]) := by
    unfold cutB
    rw [List.getD_eq_getElem?_getD, List.getElem?_map, List.getElem?_eq_getElem h]; rfl
  rw [e]
  have := cut60_size ((x.ks.take 40)[i]).name
  show (cut60 ((x.ks.take 40)[i]).name).size ≤ 255
  omega
theorem denc_law (v : Value) (x : Blk) (z : Nat) (ver : Int) (w : World) (hb : BkR w v x) (hz : z = 4 ∨ z = 8) (h256 : x.ks.length ≤ 256) (hsz : ∀ i, i < x.ks.length → (x.ks.getD i k0).name.size ≤ 255) (h5j : x.js.length ≤ 5000) (h5l : x.ls.length ≤ 5000) (h2s : x.sd.length ≤ 256) (h2u : x.ut.length ≤ 256) :
    Calls Try.prog 18 #[v, .int .i64 z, .int .i64 ver] w fun e w' => ∃ A c, e = .returned (.tuple #[.slice A (encL x z).length c, hv ver x.ut.length x.sd.length x.ls.length x.js.length x.ks.length (nmB x).length]) ∧ (encL x z).length ≤ c ∧ c ≤ maxLen ∧ Rd w' A (encL x z) ∧ Up w w' :=
  (dencode_any v x z ver w hb hz h256 hsz h5j h5l h2s h2u).mono fun e w' ⟨v', he, ho, u⟩ => by
    obtain ⟨A, c, rfl, f1, f2, f3, _⟩ := ho.form
    exact ⟨A, c, he, f1, f2, f3, u⟩

set_option maxHeartbeats 8000000 in
set_option maxRecDepth 100000 in
theorem walk (w : World) (v0 : Value) (x0 : Blk) (a1 : Int) (a2 : Int) (r0 : BkR w v0 x0) (b0 : BI x0) (w1 : (Lit.int .i64 a1).wf = true) (w2 : (Lit.int .i64 a2).wf = true) :
    Calls Try.prog 3 #[v0, .int .i64 a1, .int .i64 a2] w fun e w' => e = .returned (.bool true) ∧ Up w w' := by
  have FW := Lib.hid (fun w1 (u : Up w w1) => few_any v0 x0 w1 (r0.up u))
  have hlen := cut_len x0
  have hnm := Lib.hid (cut_name x0)
  have idem := Lib.hid (cutB_idem x0)
  generalize cutB x0 = X at *
  have FY := Lib.hid (fun w1 v h => few_any v X w1 h)
  rw [idem.out] at FY
  have RI := Lib.hid (fun w1 v h => bright_any v X a1 a2 w1 h)
  have DR := Lib.hid (fun w1 v h => dright_any v X a1 a2 w1 h)
  obtain ⟨r, hr⟩ : ∃ r, rightB X a1 a2 = r := ⟨_, rfl⟩
  rw [hr] at RI DR
  have HR := Lib.hid hr
  clear hr
  obtain ⟨A0, n0, c0, A1, n1, c1, A2, n2, c2, A3, n3, c3, A4, n4, c4, rfl⟩ := r0.form
  have BX := Lib.hid (Bx5.new w (.slice A0 n0 c0) (.slice A1 n1 c1) (.slice A2 n2 c2) (.slice A3 n3 c3) (.slice A4 n4 c4) 27)
  have FX := Lib.hid (Free.new w #[.slice A0 n0 c0, .slice A1 n1 c1, .slice A2 n2 c2, .slice A3 n3 c3, .slice A4 n4 c4] 27)
  have U0 := Lib.hid (Up.alloc w (.cells #[.slice A0 n0 c0, .slice A1 n1 c1, .slice A2 n2 c2, .slice A3 n3 c3, .slice A4 n4 c4] 27))
  clear r0 b0
  go_enter Try.func3, Try.ntmps3
  go_wp2_with fail
  refine (shown_any _).mono ?_; rintro e w1 ⟨rfl, u1⟩
  have U1 := Lib.hid (U0.out.trans u1)
  have B1 := Lib.hid (BX.out.up u1)
  have F1 := Lib.hid (FX.out.up u1)
  clear u1 BX FX U0
  obtain ⟨e0', e1', e2', e3', e4'⟩ := B1.out
  go_wp2_with fail
  clear e0' e1' e2' e3' e4'
  refine (FW.out _ U1.out).mono ?_; rintro e w2 ⟨v2, rfl, o2, u2⟩
  have U2 := Lib.hid (U1.out.trans u2)
  have lt2 : w.heap.size < w1.heap.size := F1.out.1
  obtain ⟨P0, q0, d0, P1, q1, d1, P2, q2, d2, P3, q3, d3, P4, q4, d4, rfl⟩ := o2.rd.form
  have O3 := Lib.hid (o2.low lt2 (.slice P0 q0 d0) (.slice P1 q1 d1) (.slice P2 q2 d2) (.slice P3 q3 d3) (.slice P4 q4 d4)).rd
  have B3 := Lib.hid (Bx5.five (B1.out.up u2) (.slice P0 q0 d0) (.slice P1 q1 d1) (.slice P2 q2 d2) (.slice P3 q3 d3) (.slice P4 q4 d4))
  have U3 := Lib.hid (Up.five U2.out (Nat.le_refl _) (.slice P0 q0 d0) (.slice P1 q1 d1) (.slice P2 q2 d2) (.slice P3 q3 d3) (.slice P4 q4 d4))
  obtain ⟨e0', e1', e2', e3', e4'⟩ := B1.out.up u2
  obtain ⟨_, fz⟩ := F1.out.up u2
  have z0 := fz 0; have z1 := fz 1; have z2 := fz 2; have z3 := fz 3; have z4 := fz 4
  clear fz o2 u2 U2 B1 F1 U1 FW
  go_wp2_with fail
  clear e0' e1' e2' e3' e4' z0 z1 z2 z3 z4
  refine (FY.out _ _ O3.out).mono ?_; rintro e w4 ⟨v4, rfl, o4, u4⟩
  obtain ⟨S0, s0, T0, S1, s1, T1, S2, s2, T2, S3, s3, T3, S4, s4, T4, rfl⟩ := o4.rd.form
  have O4 := Lib.hid (O3.out.up u4)
  have B4 := Lib.hid (B3.out.up u4)
  have U4 := Lib.hid (U3.out.trans u4)
  have W4 := Lib.hid o4.rd
  clear u4 o4 O3 B3 U3 FY
  have BW := Lib.hid (Bx5.new w4 (.slice S0 s0 T0) (.slice S1 s1 T1) (.slice S2 s2 T2) (.slice S3 s3 T3) (.slice S4 s4 T4) 27)
  have u5 := Lib.hid (Up.alloc w4 (.cells #[.slice S0 s0 T0, .slice S1 s1 T1, .slice S2 s2 T2, .slice S3 s3 T3, .slice S4 s4 T4] 27))
  obtain ⟨d0', d1', d2', d3', d4'⟩ := B4.out
  have lt5 := cell_lt d0'
  go_wp2_with fail
  clear d0' d1' d2' d3' d4' lt5
  refine (ref_blk _ X _ (O4.out.up u5.out)).mono ?_; rintro e w5 ⟨rfl, u6⟩
  have u56 := u5.out.trans u6
  have O5 := Lib.hid (O4.out.up u56)
  have B5 := Lib.hid (B4.out.up u56)
  have U5 := Lib.hid (U4.out.trans u56)
  have W5 := Lib.hid (W4.out.up u56)
  have BW5 := Lib.hid (BW.out.up u6)
  clear u5 u6 u56 O4 B4 U4 W4 BW
  go_wp2_with fail
  refine (DR.out _ _ O5.out).mono ?_; rintro e w6 ⟨rfl, u6⟩
  have O6 := Lib.hid (O5.out.up u6)
  have B6 := Lib.hid (B5.out.up u6)
  have U6 := Lib.hid (U5.out.trans u6)
  have W6 := Lib.hid (W5.out.up u6)
  have BW6 := Lib.hid (BW5.out.up u6)
  clear u6 O5 B5 U5 W5 BW5 DR
  obtain ⟨d0', d1', d2', d3', d4'⟩ := B6.out
  have lt6 := cell_lt d0'
  go_wp2_with fail
  by_cases ok : r = true ∧ 1 ≤ a2 ∧ a2 ≤ 4
  · obtain ⟨rfl, v1, v4⟩ := ok
    obtain ⟨z, hz, rfl⟩ : ∃ z : Nat, (z = 4 ∨ z = 8) ∧ a1 = (z : Int) := by
      rcases (right_parts HR.out).1 with h | h
      · exact ⟨4, .inl rfl, h⟩
      · exact ⟨8, .inr rfl, h⟩
    have EN := Lib.hid (fun w1 v h => enc_law v X z a2 w1 h v1 v4 HR.out)
    have DE := Lib.hid (fun w1 v h => denc_law v X z a2 w1 h hz (by omega) hnm.out (by omega) (by omega) (by omega) (by omega))
    have RH := Lib.hid (hd_right HR.out v1 v4)
    have bd := (enc_bd (z := z) HR.out).1
    have HB := Lib.hid (enc_body X z)
    have nl := (rk_parts (right_parts HR.out).2.1).2.2.2
    replace nl : (nmB X).length ≤ 256 := nl
    have BO := Lib.hid (fun w1 => body_any a2 X.ut.length X.sd.length X.ls.length X.js.length X.ks.length (nmB X).length z w1 (by omega) (by omega) (by omega) (by omega) (by omega) (by omega) (by omega))
    rw [HB.out] at BO
    have HT := Lib.hid (fun w1 => hright_any a2 X.ut.length X.sd.length X.ls.length X.js.length X.ks.length (nmB X).length w1)
    rw [RH.out] at HT
    generalize encL X z = E at *
    obtain ⟨l0n, hl0⟩ : ∃ k, X.ks.length = k := ⟨_, rfl⟩
    obtain ⟨l1n, hl1⟩ : ∃ k, X.js.length = k := ⟨_, rfl⟩
    obtain ⟨l2n, hl2⟩ : ∃ k, X.ls.length = k := ⟨_, rfl⟩
    obtain ⟨l3n, hl3⟩ : ∃ k, X.sd.length = k := ⟨_, rfl⟩
    obtain ⟨l4n, hl4⟩ : ∃ k, X.ut.length = k := ⟨_, rfl⟩
    obtain ⟨l5n, hl5⟩ : ∃ k, (nmB X).length = k := ⟨_, rfl⟩
    obtain ⟨en, hen⟩ : ∃ k, E.length = k := ⟨_, rfl⟩
    simp only [hl0, hl1, hl2, hl3, hl4, hl5, hen] at EN DE BO HT bd
    have HE := Lib.hid hen
    clear hl0 hl1 hl2 hl3 hl4 hl5 hen HB RH HR nl
    refine (EN.out _ _ O6.out).mono ?_; rintro e w7 ⟨A7, c7, rfl, f7, g7, r7, u7⟩
    have U7 := Lib.hid (U6.out.trans u7)
    have H8 := Lib.hid (HBox.new w7 a2 l4n l3n l2n l1n l0n l5n 35)
    have u8 := Lib.hid (Up.alloc w7 (.cells #[.int .i64 a2, .int .i64 l4n, .int .i64 l3n, .int .i64 l2n, .int .i64 l1n, .int .i64 l0n, .int .i64 l5n] 35))
    have u78 := u7.trans u8.out
    have O8 := Lib.hid (O6.out.up u78)
    have B8 := Lib.hid (B6.out.up u78)
    have U8 := Lib.hid (U6.out.trans u78)
    have W8 := Lib.hid (W6.out.up u78)
    have BW8 := Lib.hid (BW6.out.up u78)
    have R8 := Lib.hid (r7.up u8.out)
    clear u7 u8 u78 r7 O6 B6 U6 U7 W6 BW6 EN d0' d1' d2' d3' d4' lt6
    go_wp2_with fail
    generalize w7.alloc (.cells #[.int .i64 a2, .int .i64 l4n, .int .i64 l3n, .int .i64 l2n, .int .i64 l1n, .int .i64 l0n, .int .i64 l5n] 35) = w8 at *
    obtain ⟨p0, p1, p2, p3, p4⟩ := B8.out
    obtain ⟨k0', k1, k2, k3, k4⟩ := BW8.out
    replace p0 := cell_regrown p0
    replace p1 := cell_regrown p1
    replace p2 := cell_regrown p2
    replace p3 := cell_regrown p3
    replace p4 := cell_regrown p4
    replace k0' := cell_regrown k0'
    replace k1 := cell_regrown k1
    replace k2 := cell_regrown k2
    replace k3 := cell_regrown k3
    replace k4 := cell_regrown k4
    have Q0 := quiet_up (w := w8) (fun V u => RI.out V _ (O8.out.up u))
    have Q1 := quiet_up (w := w8) (fun V u => ref_blk _ X V (O8.out.up u))
    have Q2 := quiet_up (w := w8) (fun V u => ref_blk _ X V (W8.out.up u))
    have Q3 := quiet_up (w := w8) (fun V u => same_yes _ _ X V (O8.out.up u) (W8.out.up u))
    refine wp_region_quiet_below (by kernel_rfl) (by kernel_rfl) ?_
    repeat (quiet_step (first | (with_reducible exact Q0 _ _) | (with_reducible exact Q1 _ _) | (with_reducible exact Q2 _ _) | (with_reducible exact Q3 _ _)))
    refine wpQuiet_nil ?_
    intro _ hw'
    obtain ⟨⟨dq, osq⟩, hw''⟩ := hw'
    subst hw''
    have UQ := Lib.hid (up_grown w8 dq osq)
    have O9 := Lib.hid (O8.out.up UQ.out)
    have B9 := Lib.hid (B8.out.up UQ.out)
    have U9 := Lib.hid (U8.out.trans UQ.out)
    have H9 := Lib.hid (H8.out.up UQ.out)
    clear Q0 Q1 Q2 Q3 p0 p1 p2 p3 p4 k0' k1 k2 k3 k4 O8 B8 W8 BW8 U8 H8 RI
    have R9 := Lib.hid (R8.out.up UQ.out)
    clear UQ R8
    generalize Go.Sort.grow (redrawn w8 dq) osq = w9 at *
    obtain ⟨d0', d1', d2', d3', d4'⟩ := B9.out
    have lt9 := cell_lt d0'
    have nv1 : ¬ a2 < 1 := by omega
    have nv4 : ¬ 4 < a2 := by omega
    go_wp2_with fail
    clear d0' d1' d2' d3' d4' lt9
    refine (ref_blk _ X _ O9.out).mono ?_; rintro e w10 ⟨rfl, u10⟩
    have O10 := Lib.hid (O9.out.up u10)
    have U10 := Lib.hid (U9.out.trans u10)
    have H10 := Lib.hid (H9.out.up u10)
    have R10 := Lib.hid (R9.out.up u10)
    clear u10 O9 U9 H9 R9 B9
    go_wp2_with fail
    refine (DE.out _ _ O10.out).mono ?_; rintro e w11 ⟨A11, c11, rfl, f11, g11, r11, u11⟩
    have U11 := Lib.hid (U10.out.trans u11)
    have H11 := Lib.hid (H10.out.up u11)
    have R11 := Lib.hid (R10.out.up u11)
    have Q11 := Lib.hid r11
    clear u11 r11 O10 U10 H10 R10 DE
    have u12 := Lib.hid (Up.alloc w11 (.cells #[.int .i64 a2, .int .i64 l4n, .int .i64 l3n, .int .i64 l2n, .int .i64 l1n, .int .i64 l0n, .int .i64 l5n] 41))
    have Z1 := convert_rd (w11.alloc (.cells #[.int .i64 a2, .int .i64 l4n, .int .i64 l3n, .int .i64 l2n, .int .i64 l1n, .int .i64 l0n, .int .i64 l5n] 41)) A7 en c7 E HE.out (R11.out.up u12.out)
    have Z2 := convert_rd (w11.alloc (.cells #[.int .i64 a2, .int .i64 l4n, .int .i64 l3n, .int .i64 l2n, .int .i64 l1n, .int .i64 l0n, .int .i64 l5n] 41)) A11 en c11 E HE.out (Q11.out.up u12.out)
    generalize str E = SE at Z1 Z2
    obtain ⟨h0, h1, h2, h3, h4, h5, h6⟩ := H11.out
    have lt11 := cell_lt h0
    go_wp2_with fail
    clear h0 h1 h2 h3 h4 h5 h6 lt11
    refine (HT.out _).mono ?_; rintro e w12 ⟨rfl, u13⟩
    have u123 := u12.out.trans u13
    have U12 := Lib.hid (U11.out.trans u123)
    have H12 := Lib.hid (H11.out.up u123)
    clear u12 u13 u123 U11 H11 R11 Q11 Z1 Z2 HT
    obtain ⟨h0, h1, h2, h3, h4, h5, h6⟩ := H12.out
    go_wp2_with fail
    clear h0 h1 h2 h3 h4 h5 h6
    refine (BO.out _).mono ?_; rintro e w13 ⟨rfl, u13⟩
    go_wp2_with fail
    go_ret
    exact ⟨rfl, U12.out.trans u13⟩
  · have EN := Lib.hid (fun w1 v h => bencode_no v X a1 a2 w1 h (by
      rw [HR.out]
      cases r
      · exact .inr rfl
      · refine .inl ?_
        rw [Bool.and_eq_false_iff, decide_eq_false_iff_not, decide_eq_false_iff_not]
        have : ¬ (1 ≤ a2 ∧ a2 ≤ 4) := fun h => ok ⟨rfl, h⟩
        omega))
    have D : r = false ∨ r = true ∧ (a2 < 1 ∨ ¬ a2 < 1 ∧ 4 < a2) := by
      cases r
      · exact .inl rfl
      · refine .inr ⟨rfl, ?_⟩
        have : ¬ (1 ≤ a2 ∧ a2 ≤ 4) := fun h => ok ⟨rfl, h⟩
        omega
    have HD := Lib.hid D
    clear ok D HR
    refine (EN.out _ _ O6.out).mono ?_; rintro e w7 ⟨rfl, u7⟩
    have U7 := Lib.hid (U6.out.trans u7)
    have H8 := Lib.hid (HBox.new w7 0 0 0 0 0 0 0 35)
    have u8 := Lib.hid (Up.alloc w7 (.cells #[.int .i64 0, .int .i64 0, .int .i64 0, .int .i64 0, .int .i64 0, .int .i64 0, .int .i64 0] 35))
    have u78 := u7.trans u8.out
    have O8 := Lib.hid (O6.out.up u78)
    have B8 := Lib.hid (B6.out.up u78)
    have U8 := Lib.hid (U6.out.trans u78)
    have W8 := Lib.hid (W6.out.up u78)
    have BW8 := Lib.hid (BW6.out.up u78)
    clear u7 u8 u78 O6 B6 U6 U7 W6 BW6 EN d0' d1' d2' d3' d4' lt6
    go_wp2_with fail
    generalize w7.alloc (.cells #[.int .i64 0, .int .i64 0, .int .i64 0, .int .i64 0, .int .i64 0, .int .i64 0, .int .i64 0] 35) = w8 at *
    obtain ⟨p0, p1, p2, p3, p4⟩ := B8.out
    obtain ⟨k0', k1, k2, k3, k4⟩ := BW8.out
    replace p0 := cell_regrown p0
    replace p1 := cell_regrown p1
    replace p2 := cell_regrown p2
    replace p3 := cell_regrown p3
    replace p4 := cell_regrown p4
    replace k0' := cell_regrown k0'
    replace k1 := cell_regrown k1
    replace k2 := cell_regrown k2
    replace k3 := cell_regrown k3
    replace k4 := cell_regrown k4
    have Q0 := quiet_up (w := w8) (fun V u => RI.out V _ (O8.out.up u))
    have Q1 := quiet_up (w := w8) (fun V u => ref_blk _ X V (O8.out.up u))
    have Q2 := quiet_up (w := w8) (fun V u => ref_blk _ X V (W8.out.up u))
    have Q3 := quiet_up (w := w8) (fun V u => same_yes _ _ X V (O8.out.up u) (W8.out.up u))
    refine wp_region_quiet_below (by kernel_rfl) (by kernel_rfl) ?_
    repeat (quiet_step (first | (with_reducible exact Q0 _ _) | (with_reducible exact Q1 _ _) | (with_reducible exact Q2 _ _) | (with_reducible exact Q3 _ _)))
    refine wpQuiet_nil ?_
    intro _ hw'
    obtain ⟨⟨dq, osq⟩, hw''⟩ := hw'
    subst hw''
    have UQ := Lib.hid (up_grown w8 dq osq)
    have O9 := Lib.hid (O8.out.up UQ.out)
    have B9 := Lib.hid (B8.out.up UQ.out)
    have U9 := Lib.hid (U8.out.trans UQ.out)
    have H9 := Lib.hid (H8.out.up UQ.out)
    clear Q0 Q1 Q2 Q3 p0 p1 p2 p3 p4 k0' k1 k2 k3 k4 O8 B8 W8 BW8 U8 H8 RI
    clear UQ
    generalize Go.Sort.grow (redrawn w8 dq) osq = w9 at *
    obtain ⟨h0, h1, h2, h3, h4, h5, h6⟩ := H9.out
    have lt9 := cell_lt h0
    rcases HD.out with rfl | ⟨rfl, h | ⟨h, h'⟩⟩
    all_goals
      go_wp2_with fail
      go_ret
      exact ⟨rfl, U9.out⟩

theorem readable : ∀ t ∈ Try.f3.params.toList, Try.prog.readableRec t = true ∧ t < Try.prog.types.size := by
  rw [Try.params3]
  intro t ht
  have hall : ([27, 3, 3].all fun u => Try.prog.readableRec u && decide (u < Try.prog.types.size)) = true := by kernel_rfl
  have := List.all_eq_true.1 hall t (by simpa using ht)
  simpa using this

set_option maxRecDepth 100000 in
theorem lifted (os : Os) (started : os.Started) (H : Type) (enc : TypeId × Value → H) :
    ReturnsInHanded {} Try.checked os 3 .any (Rows.blockTellsSpec.pre6 enc Try.prog Try.f3 Rows.blockTellsRow.domain false) (Rows.blockTellsSpec.post enc Try.prog Try.f3 false true false false) := by
  refine returnsInHanded_of_change (C := Try.checked) own started (by kernel_rfl) Try.func3
    (ChangeSpec.witness6 (enc := enc) (C := Try.checked) false ⟨#[], #[.agg #[.slice none 0 0, .slice none 0 0, .slice none 0 0, .slice none 0 0, .slice none 0 0], .int .i64 0, .int .i64 0], []⟩ 8 (by kernel_rfl) (by kernel_rfl) (by kernel_rfl) (by kernel_rfl)) ?_
  intro W base args ds gs before hval0 hW hcnd _
  have hval : ∀ (j : Nat) t v, Try.f3.params[j]? = some t → args[j]? = some v → Value.okWide Try.prog W .any base t v := hval0
  have hW' := hW
  obtain ⟨p, q, hA0, hV, rfl, hfz, hnd⟩ := hW
  have hA : DataW.TrodAll enc Try.prog W 0 (fun _ => true) true Try.f3.params.toList args.toList ds p := hA0
  rw [Try.params3] at hA hval
  obtain ⟨v0, vs0, d0, ds0, p0, q0, hargs, rfl, rfl, h0, r0⟩ := trodAll_cons hA
  obtain ⟨v1, vs1, d1, ds1, p1, q1, rfl, rfl, rfl, h1, r1⟩ := trodAll_cons r0
  obtain ⟨v2, vs2, d2, ds2, p2, q2, rfl, rfl, rfl, h2, r2⟩ := trodAll_cons r1
  obtain ⟨rfl, rfl, rfl⟩ := trodAll_nil r2
  obtain rfl : args = #[v0, v1, v2] := by cases args; simp_all
  obtain ⟨rfl, rfl⟩ := trodVars_none hV
  obtain ⟨x0, R0, b0⟩ := open_blk (hval 0 27 v0 rfl rfl) h0
  obtain ⟨a1, rfl, rfl, rfl, w1⟩ := open_int Try.underlying3 (hval 1 3 v1 rfl rfl) h1
  obtain ⟨a2, rfl, rfl, rfl, w2⟩ := open_int Try.underlying3 (hval 2 3 v2 rfl rfl) h2
  clear hA0 hval0
  refine (walk W v0 x0 a1 a2 R0 b0 w1 w2).mono fun e W' ⟨he, hg⟩ => ?_
  subst he
  exact ⟨_, rfl, post_up laidOut readable rfl hW' (fun _ _ _ => (trodAll_cons_mk (shut_bool Try.underlying4 _) trodAll_mk0)) rfl rfl
    hg (ok_one (by kernel_rfl) rfl (okWide_bool_mk Try.underlying4 _))⟩

theorem over : Rows.blockTellsRow.holds Try.pinned (OpenSpec.ofChange Rows.blockTellsSpec) :=
  OpenClaim.holds_of_wide 3 Try.f3 rfl rfl rfl rfl rfl rfl rfl ⟨rfl, rfl, rfl, rfl, rfl⟩ rfl rfl rfl rfl rfl (by kernel_rfl) Try.func3 (by kernel_rfl)
    (of_decide_eq_true (by kernel_rfl)) (by unfold Func.isWrapper; first | (rw [if_pos (by decide +kernel)]; kernel_rfl) | (rw [if_neg (by decide +kernel)]; exact ⟨rfl, rfl⟩))
    (fun os started H enc _ => lifted os started H enc)

theorem proved : Rows.BlockTellsSaid :=
  over
end Go.Proofs.Ytoijaananjlfpaa.blockTells
