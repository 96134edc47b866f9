/-
  That what must be in any case of blocks is: the law's own opening look answers true.
-/
import Derived.Test.YtoijaananjlfpaaLcBkX
import Derived.Test.YtoijaananjlfpaaLcQui
namespace Go.Proofs.Ytoijaananjlfpaa
open Go.ChangeShapes Go.WideShapes Go.ChangeAt Go.RowKit Lc

/-- The block that is shown. -/
def xS : Blk := ⟨[⟨-5, false, ⟨#[65]⟩⟩, ⟨3600, true, ⟨#[66, 67]⟩⟩], [⟨-9, 1⟩, ⟨7, 0⟩], [], [], []⟩
theorem rc_new (w : World) (cs : Array Value) (t : TypeId) : Rc (w.alloc (.cells cs t)) (some ⟨w.heap.size, 0, none⟩) cs.toList := (Rw.new w cs t).rc
theorem xS_right : rightB xS 4 1 = true ∧ rightB xS 8 2 = true := by decide
theorem xS_bi : BI xS := by
  constructor
  · intro i hi
    have : i = 0 ∨ i = 1 := by have : xS.js.length = 2 := rfl
                               omega
    rcases this with rfl | rfl <;> exact ⟨by decide, by decide⟩
  · intro i hi
    exact absurd hi (Nat.not_lt_zero _)
theorem xS_nm : (nmB xS).length = 5 := by decide
theorem xS_len : (encL xS 4).length = 27 := by rw [encL_len, xS_nm]; rfl
theorem shE (v : Value) (w : World) (hb : BkR w v xS) : Calls Try.prog 15 #[v, .int .i64 4, .int .i64 1] w fun e w' => ∃ v', e = .returned (.tuple #[v', hv 1 0 0 0 2 2 5, .int .i64 0]) ∧ Ow w' w.heap.size v' (encL xS 4) ∧ Up w w' := by
  have h := bencode_yes v xS 4 1 w hb (by decide) (by decide) xS_right.1
  rw [xS_nm] at h
  exact h
theorem shD (A : Option Addr) (c : Nat) (w : World) (hc : 27 ≤ c) (hm : c ≤ maxLen) (hr : Rd w A (encL xS 4)) : Calls Try.prog 21 #[.slice A 27 c, hv 1 0 0 0 2 2 5, .int .i64 4] w fun e w' => DcP w 0 xS e w' := by
  have h := bdecode_any A (encL xS 4) c 1 0 0 0 2 2 5 4 w hm (by rw [xS_len]; exact hc) hr
  rw [xS_len] at h
  have d := dec_yes (x := xS) (z := 4) (ver := 1) xS_right.1 (by decide) (by decide) xS_bi []
  rw [xS_nm, List.append_nil] at d
  rw [show decE (encL xS 4) 1 0 0 0 2 2 5 4 = 0 from d.1, show decX (encL xS 4) 1 0 0 0 2 2 5 4 = xS from d.2] at h
  exact h
theorem shN (w : World) : Calls Try.prog 21 #[.slice none 0 0, hv 1 0 0 0 2 2 5, .int .i64 4] w fun e w' => DcP w 5 bk0 e w' := by
  have h := bdecode_any none [] 0 1 0 0 0 2 2 5 4 w (by decide) (by decide) (Rd.nil w _)
  have d := dec_short (x := xS) (z := 4) (ver := 1) xS_right.1 (by decide) (by decide) [] (by rw [xS_len]; decide)
  rw [xS_nm] at d
  rw [show decE [] 1 0 0 0 2 2 5 4 = 5 from d.1, show decX [] 1 0 0 0 2 2 5 4 = bk0 from d.2] at h
  exact h
theorem shR (v : Value) (w : World) (hb : BkR w v xS) : Calls Try.prog 16 #[v, .int .i64 8, .int .i64 2] w fun e w' => e = .returned (.bool true) ∧ Up w w' := by
  have h := bright_any v xS 8 2 w hb
  rw [xS_right.2] at h
  exact h

set_option maxHeartbeats 4000000 in
set_option maxRecDepth 100000 in
theorem shown_any (w : World) : Calls Try.prog 11 #[] w fun e w' => e = .returned (.bool true) ∧ Up w w' := by
  have C1 := Lib.hid shE
  have C2 := Lib.hid shD
  have C3 := Lib.hid fun w => bencode_no bz bk0 4 1 w (bz_read w) (.inr (by decide))
  have C4 := Lib.hid shN
  have C5 := Lib.hid shR
  have U2 : Hid (Up w ((w.alloc (.cells #[.int .i64 (-5), .bool false, .string ⟨#[65]⟩, .int .i64 3600, .bool true, .string ⟨#[66, 67]⟩] 56)).alloc (.cells #[.int .i64 (-9), .int .i64 1, .int .i64 7, .int .i64 0] 54))) := (Up.alloc w _).alloc' _
  have J0 : Rc ((w.alloc (.cells #[.int .i64 (-5), .bool false, .string ⟨#[65]⟩, .int .i64 3600, .bool true, .string ⟨#[66, 67]⟩] 56)).alloc (.cells #[.int .i64 (-9), .int .i64 1, .int .i64 7, .int .i64 0] 54)) (some ⟨w.heap.size + 1, 0, none⟩) (jc xS.js) := by
    have := rc_new (w.alloc (.cells #[.int .i64 (-5), .bool false, .string ⟨#[65]⟩, .int .i64 3600, .bool true, .string ⟨#[66, 67]⟩] 56)) #[.int .i64 (-9), .int .i64 1, .int .i64 7, .int .i64 0] 54
    rw [World.size_alloc] at this
    exact this
  have XB : Hid (BkR ((w.alloc (.cells #[.int .i64 (-5), .bool false, .string ⟨#[65]⟩, .int .i64 3600, .bool true, .string ⟨#[66, 67]⟩] 56)).alloc (.cells #[.int .i64 (-9), .int .i64 1, .int .i64 7, .int .i64 0] 54)) (.agg #[.slice (some ⟨w.heap.size, 0, none⟩) 2 2, .slice (some ⟨w.heap.size + 1, 0, none⟩) 2 2, .slice none 0 0, .slice none 0 0, .slice none 0 0]) xS) := ⟨_, _, _, _, _, rfl, ⟨_, _, rfl, Nat.le_refl _, (by decide), (rc_new w #[.int .i64 (-5), .bool false, .string ⟨#[65]⟩, .int .i64 3600, .bool true, .string ⟨#[66, 67]⟩] 56).up (Up.alloc _ _)⟩, ⟨_, _, rfl, Nat.le_refl _, (by decide), J0⟩, Sl.nil _, Sl.nil _, Sl.nil _⟩
  have KK := Lib.hid ((rc_new w #[.int .i64 (-5), .bool false, .string ⟨#[65]⟩, .int .i64 3600, .bool true, .string ⟨#[66, 67]⟩] 56).up (Up.alloc _ (.cells #[.int .i64 (-9), .int .i64 1, .int .i64 7, .int .i64 0] 54)))
  have JJ := Lib.hid J0
  clear J0
  have WZ : ((w.alloc (.cells #[.int .i64 (-5), .bool false, .string ⟨#[65]⟩, .int .i64 3600, .bool true, .string ⟨#[66, 67]⟩] 56)).alloc (.cells #[.int .i64 (-9), .int .i64 1, .int .i64 7, .int .i64 0] 54)).heap.size = w.heap.size + 2 := by simp
  have BX := Lib.hid (Bx5.new ((w.alloc (.cells #[.int .i64 (-5), .bool false, .string ⟨#[65]⟩, .int .i64 3600, .bool true, .string ⟨#[66, 67]⟩] 56)).alloc (.cells #[.int .i64 (-9), .int .i64 1, .int .i64 7, .int .i64 0] 54)) (.slice (some ⟨w.heap.size, 0, none⟩) 2 2) (.slice (some ⟨w.heap.size + 1, 0, none⟩) 2 2) (.slice none 0 0) (.slice none 0 0) (.slice none 0 0) 27)
  rw [WZ] at BX
  go_enter Try.func11, Try.ntmps11
  go_wp2_with fail
  refine (C1.out _ _ (XB.out.up (Up.alloc _ _))).mono ?_
  rintro e w1 ⟨v1, rfl, o1, u1⟩
  obtain ⟨A1, c1, rfl, f1, f2, f3, _⟩ := o1.form
  rw [xS_len] at f1 ⊢
  have R1 := Lib.hid f3
  have XB1 := Lib.hid ((XB.out.up (Up.alloc _ _)).up u1)
  have BX1 := Lib.hid (BX.out.up u1)
  have U3 := Lib.hid ((Up.alloc _ _).trans u1)
  clear o1 f3 u1 XB BX C1 WZ
  go_wp2_with fail
  have HB2 := Lib.hid (HBox.new w1 1 0 0 0 2 2 5 35)
  have u2 := Up.alloc w1 (.cells #[.int .i64 1, .int .i64 0, .int .i64 0, .int .i64 0, .int .i64 2, .int .i64 2, .int .i64 5] 35)
  refine (C2.out A1 c1 _ f1 f2 (R1.out.up u2)).mono ?_
  rintro e w3 ⟨v3, rfl, b3, u3⟩
  have u23 := u2.trans u3
  have XB3 := Lib.hid (XB1.out.up u23)
  have BX3 := Lib.hid (BX1.out.up u23)
  have HB3 := Lib.hid (HB2.out.up u3)
  have Y3 := Lib.hid b3
  have U4 := Lib.hid (U3.out.trans u23)
  obtain ⟨_, _, _, _, _, rfl, ⟨P0, d0, rfl, _, _, k3⟩, ⟨P1, d1, rfl, _, _, j3⟩, ⟨P2, d2, rfl, _, _, _⟩, ⟨P3, d3, rfl, _, _, _⟩, ⟨P4, d4, rfl, _, _, _⟩⟩ := b3
  obtain ⟨kb, ko, rfl, kh⟩ := k3 (by decide)
  obtain ⟨jb, jo, rfl, jh⟩ := j3 (by decide)
  have K30 := Lib.hid (kh 3 (.int .i64 3600) rfl)
  have K31 := Lib.hid (kh 4 (.bool true) rfl)
  have K32 := Lib.hid (kh 5 (.string ⟨#[66, 67]⟩) rfl)
  have J30 := Lib.hid (show w3.cell? ⟨jb, jo, none⟩ = some (.int .i64 (-9)) from jh 0 (.int .i64 (-9)) rfl)
  have J31 := Lib.hid (jh 1 (.int .i64 1) rfl)
  rw [show xS.ks.length = 2 from rfl, show xS.js.length = 2 from rfl]
  generalize xS.ls.length = q2
  generalize xS.sd.length = q3
  generalize xS.ut.length = q4
  clear kh jh Y3 u3 u2 u23 R1 XB1 BX1 HB2 U3 C2 f1 f2
  go_wp2_with fail
  have BY := Lib.hid (Bx5.new w3 (.slice (some ⟨kb, ko, none⟩) 2 d0) (.slice (some ⟨jb, jo, none⟩) 2 d1) (.slice P2 q2 d2) (.slice P3 q3 d3) (.slice P4 q4 d4) 27)
  have u4 := Up.alloc w3 (.cells #[.slice (some ⟨kb, ko, none⟩) 2 d0, .slice (some ⟨jb, jo, none⟩) 2 d1, .slice P2 q2 d2, .slice P3 q3 d3, .slice P4 q4 d4] 27)
  refine (C3.out _).mono ?_
  rintro e w4 ⟨rfl, u5⟩
  have u45 := u4.trans u5
  have XB4 := Lib.hid (XB3.out.up u45)
  have BX4 := Lib.hid (BX3.out.up u45)
  have HB4 := Lib.hid (HB3.out.up u45)
  have BY4 := Lib.hid (BY.out.up u5)
  have K40 := Lib.hid (u45.cell K30.out)
  have K41 := Lib.hid (u45.cell K31.out)
  have K42 := Lib.hid (u45.cell K32.out)
  have J40 := Lib.hid (u45.cell J30.out)
  have J41 := Lib.hid (u45.cell J31.out)
  have U5 := Lib.hid (U4.out.trans u45)
  clear u4 u5 u45 XB3 BX3 HB3 BY K30 K31 K32 J30 J31 U4 C3
  obtain ⟨h0, h1, h2, h3, h4, h5, h6⟩ := HB4.out
  have hlt := cell_lt h0
  go_wp2_with fail
  clear h0 h1 h2 h3 h4 h5 h6 hlt
  have u6 := Up.alloc w4 (.cells #[.int .i64 0, .int .i64 0, .int .i64 0, .int .i64 0, .int .i64 0, .int .i64 0, .int .i64 0] 35)
  refine (C4.out _).mono ?_
  rintro e w5 ⟨v5, rfl, b5, u7⟩
  obtain ⟨S0, e0, T0, S1, e1, T1, S2, e2, T2, S3, e3, T3, S4, e4, T4, rfl⟩ := b5.form
  have u67 := u6.trans u7
  clear b5
  go_wp2_with fail
  have u8 := u67.alloc' (.cells #[.slice S0 e0 T0, .slice S1 e1 T1, .slice S2 e2 T2, .slice S3 e3 T3, .slice S4 e4 T4] 27)
  have XB6 := Lib.hid (XB4.out.up u8)
  have BX6 := BX4.out.up u8
  have HB6 := HB4.out.up u8
  have BY6 := BY4.out.up u8
  have K60 := u8.cell K40.out
  have K61 := u8.cell K41.out
  have K62 := u8.cell K42.out
  have J60 := u8.cell J40.out
  have J61 := u8.cell J41.out
  have U6 := Lib.hid (U5.out.trans u8)
  clear u6 u7 u67 u8 XB4 BX4 HB4 BY4 K40 K41 K42 J40 J41 U5 C4
  generalize w5.alloc (.cells #[.slice S0 e0 T0, .slice S1 e1 T1, .slice S2 e2 T2, .slice S3 e3 T3, .slice S4 e4 T4] 27) = w6 at *
  obtain ⟨x0, x1, x2, x3, x4⟩ := BX6
  obtain ⟨y0, y1, y2, y3, y4⟩ := BY6
  obtain ⟨h0, h1, h2, h3, h4, h5, h6⟩ := HB6
  have KX := Lib.hid XB6.out
  obtain ⟨kb', ko', hk', kh⟩ := (KK.out.up U6.out) (by decide)
  obtain ⟨jb', jo', hj', jh⟩ := (JJ.out.up U6.out) (by decide)
  injection hk' with hk'
  injection hj' with hj'
  simp only [Addr.mk.injEq] at hk' hj'
  obtain ⟨rfl, rfl, _⟩ := hk'
  obtain ⟨rfl, rfl, _⟩ := hj'
  have K70 : w6.cell? ⟨w.heap.size, 3, none⟩ = some (.int .i64 3600) := by have := kh 3 (.int .i64 3600) rfl; rwa [Nat.zero_add] at this
  have K71 : w6.cell? ⟨w.heap.size, 4, none⟩ = some (.bool true) := by have := kh 4 (.bool true) rfl; rwa [Nat.zero_add] at this
  have K72 : w6.cell? ⟨w.heap.size, 5, none⟩ = some (.string ⟨#[66, 67]⟩) := by have := kh 5 (.string ⟨#[66, 67]⟩) rfl; rwa [Nat.zero_add] at this
  have J70 : w6.cell? ⟨w.heap.size + 1, 0, none⟩ = some (.int .i64 (-9)) := jh 0 (.int .i64 (-9)) rfl
  have J71 : w6.cell? ⟨w.heap.size + 1, 1, none⟩ = some (.int .i64 1) := jh 1 (.int .i64 1) rfl
  clear kh jh XB6 KK JJ
  replace x0 := cell_regrown x0; replace x1 := cell_regrown x1; replace x2 := cell_regrown x2; replace x3 := cell_regrown x3; replace x4 := cell_regrown x4
  replace y0 := cell_regrown y0; replace y1 := cell_regrown y1; replace y2 := cell_regrown y2; replace y3 := cell_regrown y3; replace y4 := cell_regrown y4
  replace h0 := cell_regrown h0; replace h1 := cell_regrown h1; replace h2 := cell_regrown h2; replace h3 := cell_regrown h3; replace h4 := cell_regrown h4; replace h5 := cell_regrown h5; replace h6 := cell_regrown h6
  replace K60 := cell_regrown K60; replace K61 := cell_regrown K61; replace K62 := cell_regrown K62; replace J60 := cell_regrown J60; replace J61 := cell_regrown J61
  replace K70 := cell_regrown K70; replace K71 := cell_regrown K71; replace K72 := cell_regrown K72; replace J70 := cell_regrown J70; replace J71 := cell_regrown J71
  have Q0 := quiet_up (w := w6) (fun V u => C5.out _ V (KX.out.up u))
  refine wp_region_quiet_below (by kernel_rfl) (by kernel_rfl) ?_
  repeat (quiet_step (with_reducible exact Q0 _ _))
  refine wpQuiet_nil ?_
  intro _ hw'
  obtain ⟨⟨dq, osq⟩, hw''⟩ := hw'
  subst hw''
  go_wp2_with fail
  go_ret
  exact ⟨rfl, (U2.out.trans U6.out).trans (up_grown w6 dq osq)⟩
end Go.Proofs.Ytoijaananjlfpaa
