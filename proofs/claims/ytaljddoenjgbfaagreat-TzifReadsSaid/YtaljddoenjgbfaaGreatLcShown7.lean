/-
  That what must be in any case of files is: the law's own opening look answers true. And the document's Same, ref.
-/
import Derived.Test.YtaljddoenjgbfaaGreatLcTzX
import Derived.Test.YtaljddoenjgbfaaGreatLcSamG
namespace Go.Proofs.YtaljddoenjgbfaaGreat
open Go.ChangeShapes Go.WideShapes Go.ChangeAt Go.RowKit Lc

def utc : ByteArray := ⟨#[85, 84, 67, 48]⟩
def fS1 : Fil := ⟨1, shB, ⟨#[]⟩⟩
def fS2 : Fil := ⟨2, shB, utc⟩
def fS3 : Fil := ⟨1, shB, utc⟩
set_option maxRecDepth 100000 in
theorem shB_len (z : Nat) : (encL shB z).length = 7 := by
  rw [encL_len, show (nmB shB).length = 1 by decide]
  simp [shB]
set_option maxRecDepth 100000 in
theorem fS1_len : (encF fS1).length = 51 := by
  show (partB shB 4 1).length = 51
  rw [part_len, shB_len]
set_option maxRecDepth 100000 in
theorem fS2_len : (encF fS2).length = 108 := by
  show ((partB shB 4 2 ++ partB shB 8 2) ++ (10 :: (tx utc ++ [10]))).length = 108
  rw [List.length_append, List.length_append, part_len, part_len, shB_len, shB_len]
  rfl
set_option maxRecDepth 100000 in
theorem fS1_right : rightF fS1 = true := by decide
set_option maxRecDepth 100000 in
theorem fS2_right : rightF fS2 = true := by decide
set_option maxRecDepth 100000 in
theorem fS3_right : rightF fS3 = false := by decide
set_option maxRecDepth 100000 in
theorem fS1_told : toldB fS1 = true := by unfold toldB; rw [fS1_right, fS1_len]; rfl
set_option maxRecDepth 100000 in
theorem fS2_told : toldB fS2 = true := by unfold toldB; rw [fS2_right, fS2_len]; rfl
set_option maxRecDepth 100000 in
theorem fS3_told : toldB fS3 = false := by unfold toldB; rw [fS3_right]; rfl
set_option maxRecDepth 100000 in
theorem tz_short : tdE [84, 90, 105, 102] = 5 ∧ tdF [84, 90, 105, 102] = fl0 := by
  have e : tdE [84, 90, 105, 102] = 5 := by
    unfold tdE readE
    rw [if_neg (by decide), show errH [84, 90, 105, 102] = 5 from rfl, if_pos (by decide)]
  refine ⟨e, ?_⟩
  unfold tdF; rw [e]; rfl

set_option maxRecDepth 100000 in
theorem sh7a (v : Value) (w : World) (h : FlR w v fS1) : Calls Tryz.prog 7 #[v] w fun e w' => ∃ A c, e = .returned (.tuple #[.slice A 51 c, .int .i64 0]) ∧ Up w w' := by
  refine (tencode_yes v fS1 w h fS1_told).mono ?_
  rintro e w' ⟨v', rfl, o, u⟩
  obtain ⟨A, c, rfl, _⟩ := o.form
  rw [fS1_len]
  exact ⟨A, c, rfl, u⟩
set_option maxRecDepth 100000 in
theorem sh7b (v : Value) (w : World) (h : FlR w v fS2) : Calls Tryz.prog 7 #[v] w fun e w' => ∃ A c, e = .returned (.tuple #[.slice A 108 c, .int .i64 0]) ∧ Sb w' (.slice A 108 c) (encF fS2) ∧ Up w w' := by
  refine (tencode_yes v fS2 w h fS2_told).mono ?_
  rintro e w' ⟨v', rfl, o, u⟩
  obtain ⟨A, c, rfl, h1, h2, r, _⟩ := o.form
  rw [fS2_len]
  rw [fS2_len] at h1
  exact ⟨A, c, rfl, ⟨A, c, by rw [fS2_len], by rw [fS2_len]; exact h1, h2, r⟩, u⟩
set_option maxRecDepth 100000 in
theorem sh7c (v : Value) (w : World) (h : Sb w v (encF fS2)) : Calls Tryz.prog 13 #[v] w fun e w' => DfP w 0 fS2 e w' := by
  have d := tdecode_any v (encF fS2) w h
  obtain ⟨a, b⟩ := td_enc fS2_told shB_bi
  rw [a, b] at d
  exact d
set_option maxRecDepth 100000 in
theorem sh7d (v : Value) (w : World) (h : FlR w v fS3) : Calls Tryz.prog 7 #[v] w fun e w' => e = .returned (.tuple #[.slice none 0 0, .int .i64 1]) ∧ Up w w' := tencode_no v fS3 w h fS3_told
set_option maxRecDepth 100000 in
theorem sh7e (v : Value) (w : World) (h : Sb w v [84, 90, 105, 102]) : Calls Tryz.prog 13 #[v] w fun e w' => DfP w 5 fl0 e w' := by
  have d := tdecode_any v _ w h
  rw [tz_short.1, tz_short.2] at d
  exact d
set_option maxRecDepth 100000 in
theorem sh7f (v : Value) (w : World) (h : FlR w v fS2) : Calls Tryz.prog 10 #[v] w fun e w' => e = .returned (.bool true) ∧ Up w w' := by
  have d := tright_any v fS2 w h
  rw [fS2_right] at d
  exact d

set_option maxRecDepth 100000 in
/-- ref: the value as it is. -/
theorem ref7_any (v : Value) (f : Fil) (w : World) (h : FlR w v f) : Calls Tryz.prog 9 #[v] w fun e w' => e = .returned v ∧ Up w w' := by
  obtain ⟨A0, n0, c0, A1, n1, c1, A2, n2, c2, A3, n3, c3, A4, n4, c4, rfl, _⟩ := h.form
  generalize f.ver = ver
  generalize f.foot = ft
  go_enter Tryz.func9, Tryz.ntmps9
  go_wp2_with fail
  refine bodyPost_ret (v := .agg #[.int .i64 ver, .slice A0 n0 c0, .slice A1 n1 c1, .slice A2 n2 c2, .slice A3 n3 c3, .slice A4 n4 c4, .string ft]) (by simp [results, Tryz.results9, go_sem]) rfl ⟨rfl, (Up.alloc _ _).alloc' _⟩
set_option maxRecDepth 100000 in
set_option maxHeartbeats 2000000 in
theorem same7_yes (a b : Value) (f : Fil) (w : World) (ha : FlR w a f) (hb : FlR w b f) : Calls Tryz.prog 11 #[a, b] w fun e w' => e = .returned (.bool true) ∧ Up w w' := by
  obtain ⟨A0, n0, c0, A1, n1, c1, A2, n2, c2, A3, n3, c3, A4, n4, c4, rfl, ka⟩ := ha.form
  obtain ⟨B0, m0, d0, B1, m1, d1, B2, m2, d2, B3, m3, d3, B4, m4, d4, rfl, kb⟩ := hb.form
  have S := Lib.hid (fun W (u : Up w W) => same_yes _ _ f.blk W (ka.up u) (kb.up u))
  clear ha hb ka kb
  generalize f.ver = ver
  generalize f.foot = ft
  go_enter Tryz.func11, Tryz.ntmps11
  go_wp2_with fail
  refine (S.out _ ((Up.alloc _ _).alloc' _)).mono ?_; rintro e w1 ⟨rfl, u1⟩
  go_wp2_with fail
  go_ret
  exact ⟨rfl, ((Up.alloc _ _).alloc' _).trans u1⟩

set_option maxRecDepth 100000 in
set_option maxHeartbeats 4000000 in
theorem shown7_any (w : World) : Calls Tryz.prog 5 #[] w fun e w' => e = .returned (.bool true) ∧ Up w w' := by
  have C1 := Lib.hid sh7a
  have C2 := Lib.hid sh7b
  have C3 := Lib.hid sh7c
  have C4 := Lib.hid sh7d
  have C5 := Lib.hid sh7e
  have C6 := Lib.hid sh7f
  have CV : ∀ w : World, (convert 32 32 (.slice (some ⟨w.heap.size, 0, none⟩) 4 4)).run Tryz.prog (w.alloc (.cells #[.int .u8 84, .int .u8 90, .int .u8 105, .int .u8 102] 5)) = .ok (.slice (some ⟨w.heap.size, 0, none⟩) 4 4) (w.alloc (.cells #[.int .u8 84, .int .u8 90, .int .u8 105, .int .u8 102] 5 (4, 5))) := fun w => convert_const w #[.int .u8 84, .int .u8 90, .int .u8 105, .int .u8 102] 4 4
  have U0 := Lib.hid ((Up.alloc w (.cells #[.int .i64 0, .bool false, .string ⟨#[]⟩] 51)).alloc' (.cells #[.slice (some ⟨w.heap.size, 0, none⟩) 1 1, .slice none 0 0, .slice none 0 0, .slice none 0 0, .slice none 0 0] 27))
  have K0 := Lib.hid ((one_made w ⟨0, false, ⟨#[]⟩⟩ 51).up (Up.alloc _ (.cells #[.slice (some ⟨w.heap.size, 0, none⟩) 1 1, .slice none 0 0, .slice none 0 0, .slice none 0 0, .slice none 0 0] 27)))
  have X0 := Lib.hid (Bx5.new (w.alloc (.cells #[.int .i64 0, .bool false, .string ⟨#[]⟩] 51)) (.slice (some ⟨w.heap.size, 0, none⟩) 1 1) (.slice none 0 0) (.slice none 0 0) (.slice none 0 0) (.slice none 0 0) 27)
  rw [World.size_alloc] at X0
  go_enter Tryz.func5, Tryz.ntmps5
  go_wp2_with fail
  generalize ((w.alloc (.cells #[.int .i64 0, .bool false, .string ⟨#[]⟩] 51)).alloc (.cells #[.slice (some ⟨w.heap.size, 0, none⟩) 1 1, .slice none 0 0, .slice none 0 0, .slice none 0 0, .slice none 0 0] 27)) = W at *
  generalize w.heap.size + 1 = B at *
  refine (C1.out _ W ⟨_, _, _, _, _, rfl, K0.out⟩).mono ?_; rintro e w1 ⟨A1, c1, rfl, u1⟩
  obtain ⟨x0, x1, x2, x3, x4⟩ := X0.out.up u1
  go_wp2_with fail
  clear x0 x1 x2 x3 x4
  refine (C2.out _ w1 ⟨_, _, _, _, _, rfl, K0.out.up u1⟩).mono ?_; rintro e w2 ⟨A2, c2, rfl, s2, u2⟩
  have U2 := Lib.hid (u1.trans u2)
  go_wp2_with fail
  refine (C3.out _ w2 s2).mono ?_; rintro e w3 ⟨v3, rfl, k3, _, u3⟩
  obtain ⟨P0, p0, d0, P1, p1, d1, P2, p2, d2, P3, p3, d3, P4, p4, d4, rfl, kb⟩ := k3.form
  have KL : p0 = 1 := by
    obtain ⟨_, _, _, _, _, q, ⟨_, _, q0, _⟩, _⟩ := kb
    simp only [Value.agg.injEq, Array.mk.injEq, List.cons.injEq, and_true] at q
    rw [← q.1] at q0
    injection q0
  subst KL
  rw [show fS2.ver = 2 from rfl, show fS2.foot = ⟨#[85, 84, 67, 48]⟩ from rfl] at k3 ⊢
  have U3 := Lib.hid (U2.out.trans u3)
  have K3 := Lib.hid k3
  have uy := Lib.hid (Up.alloc w3 (.cells #[.int .i64 2, .slice P0 1 d0, .slice P1 p1 d1, .slice P2 p2 d2, .slice P3 p3 d3, .slice P4 p4 d4, .string ⟨#[85, 84, 67, 48]⟩] 29))
  have Y3 := Lib.hid (Bx7.new w3 (.int .i64 2) (.slice P0 1 d0) (.slice P1 p1 d1) (.slice P2 p2 d2) (.slice P3 p3 d3) (.slice P4 p4 d4) (.string ⟨#[85, 84, 67, 48]⟩) 29)
  obtain ⟨x0, x1, x2, x3, x4⟩ := (X0.out.up U3.out).up uy.out
  clear u1 u2 u3 s2 kb k3 U2
  go_wp2_with fail
  clear x0 x1 x2 x3 x4
  generalize w3.alloc (.cells #[.int .i64 2, .slice P0 1 d0, .slice P1 p1 d1, .slice P2 p2 d2, .slice P3 p3 d3, .slice P4 p4 d4, .string ⟨#[85, 84, 67, 48]⟩] 29) = V at *
  refine (C4.out _ V ⟨_, _, _, _, _, rfl, (K0.out.up U3.out).up uy.out⟩).mono ?_; rintro e w4 ⟨rfl, u4⟩
  have U4 := Lib.hid ((U3.out.trans uy.out).trans u4)
  have K4 := Lib.hid ((K3.out.up uy.out).up u4)
  have Y4 := Lib.hid (Y3.out.up u4)
  clear u4 uy U3 K3 Y3 X0 K0
  generalize w3.heap.size = YB at *
  go_wp2_with fail
  have RT := Rd.mark w4 [84, 90, 105, 102] #[.int .u8 84, .int .u8 90, .int .u8 105, .int .u8 102] 5 (4, 5) rfl
  have ut := Lib.hid (Up.alloc w4 (.cells #[.int .u8 84, .int .u8 90, .int .u8 105, .int .u8 102] 5 (4, 5)))
  refine (C5.out _ _ ⟨_, _, rfl, Nat.le_refl _, by unfold maxLen; decide, RT⟩).mono ?_; rintro e w5 ⟨v5, rfl, k5, _, u5⟩
  obtain ⟨Q0, q0, r0, Q1, q1, r1, Q2, q2, r2, Q3, q3, r3, Q4, q4, r4, rfl, _⟩ := k5.form
  have U5 := Lib.hid ((U4.out.trans ut.out).trans u5)
  have K5 := Lib.hid ((K4.out.up ut.out).up u5)
  have Y5 := Lib.hid ((Y4.out.up ut.out).up u5)
  clear u5 k5 ut RT U4 K4 Y4
  rw [show fl0.ver = 0 from rfl, show fl0.foot = ⟨#[]⟩ from rfl]
  have uz := Lib.hid (Up.alloc w5 (.cells #[.int .i64 0, .slice Q0 q0 r0, .slice Q1 q1 r1, .slice Q2 q2 r2, .slice Q3 q3 r3, .slice Q4 q4 r4, .string ⟨#[]⟩] 29))
  obtain ⟨y0, y1, y2, y3, y4, y5, y6⟩ := Y5.out.up uz.out
  go_wp2_with fail
  refine (C6.out _ _ (K5.out.up uz.out)).mono ?_; rintro e w6 ⟨rfl, u6⟩
  go_wp2_with fail
  go_ret
  exact ⟨rfl, ((U0.out.trans U5.out).trans uz.out).trans u6⟩
end Go.Proofs.YtaljddoenjgbfaaGreat
