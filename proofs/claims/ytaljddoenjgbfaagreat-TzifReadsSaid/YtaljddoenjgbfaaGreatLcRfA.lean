/-
  The document's block: Decode, whatever comes in.
-/
import Derived.Test.YtaljddoenjgbfaaGreatLcRf8
import Derived.Test.YtaljddoenjgbfaaGreatLcRf9
import Derived.Test.YtaljddoenjgbfaaGreatLcMz
namespace Go.Proofs.YtaljddoenjgbfaaGreat
open Go.ChangeShapes Go.WideShapes Go.ChangeAt Go.RowKit Lc
set_option linter.unusedVariables false

set_option maxRecDepth 100000 in
set_option maxHeartbeats 4000000 in
theorem ddecode_arg (A : Option Addr) (n cc : Nat) (ver u s l t y c z : Int) (w : World) (h : zB z = false ∨ rightH ver u s l t y c = false) :
    Calls Tryz.prog 41 #[.slice A n cc, hv ver u s l t y c, .int .i64 z] w fun e w' => DcN w 1 bk0 e w' := by
  have R1 := Lib.hid (fun w => refRight_any ver u s l t y c w)
  have B0 := Lib.hid (Bx5.new (w.alloc (.cells #[.int .i64 ver, .int .i64 u, .int .i64 s, .int .i64 l, .int .i64 t, .int .i64 y, .int .i64 c] 60)) (.slice none 0 0) (.slice none 0 0) (.slice none 0 0) (.slice none 0 0) (.slice none 0 0) 37)
  have F0 := Lib.hid (Free.new (w.alloc (.cells #[.int .i64 ver, .int .i64 u, .int .i64 s, .int .i64 l, .int .i64 t, .int .i64 y, .int .i64 c] 60)) #[.slice none 0 0, .slice none 0 0, .slice none 0 0, .slice none 0 0, .slice none 0 0] 37)
  have UU := Lib.hid ((Up.alloc w (.cells #[.int .i64 ver, .int .i64 u, .int .i64 s, .int .i64 l, .int .i64 t, .int .i64 y, .int .i64 c] 60)).alloc' (.cells #[.slice none 0 0, .slice none 0 0, .slice none 0 0, .slice none 0 0, .slice none 0 0] 37))
  rw [World.size_alloc] at B0 F0
  cases hr : rightH ver u s l t y c
  · rw [hr] at R1
    clear h hr
    go_enter Tryz.func41, Tryz.ntmps41
    go_wp2_with fail
    refine (R1.out _).mono ?_; rintro e w1 ⟨rfl, u1⟩
    obtain ⟨g0, g1, g2, g3, g4⟩ := B0.out.up u1
    obtain ⟨gl, fz⟩ := F0.out.up u1
    have z0 := fz 0; have z1 := fz 1; have z2 := fz 2; have z3 := fz 3; have z4 := fz 4
    have UV := Lib.hid (UU.out.trans u1)
    clear fz u1
    go_wp2_with fail
    exact bodyPost_ret (v := .tuple #[bz, .int .i64 1]) (by simp [results, Tryz.results41, go_sem, g0, g1, g2, g3, g4]) rfl ⟨_, rfl, bz_read _, Up.five (b := w.heap.size + 1) UV.out (Nat.le_succ _) _ _ _ _ _, bz_new _⟩
  · rw [hr] at R1
    have hz : zB z = false := h.resolve_right (by rw [hr]; decide)
    have hz4 : (z != 4) = true := by unfold zB at hz; simp at hz ⊢; exact hz.1
    have hz8 : (z != 8) = true := by unfold zB at hz; simp at hz ⊢; exact hz.2
    clear h hr hz
    go_enter Tryz.func41, Tryz.ntmps41
    go_wp2_with fail
    refine (R1.out _).mono ?_; rintro e w1 ⟨rfl, u1⟩
    obtain ⟨g0, g1, g2, g3, g4⟩ := B0.out.up u1
    obtain ⟨gl, fz⟩ := F0.out.up u1
    have z0 := fz 0; have z1 := fz 1; have z2 := fz 2; have z3 := fz 3; have z4 := fz 4
    have UV := Lib.hid (UU.out.trans u1)
    clear fz u1
    go_wp2_with fail
    exact bodyPost_ret (v := .tuple #[bz, .int .i64 1]) (by simp [results, Tryz.results41, go_sem, g0, g1, g2, g3, g4]) rfl ⟨_, rfl, bz_read _, Up.five (b := w.heap.size + 1) UV.out (Nat.le_succ _) _ _ _ _ _, bz_new _⟩

set_option maxRecDepth 100000 in
set_option maxHeartbeats 4000000 in
theorem ddecode_short (A : Option Addr) (b : List UInt8) (cc : Nat) (ver : Int) (u s l t y c z : Nat) (hz : z = 4 ∨ z = 8) (w : World) (r : rightH ver u s l t y c = true) (hl : (b.length : Int) < bodyI u s l t y c z) :
    Calls Tryz.prog 41 #[.slice A b.length cc, hv ver u s l t y c, .int .i64 z] w fun e w' => DcN w 5 bk0 e w' := by
  have R1 := Lib.hid (fun w => refRight_any ver u s l t y c w)
  rw [r] at R1
  obtain ⟨q1, q2, q3, q4, q5, q6⟩ := right_nat r
  have R2 := Lib.hid (fun w => refBody_any ver u s l t y c z w (by omega) (by omega) (by omega) (by omega) (by omega) (by omega) (by omega))
  have bd := bodyI_bd r (z := z) (by omega)
  obtain ⟨bd0, bd1⟩ := bd
  generalize bodyI u s l t y c z = bo at *
  generalize b.length = n at *
  have B0 := Lib.hid (Bx5.new (w.alloc (.cells #[.int .i64 ver, .int .i64 u, .int .i64 s, .int .i64 l, .int .i64 t, .int .i64 y, .int .i64 c] 60)) (.slice none 0 0) (.slice none 0 0) (.slice none 0 0) (.slice none 0 0) (.slice none 0 0) 37)
  have F0 := Lib.hid (Free.new (w.alloc (.cells #[.int .i64 ver, .int .i64 u, .int .i64 s, .int .i64 l, .int .i64 t, .int .i64 y, .int .i64 c] 60)) #[.slice none 0 0, .slice none 0 0, .slice none 0 0, .slice none 0 0, .slice none 0 0] 37)
  have HB := Lib.hid ((HBox.new w ver u s l t y c 60).up (Up.alloc _ (.cells #[.slice none 0 0, .slice none 0 0, .slice none 0 0, .slice none 0 0, .slice none 0 0] 37)))
  have UU := Lib.hid ((Up.alloc w (.cells #[.int .i64 ver, .int .i64 u, .int .i64 s, .int .i64 l, .int .i64 t, .int .i64 y, .int .i64 c] 60)).alloc' (.cells #[.slice none 0 0, .slice none 0 0, .slice none 0 0, .slice none 0 0, .slice none 0 0] 37))
  rw [World.size_alloc] at B0 F0
  have D : ((z : Int) != 4) = false ∨ ((z : Int) != 4) = true ∧ ((z : Int) != 8) = false := by
    rcases hz with rfl | rfl
    · exact .inl (by decide)
    · exact .inr (by decide)
  clear hz r q1 q2 q3 q4 q5 q6
  rcases D with d | ⟨d, d'⟩
  all_goals
    go_enter Tryz.func41, Tryz.ntmps41
    go_wp2_with fail
    refine (R1.out _).mono ?_; rintro e w1 ⟨rfl, u1⟩
    have UV := Lib.hid (UU.out.trans u1)
    have H1 := Lib.hid (HB.out.up u1)
    have B1 := Lib.hid (B0.out.up u1)
    have F1 := Lib.hid (F0.out.up u1)
    clear u1
    obtain ⟨h0, h1, h2, h3, h4, h5, h6⟩ := H1.out
    go_wp2_with fail
    clear h0 h1 h2 h3 h4 h5 h6
    refine (R2.out _).mono ?_; rintro e w2 ⟨rfl, u2⟩
    obtain ⟨g0, g1, g2, g3, g4⟩ := B1.out.up u2
    obtain ⟨gl, fz⟩ := F1.out.up u2
    have z0 := fz 0; have z1 := fz 1; have z2 := fz 2; have z3 := fz 3; have z4 := fz 4
    have UW := Lib.hid (UV.out.trans u2)
    clear fz u2
    go_wp2_with fail
    exact bodyPost_ret (v := .tuple #[bz, .int .i64 5]) (by simp [results, Tryz.results41, go_sem, g0, g1, g2, g3, g4]) rfl ⟨_, rfl, bz_read _, Up.five (b := w.heap.size + 1) UW.out (Nat.le_succ _) _ _ _ _ _, bz_new _⟩

set_option maxRecDepth 100000 in
/-- Bytes as a block, by the document: whatever they are. -/
theorem ddecodeN_any (A : Option Addr) (b : List UInt8) (cc : Nat) (ver u s l t y c z : Int) (w : World) (hcm : cc ≤ maxLen) (hc : b.length ≤ cc) (hr : Rd w A b) :
    Calls Tryz.prog 41 #[.slice A b.length cc, hv ver u s l t y c, .int .i64 z] w fun e w' => DcN w (decE b ver u s l t y c z) (decX b ver u s l t y c z) e w' := by
  by_cases h : zB z = false ∨ rightH ver u s l t y c = false
  · have E : decE b ver u s l t y c z = 1 := by unfold decE; rw [if_pos h]
    have X : decX b ver u s l t y c z = bk0 := by unfold decX; rw [E]; rfl
    rw [E, X]
    exact ddecode_arg A b.length cc ver u s l t y c z w h
  · have h' := h
    rw [not_or] at h
    have hz : z = 4 ∨ z = 8 := by have := h.1; unfold zB at this; simp at this; omega
    have r : rightH ver u s l t y c = true := by simpa using h.2
    have q := rightH_true.1 r
    obtain ⟨z, rfl⟩ := Int.eq_ofNat_of_zero_le (a := z) (by omega)
    obtain ⟨u, rfl⟩ := Int.eq_ofNat_of_zero_le (a := u) (by omega)
    obtain ⟨s, rfl⟩ := Int.eq_ofNat_of_zero_le (a := s) (by omega)
    obtain ⟨l, rfl⟩ := Int.eq_ofNat_of_zero_le (a := l) (by omega)
    obtain ⟨t, rfl⟩ := Int.eq_ofNat_of_zero_le (a := t) (by omega)
    obtain ⟨y, rfl⟩ := Int.eq_ofNat_of_zero_le (a := y) (by omega)
    obtain ⟨c, rfl⟩ := Int.eq_ofNat_of_zero_le (a := c) (by omega)
    have hz' : z = 4 ∨ z = 8 := by omega
    by_cases hl : (b.length : Int) < bodyI u s l t y c z
    · have E : decE b ver u s l t y c z = 5 := by unfold decE; rw [if_neg h', if_pos hl]
      have X : decX b ver u s l t y c z = bk0 := by unfold decX; rw [E]; rfl
      rw [E, X]
      exact ddecode_short A b cc ver u s l t y c z hz' w r hl
    · have E : decE b ver u s l t y c z = if dOk b u s l t y c z = true ∧ rightB (dBk b u s l t y c z) z ver = true then 0 else 4 := by
        unfold decE; rw [if_neg h', if_neg hl]; simp only [Int.toNat_natCast]
      have X : decX b ver u s l t y c z = if dOk b u s l t y c z = true ∧ rightB (dBk b u s l t y c z) z ver = true then dBk b u s l t y c z else bk0 := by
        unfold decX; rw [E]; simp only [Int.toNat_natCast]
        by_cases hh : dOk b u s l t y c z = true ∧ rightB (dBk b u s l t y c z) z ver = true
        · rw [if_pos hh, if_pos hh]; rfl
        · rw [if_neg hh, if_neg hh]; rfl
      rw [E, X]
      rw [body_nat] at hl
      rcases hz' with rfl | rfl
      · exact dc4.ddecode_long A b cc ver u s l t y c w hcm hc r (by omega) hr
      · exact dc8.ddecode_long A b cc ver u s l t y c w hcm hc r (by omega) hr
set_option maxRecDepth 100000 in
/-- As above, without the word on its memory. -/
theorem ddecode_any (A : Option Addr) (b : List UInt8) (cc : Nat) (ver u s l t y c z : Int) (w : World) (hcm : cc ≤ maxLen) (hc : b.length ≤ cc) (hr : Rd w A b) :
    Calls Tryz.prog 41 #[.slice A b.length cc, hv ver u s l t y c, .int .i64 z] w fun e w' => DcP w (decE b ver u s l t y c z) (decX b ver u s l t y c z) e w' :=
  (ddecodeN_any A b cc ver u s l t y c z w hcm hc hr).mono fun _ _ ⟨v, h1, h2, h3, _⟩ => ⟨v, h1, h2, h3⟩
end Go.Proofs.YtaljddoenjgbfaaGreat
