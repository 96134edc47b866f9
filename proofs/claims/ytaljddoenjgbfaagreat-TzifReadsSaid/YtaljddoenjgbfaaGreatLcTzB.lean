/-
  The program's file: readBlock.
-/
import Derived.Test.YtaljddoenjgbfaaGreatLcTzH
import Derived.Test.YtaljddoenjgbfaaGreatLcBkY
import Derived.RegionCalls
namespace Go.Proofs.YtaljddoenjgbfaaGreat
open Go.ChangeShapes Go.WideShapes Go.ChangeAt Go.RowKit Lc

set_option maxRecDepth 100000 in
set_option maxHeartbeats 2000000 in
theorem rblock_no (v : Value) (b : List UInt8) (ver u s l t y c z : Int) (w : World) (hs : Sb w v b) (h : decE b ver u s l t y c z ≠ 0) :
    Calls Tryz.prog 52 #[v, hv ver u s l t y c, .int .i64 z] w fun e w' => e = .panicked (pnc (decE b ver u s l t y c z)) ∧ Up w w' := by
  obtain ⟨A, cc, rfl, hc, hcm, hr⟩ := hs
  have U0 := Lib.hid ((Up.alloc w (.cells #[.int .i64 ver, .int .i64 u, .int .i64 s, .int .i64 l, .int .i64 t, .int .i64 y, .int .i64 c] 90)).alloc' (.cells #[.slice none 0 0, .slice none 0 0, .slice none 0 0, .slice none 0 0, .slice none 0 0] 27))
  have D := Lib.hid (bdecode_any A b cc ver u s l t y c z _ hcm hc (hr.up U0.out))
  have R := Lib.hid (fun w => refuse_yes (decE b ver u s l t y c z) w)
  have hx : (decE b ver u s l t y c z != 0) = true := by simpa using h
  generalize decE b ver u s l t y c z = n at *
  generalize decX b ver u s l t y c z = X at *
  generalize b.length = m at *
  clear hr h
  unfold hv at D ⊢
  unfold DcP at D
  go_enter Tryz.func52, Tryz.ntmps52
  go_wp2_with fail
  refine D.out.mono ?_; rintro e w1 ⟨v1, rfl, k1, u1⟩
  obtain ⟨A0, a0, c0, A1, a1, c1, A2, a2, c2, A3, a3, c3, A4, a4, c4, rfl⟩ := k1.form
  go_wp2_with fail
  refine (R.out _).mono ?_; rintro e w2 ⟨rfl, rfl⟩
  go_wp2_with fail
  exact ⟨rfl, rfl, (U0.out.trans u1).alloc' _⟩

/-- What readBlock tells. -/
def RbP (w : World) (X : Blk) (l : List UInt8) (e : Ending) (w' : World) : Prop := ∃ v1 v2, e = .returned (.tuple #[v1, v2]) ∧ BkR w' v1 X ∧ BkF w v1 ∧ Sb w v2 l ∧ Up w w'
set_option maxRecDepth 100000 in
set_option maxHeartbeats 4000000 in
theorem rblock_yes (v : Value) (b : List UInt8) (ver u s l t y c z : Int) (w : World) (hs : Sb w v b) (r : rightH ver u s l t y c = true) (hz : z = 4 ∨ z = 8) (h : decE b ver u s l t y c z = 0) :
    Calls Tryz.prog 52 #[v, hv ver u s l t y c, .int .i64 z] w fun e w' => RbP w (decX b ver u s l t y c z) (b.drop (bodyI u s l t y c z).toNat) e w' := by
  obtain ⟨A, cc, rfl, hc, hcm, hr⟩ := hs
  have U0 := Lib.hid ((Up.alloc w (.cells #[.int .i64 ver, .int .i64 u, .int .i64 s, .int .i64 l, .int .i64 t, .int .i64 y, .int .i64 c] 90)).alloc' (.cells #[.slice none 0 0, .slice none 0 0, .slice none 0 0, .slice none 0 0, .slice none 0 0] 27))
  have H0 := Lib.hid ((HBox.new w ver u s l t y c 90).up (Up.alloc _ (.cells #[.slice none 0 0, .slice none 0 0, .slice none 0 0, .slice none 0 0, .slice none 0 0] 27)))
  have X0 := Lib.hid (Bx5.new (w.alloc (.cells #[.int .i64 ver, .int .i64 u, .int .i64 s, .int .i64 l, .int .i64 t, .int .i64 y, .int .i64 c] 90)) (.slice none 0 0) (.slice none 0 0) (.slice none 0 0) (.slice none 0 0) (.slice none 0 0) 27)
  have F0 := Lib.hid (Free.new (w.alloc (.cells #[.int .i64 ver, .int .i64 u, .int .i64 s, .int .i64 l, .int .i64 t, .int .i64 y, .int .i64 c] 90)) #[.slice none 0 0, .slice none 0 0, .slice none 0 0, .slice none 0 0, .slice none 0 0] 27)
  rw [World.size_alloc] at X0 F0
  have Z0 : Hid (((w.alloc (.cells #[.int .i64 ver, .int .i64 u, .int .i64 s, .int .i64 l, .int .i64 t, .int .i64 y, .int .i64 c] 90)).alloc (.cells #[.slice none 0 0, .slice none 0 0, .slice none 0 0, .slice none 0 0, .slice none 0 0] 27)).heap.size = w.heap.size + 2) := by unfold Hid; rw [World.size_alloc, World.size_alloc]
  have D := Lib.hid (bdecodeF_any A b cc ver u s l t y c z _ hcm hc (hr.up U0.out))
  have R := Lib.hid (fun w => refuse_no 0 w)
  have bb := bodyI_bd r hz
  have q := rightH_true.1 r
  have KB := Lib.hid (fun w => body_any ver u s l t y c z w (by omega) (by omega) (by omega) (by omega) (by omega) (by omega) hz)
  have hl : bodyI u s l t y c z ≤ (b.length : Int) := by
    unfold decE at h
    split at h
    · omega
    · split at h
      · omega
      · omega
  obtain ⟨k, hk⟩ := Int.eq_ofNat_of_zero_le bb.1
  have S := Lib.hid (Sb.from hc hcm hr k (by omega))
  rw [hk] at KB hl ⊢
  rw [h] at D
  rw [Int.toNat_natCast]
  generalize decX b ver u s l t y c z = X at *
  have hcm' := hcm
  unfold maxLen at hcm'
  have x1 : (k : Int) ≤ (b.length : Int) := hl
  have x2 : (b.length : Int) ≤ (cc : Int) := by omega
  have x3 : (k : Int) ≤ (cc : Int) := by omega
  have x4 : (0 : Int) ≤ (k : Int) := by omega
  generalize b.length = m at *
  clear hr h hz r bb q hk hl
  unfold hv at D KB ⊢
  unfold DcF at D
  go_enter Tryz.func52, Tryz.ntmps52
  go_wp2_with fail
  refine D.out.mono ?_; rintro e w1 ⟨v1, rfl, k1, u1, f1⟩
  have H1 := Lib.hid (H0.out.up u1)
  have X1 := Lib.hid (X0.out.up u1)
  have F1 := Lib.hid (F0.out.up u1)
  have K1 := Lib.hid k1
  have G1 := Lib.hid f1
  have UU := Lib.hid (U0.out.trans u1)
  have sz1 : w.heap.size + 2 ≤ w1.heap.size := by have := u1.size; rw [Z0.out] at this; exact this
  clear u1 f1 H0 X0 F0 D
  obtain ⟨A0, a0, c0, A1, a1, c1, A2, a2, c2, A3, a3, c3, A4, a4, c4, rfl⟩ := k1.form
  clear k1
  go_wp2_with fail
  refine (R.out _).mono ?_; rintro e w2 ⟨rfl, rfl⟩
  go_wp2_with fail
  have Y1 := Lib.hid (Bx5.new w1 (.slice A0 a0 c0) (.slice A1 a1 c1) (.slice A2 a2 c2) (.slice A3 a3 c3) (.slice A4 a4 c4) 27)
  have u2 := Lib.hid (Up.alloc w1 (.cells #[.slice A0 a0 c0, .slice A1 a1 c1, .slice A2 a2 c2, .slice A3 a3 c3, .slice A4 a4 c4] 27))
  generalize (w1.alloc (.cells #[.slice A0 a0 c0, .slice A1 a1 c1, .slice A2 a2 c2, .slice A3 a3 c3, .slice A4 a4 c4] 27)) = V at *
  replace H1 := Lib.hid (H1.out.up u2.out)
  replace X1 := Lib.hid (X1.out.up u2.out)
  replace F1 := Lib.hid (F1.out.up u2.out)
  replace K1 := Lib.hid (K1.out.up u2.out)
  replace UU := Lib.hid (UU.out.trans u2.out)
  generalize hB : w1.heap.size = B at *
  clear u2 hB
  have C6 := Lib.hid (show HBox V w.heap.size ver u s l t y c ∧ Bx5 V B (.slice A0 a0 c0) (.slice A1 a1 c1) (.slice A2 a2 c2) (.slice A3 a3 c3) (.slice A4 a4 c4) ∧ Bx5 V (w.heap.size + 1) (.slice none 0 0) (.slice none 0 0) (.slice none 0 0) (.slice none 0 0) (.slice none 0 0) ∧ Free V (w.heap.size + 1) from ⟨H1.out, Y1.out, X1.out, F1.out⟩)
  obtain ⟨h0, h1, h2, h3, h4, h5, h6⟩ := H1.out
  obtain ⟨y0, y1, y2, y3, y4⟩ := Y1.out
  clear H1 Y1 X1 F1 R
  have nb : ¬ w.heap.size + 1 = B := by omega
  by_cases hca : cc = k
  · rw [if_pos hca, show m - k = 0 by omega, show cc - k = 0 by omega] at S
    subst hca
    go_region_with (go_at_call 59; refine (KB.out _).mono ?_; rintro e w9 ⟨rfl, u9⟩; have u8 : Hid (Up V w9) := Lib.hid ((Up.drewN V 1).trans u9); obtain ⟨⟨h0, h1, h2, h3, h4, h5, h6⟩, ⟨y0, y1, y2, y3, y4⟩, ⟨z0, z1, z2, z3, z4⟩, ⟨_, fz⟩⟩ := (show HBox w9 w.heap.size ver u s l t y c ∧ Bx5 w9 B (.slice A0 a0 c0) (.slice A1 a1 c1) (.slice A2 a2 c2) (.slice A3 a3 c3) (.slice A4 a4 c4) ∧ Bx5 w9 (w.heap.size + 1) (.slice none 0 0) (.slice none 0 0) (.slice none 0 0) (.slice none 0 0) (.slice none 0 0) ∧ Free w9 (w.heap.size + 1) from ⟨C6.out.1.up u8.out, C6.out.2.1.up u8.out, C6.out.2.2.1.up u8.out, C6.out.2.2.2.up u8.out⟩); have f0 := fz 0; have f1 := fz 1; have f2 := fz 2; have f3 := fz 3; have f4 := fz 4; clear fz u9)
    all_goals
      have BF := Lib.hid ((K1.out.up u8.out).gb (gb_five (w := w9) (V := w9) (b := w.heap.size + 1) ((Up.refl w9).gb _) (.slice A0 a0 c0) (.slice A1 a1 c1) (.slice A2 a2 c2) (.slice A3 a3 c3) (.slice A4 a4 c4)) G1.out (by rw [Z0.out]; omega))
      have UF := Lib.hid (gb_up (b := w.heap.size + 1) (UU.out.trans u8.out) (gb_five (w := w9) (V := w9) (b := w.heap.size + 1) ((Up.refl w9).gb _) (.slice A0 a0 c0) (.slice A1 a1 c1) (.slice A2 a2 c2) (.slice A3 a3 c3) (.slice A4 a4 c4)) (by omega))
      go_wp2_with fail
      refine bodyPost_ret (v := .tuple #[.agg #[.slice A0 a0 c0, .slice A1 a1 c1, .slice A2 a2 c2, .slice A3 a3 c3, .slice A4 a4 c4], .slice A 0 0]) (by simp [results, Tryz.results52, go_sem, z0, z1, z2, z3, z4]) rfl ?_
      exact ⟨_, _, rfl, BF.out, G1.out.base U0.out, S.out, UF.out⟩
  · rw [if_neg hca] at S
    obtain ⟨AK, hAK⟩ : ∃ AK, Option.map (fun x : Addr => x.add k) A = AK := ⟨_, rfl⟩
    rw [hAK] at S
    go_region_with (go_at_call 59; refine (KB.out _).mono ?_; rintro e w9 ⟨rfl, u9⟩; have u8 : Hid (Up V w9) := Lib.hid ((Up.drewN V 1).trans u9); obtain ⟨⟨h0, h1, h2, h3, h4, h5, h6⟩, ⟨y0, y1, y2, y3, y4⟩, ⟨z0, z1, z2, z3, z4⟩, ⟨_, fz⟩⟩ := (show HBox w9 w.heap.size ver u s l t y c ∧ Bx5 w9 B (.slice A0 a0 c0) (.slice A1 a1 c1) (.slice A2 a2 c2) (.slice A3 a3 c3) (.slice A4 a4 c4) ∧ Bx5 w9 (w.heap.size + 1) (.slice none 0 0) (.slice none 0 0) (.slice none 0 0) (.slice none 0 0) (.slice none 0 0) ∧ Free w9 (w.heap.size + 1) from ⟨C6.out.1.up u8.out, C6.out.2.1.up u8.out, C6.out.2.2.1.up u8.out, C6.out.2.2.2.up u8.out⟩); have f0 := fz 0; have f1 := fz 1; have f2 := fz 2; have f3 := fz 3; have f4 := fz 4; clear fz u9)
    all_goals
      have BF := Lib.hid ((K1.out.up u8.out).gb (gb_five (w := w9) (V := w9) (b := w.heap.size + 1) ((Up.refl w9).gb _) (.slice A0 a0 c0) (.slice A1 a1 c1) (.slice A2 a2 c2) (.slice A3 a3 c3) (.slice A4 a4 c4)) G1.out (by rw [Z0.out]; omega))
      have UF := Lib.hid (gb_up (b := w.heap.size + 1) (UU.out.trans u8.out) (gb_five (w := w9) (V := w9) (b := w.heap.size + 1) ((Up.refl w9).gb _) (.slice A0 a0 c0) (.slice A1 a1 c1) (.slice A2 a2 c2) (.slice A3 a3 c3) (.slice A4 a4 c4)) (by omega))
      go_wp2_with fail
      refine bodyPost_ret (v := .tuple #[.agg #[.slice A0 a0 c0, .slice A1 a1 c1, .slice A2 a2 c2, .slice A3 a3 c3, .slice A4 a4 c4], .slice AK (m - k) (cc - k)]) (by simp [results, Tryz.results52, go_sem, z0, z1, z2, z3, z4]) rfl ?_
      exact ⟨_, _, rfl, BF.out, G1.out.base U0.out, S.out, UF.out⟩

end Go.Proofs.YtaljddoenjgbfaaGreat
