/-
  The program's block: Decode's block lies in new memory (as XLcBkZ and XLcBkX say it, and that).
-/
import Derived.Test.YtaljddoenjgbfaaGreatLcMz
import Derived.Deep.Cut
namespace Go.Proofs.YtaljddoenjgbfaaGreat
open Go.ChangeShapes Go.WideShapes Go.ChangeAt Go.RowKit Lc

/-- Decode's answer, its block in new memory. -/
def DcF (w : World) (k : Int) (X : Blk) (e : Ending) (w' : World) : Prop := ∃ v, e = .returned (.tuple #[v, .int .i64 k]) ∧ BkR w' v X ∧ Up w w' ∧ BkF w v
set_option maxRecDepth 100000 in
set_option maxHeartbeats 4000000 in
theorem bdecodeF_arg (A : Option Addr) (n cc : Nat) (ver u s l t y c z : Int) (w : World) (h : zB z = false ∨ rightH ver u s l t y c = false) :
    Calls Tryz.prog 70 #[.slice A n cc, hv ver u s l t y c, .int .i64 z] w fun e w' => DcF w 1 bk0 e w' := by
  have R0 := fun w => rsize_any z w
  have R1 := Lib.hid (fun w => hright_any ver u s l t y c w)
  cases h0 : zB z
  · rw [h0] at R0
    clear h h0 R1
    go_enter Tryz.func70, Tryz.ntmps70
    go_wp2_with (go_at_call 29; refine (R0 _).mono ?_; rintro e w' ⟨rfl, rfl⟩)
    exact bodyPost_ret (v := .tuple #[bz, .int .i64 1]) (by simp [results, Tryz.results70, go_sem]) rfl ⟨_, rfl, bz_read _, (Up.alloc _ _).alloc' _, bz_new _⟩
  · rw [h0] at R0
    rw [h.resolve_left (by rw [h0]; decide)] at R1
    clear h h0
    go_enter Tryz.func70, Tryz.ntmps70
    go_wp2_with (go_at_call 29; refine (R0 _).mono ?_; rintro e w' ⟨rfl, rfl⟩)
    refine (R1.out _).mono ?_
    rintro e w1 ⟨rfl, u1⟩
    have U1 := Lib.hid (((Up.alloc w (.cells #[.int .i64 ver, .int .i64 u, .int .i64 s, .int .i64 l, .int .i64 t, .int .i64 y, .int .i64 c] 90)).alloc' (.cells #[.slice none 0 0, .slice none 0 0, .slice none 0 0, .slice none 0 0, .slice none 0 0] 27)).trans u1)
    have B0 := Bx5.new (w.alloc (.cells #[.int .i64 ver, .int .i64 u, .int .i64 s, .int .i64 l, .int .i64 t, .int .i64 y, .int .i64 c] 90)) (.slice none 0 0) (.slice none 0 0) (.slice none 0 0) (.slice none 0 0) (.slice none 0 0) 27
    have F0 := Free.new (w.alloc (.cells #[.int .i64 ver, .int .i64 u, .int .i64 s, .int .i64 l, .int .i64 t, .int .i64 y, .int .i64 c] 90)) #[.slice none 0 0, .slice none 0 0, .slice none 0 0, .slice none 0 0, .slice none 0 0] 27
    rw [World.size_alloc] at B0 F0
    obtain ⟨a0, a1, a2, a3, a4⟩ := B0.up u1
    obtain ⟨_, fz⟩ := F0.up u1
    have x0 := fz 0; have x1 := fz 1; have x2 := fz 2; have x3 := fz 3; have x4 := fz 4
    have UF := Lib.hid (gb_up (b := w.heap.size + 1) U1.out (gb_five (w := w1) (V := w1) (b := w.heap.size + 1) ((Up.refl w1).gb _) (.slice none 0 0) (.slice none 0 0) (.slice none 0 0) (.slice none 0 0) (.slice none 0 0)) (by omega))
    clear fz B0 F0 u1 R1 R0
    go_wp2_with fail
    exact bodyPost_ret (v := .tuple #[bz, .int .i64 1]) (by simp [results, Tryz.results70, go_sem, a0, a1, a2, a3, a4]) rfl ⟨_, rfl, bz_read _, UF.out, bz_new _⟩

set_option maxRecDepth 100000 in
set_option maxHeartbeats 4000000 in
theorem bdecodeF_short (A : Option Addr) (b : List UInt8) (cc : Nat) (ver : Int) (u s l t y c z : Nat) (hz : z = 4 ∨ z = 8) (w : World) (r : rightH ver u s l t y c = true) (hl : (b.length : Int) < bodyI u s l t y c z) :
    Calls Tryz.prog 70 #[.slice A b.length cc, hv ver u s l t y c, .int .i64 z] w fun e w' => DcF w 5 bk0 e w' := by
  have R0 := fun w => rsize_any (z : Int) w
  rw [show zB (z : Int) = true by unfold zB; simp; omega] at R0
  have R1 := Lib.hid (fun w => hright_any ver u s l t y c w)
  rw [r] at R1
  obtain ⟨q1, q2, q3, q4, q5, q6⟩ := right_nat r
  have R2 := Lib.hid (fun w => body_any ver u s l t y c z w (by omega) (by omega) (by omega) (by omega) (by omega) (by omega) (by omega))
  have bd := bodyI_bd r (z := z) (by omega)
  obtain ⟨bd0, bd1⟩ := bd
  generalize bodyI u s l t y c z = bo at *
  generalize b.length = n at *
  clear hz r
  go_enter Tryz.func70, Tryz.ntmps70
  go_wp2_with (go_at_call 29; refine (R0 _).mono ?_; rintro e w' ⟨rfl, rfl⟩)
  refine (R1.out _).mono ?_
  rintro e w1 ⟨rfl, u1⟩
  have U1 := Lib.hid (((Up.alloc w (.cells #[.int .i64 ver, .int .i64 u, .int .i64 s, .int .i64 l, .int .i64 t, .int .i64 y, .int .i64 c] 90)).alloc' (.cells #[.slice none 0 0, .slice none 0 0, .slice none 0 0, .slice none 0 0, .slice none 0 0] 27)).trans u1)
  have H0 := (HBox.new w ver u s l t y c 90).up ((Up.alloc _ (.cells #[.slice none 0 0, .slice none 0 0, .slice none 0 0, .slice none 0 0, .slice none 0 0] 27)).trans u1)
  have B0 := Bx5.new (w.alloc (.cells #[.int .i64 ver, .int .i64 u, .int .i64 s, .int .i64 l, .int .i64 t, .int .i64 y, .int .i64 c] 90)) (.slice none 0 0) (.slice none 0 0) (.slice none 0 0) (.slice none 0 0) (.slice none 0 0) 27
  have F0 := Free.new (w.alloc (.cells #[.int .i64 ver, .int .i64 u, .int .i64 s, .int .i64 l, .int .i64 t, .int .i64 y, .int .i64 c] 90)) #[.slice none 0 0, .slice none 0 0, .slice none 0 0, .slice none 0 0, .slice none 0 0] 27
  rw [World.size_alloc] at B0 F0
  have B1 := Lib.hid (B0.up u1)
  have F1 := Lib.hid (F0.up u1)
  clear B0 F0 u1 R1 R0
  obtain ⟨b0, b1, b2, b3, b4, b5, b6⟩ := H0
  go_wp2_with fail
  clear b0 b1 b2 b3 b4 b5 b6
  refine (R2.out _).mono ?_
  rintro e w2 ⟨rfl, u2⟩
  obtain ⟨a0, a1, a2, a3, a4⟩ := B1.out.up u2
  obtain ⟨_, fz⟩ := F1.out.up u2
  have x0 := fz 0; have x1 := fz 1; have x2 := fz 2; have x3 := fz 3; have x4 := fz 4
  have UF := Lib.hid (gb_up (b := w.heap.size + 1) (U1.out.trans u2) (gb_five (w := w2) (V := w2) (b := w.heap.size + 1) ((Up.refl w2).gb _) (.slice none 0 0) (.slice none 0 0) (.slice none 0 0) (.slice none 0 0) (.slice none 0 0)) (by omega))
  clear fz B1 F1 u2 R2
  go_wp2_with fail
  exact bodyPost_ret (v := .tuple #[bz, .int .i64 5]) (by simp [results, Tryz.results70, go_sem, a0, a1, a2, a3, a4]) rfl ⟨_, rfl, bz_read _, UF.out, bz_new _⟩

set_option maxRecDepth 100000 in
set_option maxHeartbeats 4000000 in
theorem bdecodeF_long (A : Option Addr) (b : List UInt8) (cc : Nat) (ver : Int) (u s l t y c z : Nat) (hz : z = 4 ∨ z = 8) (w : World) (hcm : cc ≤ maxLen) (hc : b.length ≤ cc) (r : rightH ver u s l t y c = true) (hl : bodyI u s l t y c z ≤ (b.length : Int)) (hr : Rd w A b) :
    Calls Tryz.prog 70 #[.slice A b.length cc, hv ver u s l t y c, .int .i64 z] w fun e w' => DcF w (if dOk b u s l t y c z = true ∧ rightB (dBk b u s l t y c z) z ver = true then 0 else 4) (if dOk b u s l t y c z = true ∧ rightB (dBk b u s l t y c z) z ver = true then dBk b u s l t y c z else bk0) e w' := by
  have R0 := fun w => rsize_any (z : Int) w
  rw [show zB (z : Int) = true by unfold zB; simp; omega] at R0
  have R1 := Lib.hid (fun w => hright_any ver u s l t y c w)
  rw [r] at R1
  obtain ⟨q1, q2, q3, q4, q5, q6⟩ := right_nat r
  have R2 := Lib.hid (fun w => body_any ver u s l t y c z w (by omega) (by omega) (by omega) (by omega) (by omega) (by omega) (by omega))
  have hbl : t * z + t + y * 6 + c + l * (z + 4) + s + u ≤ b.length := by rw [body_nat] at hl; omega
  have R3 := Lib.hid (fun w1 (q : Up w w1) => split_any (.slice A b.length cc) b ver u s l t y c z hz w1 q1 q2 q3 q4 q5 q6 hbl ⟨A, cc, rfl, hc, hcm, hr.up q⟩)
  have R4 := Lib.hid (fun w1 v0 v1 v2 v3 v4 v5 v6 h0 h1 h2 h3 h4 h5 h6 => read_any v0 v1 v2 v3 v4 v5 v6 (pMo b t z) (pJu b t z) (pKi b t y z) (pNa b t y c z) (pLe b t y c l z) (pSd b t y c l s z) (pUt b t y c l s u z) ver u s l t y c z hz w1 q1 q2 q3 q4 q5
    (by unfold pMo; rw [slcB_len (by omega)]; exact Nat.le_refl _) (by unfold pJu; rw [slcB_len (by omega)]; exact Nat.le_refl _) (by unfold pKi; rw [slcB_len (by omega)]; exact Nat.le_refl _) (by unfold pLe; rw [slcB_len (by omega)]; exact Nat.le_refl _) (by unfold pSd; rw [slcB_len (by omega)]; exact Nat.le_refl _) (by unfold pUt; rw [slcB_len (by omega)]; exact Nat.le_refl _) h0 h1 h2 h3 h4 h5 h6)
  have e1 : rOk (pKi b t y z) (pNa b t y c z) (pSd b t y c l s z) (pUt b t y c l s u z) y s u = dOk b u s l t y c z := rfl
  have e2 : rBk (pMo b t z) (pJu b t z) (pKi b t y z) (pNa b t y c z) (pLe b t y c l z) (pSd b t y c l s z) (pUt b t y c l s u z) u s l t y z = dBk b u s l t y c z := rfl
  rw [e1, e2] at R4
  have R5 := Lib.hid (fun w1 v h => bright_any v (dBk b u s l t y c z) z ver w1 h)
  clear e1 e2
  have bd := bodyI_bd r (z := z) (by omega)
  obtain ⟨bd0, bd1⟩ := bd
  generalize bodyI u s l t y c z = bo at *
  generalize dBk b u s l t y c z = X at *
  generalize dOk b u s l t y c z = ok at *
  generalize rightB X z ver = ri at *
  generalize pMo b t z = p0 at *
  generalize pJu b t z = p1 at *
  generalize pKi b t y z = p2 at *
  generalize pNa b t y c z = p3 at *
  generalize pLe b t y c l z = p4 at *
  generalize pSd b t y c l s z = p5 at *
  generalize pUt b t y c l s u z = p6 at *
  unfold maxLen at hcm
  generalize b.length = n at *
  clear r hr hbl hz
  obtain ⟨EE, hEE⟩ : ∃ E : Int, (if ok = true ∧ ri = true then (0 : Int) else 4) = E := ⟨_, rfl⟩
  obtain ⟨XX, hXX⟩ : ∃ Y : Blk, (if ok = true ∧ ri = true then X else bk0) = Y := ⟨_, rfl⟩
  rw [hEE, hXX]
  have HE := Lib.hid hEE
  have HX := Lib.hid hXX
  clear hEE hXX
  go_enter Tryz.func70, Tryz.ntmps70
  go_wp2_with (go_at_call 29; refine (R0 _).mono ?_; rintro e w' ⟨rfl, rfl⟩)
  refine (R1.out _).mono ?_
  rintro e w1 ⟨rfl, u1⟩
  have U1 := Lib.hid (((Up.alloc w (.cells #[.int .i64 ver, .int .i64 u, .int .i64 s, .int .i64 l, .int .i64 t, .int .i64 y, .int .i64 c] 90)).alloc' (.cells #[.slice none 0 0, .slice none 0 0, .slice none 0 0, .slice none 0 0, .slice none 0 0] 27)).trans u1)
  have H1 := Lib.hid ((HBox.new w ver u s l t y c 90).up ((Up.alloc _ (.cells #[.slice none 0 0, .slice none 0 0, .slice none 0 0, .slice none 0 0, .slice none 0 0] 27)).trans u1))
  have B0 := Bx5.new (w.alloc (.cells #[.int .i64 ver, .int .i64 u, .int .i64 s, .int .i64 l, .int .i64 t, .int .i64 y, .int .i64 c] 90)) (.slice none 0 0) (.slice none 0 0) (.slice none 0 0) (.slice none 0 0) (.slice none 0 0) 27
  have F0 := Free.new (w.alloc (.cells #[.int .i64 ver, .int .i64 u, .int .i64 s, .int .i64 l, .int .i64 t, .int .i64 y, .int .i64 c] 90)) #[.slice none 0 0, .slice none 0 0, .slice none 0 0, .slice none 0 0, .slice none 0 0] 27
  rw [World.size_alloc] at B0 F0
  have B1 := Lib.hid (B0.up u1)
  have F1 := Lib.hid (F0.up u1)
  clear B0 F0 u1 R1 R0
  obtain ⟨b0, b1, b2, b3, b4, b5, b6⟩ := H1.out
  go_wp2_with fail
  clear b0 b1 b2 b3 b4 b5 b6
  refine (R2.out _).mono ?_
  rintro e w2 ⟨rfl, u2⟩
  have U2 := Lib.hid (U1.out.trans u2)
  have H2 := Lib.hid (H1.out.up u2)
  have B2 := Lib.hid (B1.out.up u2)
  have F2 := Lib.hid (F1.out.up u2)
  clear u2 R2 U1 H1 B1 F1
  go_wp2_with fail
  have lt2 : w.heap.size + 1 < w2.heap.size := F2.out.1
  obtain ⟨Y, hY⟩ : ∃ Y : Blk, (if ok = true then X else bk0) = Y := ⟨_, rfl⟩
  have R6 : Hid (∀ w1 v0 v1 v2 v3 v4 v5 v6, Sb7 w1 v0 v1 v2 v3 v4 v5 v6 p0 p1 p2 p3 p4 p5 p6 → Calls Tryz.prog 89 #[.agg #[v0, v1, v2, v3, v4, v5, v6], hv ver u s l t y c, .int .i64 z] w1 fun e w' => ∃ v, e = .returned (.tuple #[v, .bool ok]) ∧ BkR w' v Y ∧ BkF w1 v ∧ Up w1 w') := Lib.hid (fun w1 v0 v1 v2 v3 v4 v5 v6 ⟨h0, h1, h2, h3, h4, h5, h6⟩ => by
    refine (R4.out w1 v0 v1 v2 v3 v4 v5 v6 h0 h1 h2 h3 h4 h5 h6).mono ?_
    rintro e w' ⟨v, he, hb, hf, hu⟩
    rw [hY] at hb
    exact ⟨v, he, hb, hf, hu⟩)
  have HY := Lib.hid hY
  clear hY R4
  have KS : Hid (∀ V, Up w2 V → V.cell? ⟨w.heap.size, 0, none⟩ = some (.int .i64 ver) ∧ V.cell? ⟨w.heap.size, 1, none⟩ = some (.int .i64 u) ∧ V.cell? ⟨w.heap.size, 2, none⟩ = some (.int .i64 s) ∧ V.cell? ⟨w.heap.size, 3, none⟩ = some (.int .i64 l) ∧ V.cell? ⟨w.heap.size, 4, none⟩ = some (.int .i64 t) ∧ V.cell? ⟨w.heap.size, 5, none⟩ = some (.int .i64 y) ∧ V.cell? ⟨w.heap.size, 6, none⟩ = some (.int .i64 c)) := Lib.hid (fun V q => H2.out.up q)
  go_cut [8, 9] from 26 (fun s8 s9 wc => DcR w2 ok Y s8 s9 wc)
  case first =>
    have UU : Hid (Up w2 w2.drew) := Lib.hid (Up.drewN w2 1)
    go_region_held (fun V => V.cell? ⟨w.heap.size, 0, none⟩ = some (.int .i64 ver) ∧ V.cell? ⟨w.heap.size, 1, none⟩ = some (.int .i64 u) ∧ V.cell? ⟨w.heap.size, 2, none⟩ = some (.int .i64 s) ∧ V.cell? ⟨w.heap.size, 3, none⟩ = some (.int .i64 l) ∧ V.cell? ⟨w.heap.size, 4, none⟩ = some (.int .i64 t) ∧ V.cell? ⟨w.heap.size, 5, none⟩ = some (.int .i64 y) ∧ V.cell? ⟨w.heap.size, 6, none⟩ = some (.int .i64 c))
        (first | exact KS.out _ UU.out | exact KS.out _ (UU.out.alloc' _) | exact KS.out _ (UU.out.five (by omega) _ _ _ _ _))
        (first | (go_at_call 90; (with_reducible refine (R3.out _ (U2.out.trans UU.out)).mono ?_); rintro e w3 ⟨v0, v1, v2, v3, v4, v5, v6, rfl, h0, h1, h2, h3, h4, h5, h6, u3⟩; have HH : Hid (Sb7 w3 v0 v1 v2 v3 v4 v5 v6 p0 p1 p2 p3 p4 p5 p6) := Lib.hid ⟨h0.up u3, h1.up u3, h2.up u3, h3.up u3, h4.up u3, h5.up u3, h6.up u3⟩; replace UU := Lib.hid (UU.out.trans u3); have sz3 := UU.out.size; clear h0 h1 h2 h3 h4 h5 h6 u3) | (go_at_call 90; replace UU := Lib.hid (UU.out.alloc' (.cells #[.slice none 0 0, .slice none 0 0, .slice none 0 0, .slice none 0 0, .slice none 0 0] 27)); refine (R3.out _ (U2.out.trans UU.out)).mono ?_; rintro e w3 ⟨v0, v1, v2, v3, v4, v5, v6, rfl, h0, h1, h2, h3, h4, h5, h6, u3⟩; have HH : Hid (Sb7 w3 v0 v1 v2 v3 v4 v5 v6 p0 p1 p2 p3 p4 p5 p6) := Lib.hid ⟨h0.up u3, h1.up u3, h2.up u3, h3.up u3, h4.up u3, h5.up u3, h6.up u3⟩; have BX8 : Hid (Bx5 w3 w2.heap.size (.slice none 0 0) (.slice none 0 0) (.slice none 0 0) (.slice none 0 0) (.slice none 0 0)) := Lib.hid ((Bx5.new w2.drew (.slice none 0 0) (.slice none 0 0) (.slice none 0 0) (.slice none 0 0) (.slice none 0 0) 27).up u3); have FX8 : Hid (Free w3 w2.heap.size) := Lib.hid ((Free.new w2.drew #[.slice none 0 0, .slice none 0 0, .slice none 0 0, .slice none 0 0, .slice none 0 0] 27).up u3); replace UU := Lib.hid (UU.out.trans u3); have sz3 := UU.out.size; clear h0 h1 h2 h3 h4 h5 h6 u3) | (go_at_call 89; (refine (R6.out w3 _ _ _ _ _ _ _ HH.out).mono ?_); rintro e w4 ⟨v, rfl, hb4, hf4', u4⟩; have HB4 := Lib.hid hb4; have HF4 := Lib.hid hf4'; have HG4 := Lib.hid (hf4'.base UU.out); obtain ⟨A0, n0, c0, A1, n1, c1, A2, n2, c2, A3, n3, c3, A4, n4, c4, rfl⟩ := hb4.form; (try (have BX9 := Lib.hid (BX8.out.up u4); have FX9 := Lib.hid (FX8.out.up u4); obtain ⟨y0, y1, y2, y3, y4⟩ := BX9.out; obtain ⟨_, fy⟩ := FX9.out; have yz0 := fy 0; have yz1 := fy 1; have yz2 := fy 2; have yz3 := fy 3; have yz4 := fy 4; clear fy)); replace UU := Lib.hid (UU.out.trans u4); have sz4 := UU.out.size; clear hb4 hf4' u4) | (go_at_call 89; replace UU := Lib.hid (UU.out.alloc' (.cells #[.slice none 0 0, .slice none 0 0, .slice none 0 0, .slice none 0 0, .slice none 0 0] 27)); replace HH := Lib.hid (HH.out.up (Up.alloc w3 (.cells #[.slice none 0 0, .slice none 0 0, .slice none 0 0, .slice none 0 0, .slice none 0 0] 27))); refine (R6.out _ _ _ _ _ _ _ _ HH.out).mono ?_; rintro e w4 ⟨v, rfl, hb4, hf4', u4⟩; have HB4 := Lib.hid hb4; have HF4 := Lib.hid hf4'; have HG4 := Lib.hid (hf4'.base UU.out); obtain ⟨A0, n0, c0, A1, n1, c1, A2, n2, c2, A3, n3, c3, A4, n4, c4, rfl⟩ := hb4.form; have BX9 := Lib.hid ((Bx5.new w3 (.slice none 0 0) (.slice none 0 0) (.slice none 0 0) (.slice none 0 0) (.slice none 0 0) 27).up u4); have FX9 := Lib.hid ((Free.new w3 #[.slice none 0 0, .slice none 0 0, .slice none 0 0, .slice none 0 0, .slice none 0 0] 27).up u4); obtain ⟨y0, y1, y2, y3, y4⟩ := BX9.out; obtain ⟨_, fy⟩ := FX9.out; have yz0 := fy 0; have yz1 := fy 1; have yz2 := fy 2; have yz3 := fy 3; have yz4 := fy 4; clear fy; replace UU := Lib.hid (UU.out.trans u4); have sz4 := UU.out.size; clear hb4 hf4' u4))
    · go_wp2_with fail
      go_meet
      case rel => exact ⟨w4.heap.size, _, _, _, _, _, rfl, rfl, sz4, UU.out.alloc' _, Bx5.new w4 _ _ _ _ _ _, HB4.out.up (Up.alloc _ _), HG4.out⟩
    · go_wp2_with fail
      go_meet
      case rel => exact ⟨w3.heap.size, _, _, _, _, _, rfl, rfl, sz3, UU.out.five sz3 _ _ _ _ _, BX9.out.five _ _ _ _ _, HB4.out.gb (gb_five ((Up.refl w4).gb _) _ _ _ _ _) HF4.out (by simp), HG4.out⟩
    · go_wp2_with fail
      go_meet
      case rel => exact ⟨w2.heap.size, _, _, _, _, _, rfl, rfl, Nat.le_refl _, UU.out.five (Nat.le_refl _) _ _ _ _ _, BX9.out.five _ _ _ _ _, HB4.out.gb (gb_five ((Up.refl w4).gb _) _ _ _ _ _) HF4.out FX8.out.1, HG4.out⟩
  case rest =>
    obtain ⟨B, s0, s1, s2, s3, s4, rfl, rfl, hB, hU, hX, hBk, hFr⟩ := hcut
    have UC := Lib.hid hU
    have HXX := Lib.hid hX
    have HBK := Lib.hid hBk
    have HFR := Lib.hid hFr
    have H3 := Lib.hid (H2.out.up hU)
    have B3 := Lib.hid (B2.out.up hU)
    have F3 := Lib.hid (F2.out.up hU)
    have lt3 : w.heap.size + 1 < wc.heap.size := F3.out.1
    clear hU hX hBk hFr R3 R6 KS H2 B2 F2
    cases ok
    · have e1 : EE = 4 := by rw [← HE.out]; rfl
      have e2 : XX = bk0 := by rw [← HX.out]; rfl
      have UF := Lib.hid (gb_up (b := w.heap.size + 1) (U2.out.trans UC.out) (gb_five (w := wc) (V := wc) (b := w.heap.size + 1) ((Up.refl wc).gb _) (.slice none 0 0) (.slice none 0 0) (.slice none 0 0) (.slice none 0 0) (.slice none 0 0)) (by omega))
      obtain ⟨a0, a1, a2, a3, a4⟩ := B3.out
      obtain ⟨_, fz⟩ := F3.out
      have x0 := fz 0; have x1 := fz 1; have x2 := fz 2; have x3 := fz 3; have x4 := fz 4
      clear fz
      go_wp2_with fail
      exact bodyPost_ret (v := .tuple #[bz, .int .i64 4]) (by simp [results, Tryz.results70, go_sem, a0, a1, a2, a3, a4]) rfl ⟨_, by rw [e1], by rw [e2]; exact bz_read _, UF.out, bz_new _⟩
    · have eY : Y = X := by rw [← HY.out]; rfl
      rw [eY] at HBK
      clear eY
      obtain ⟨a0, a1, a2, a3, a4⟩ := HXX.out
      obtain ⟨b0, b1, b2, b3, b4, b5, b6⟩ := H3.out
      go_wp2_with fail
      clear a0 a1 a2 a3 a4 b0 b1 b2 b3 b4 b5 b6
      refine (R5.out _ _ HBK.out).mono ?_
      rintro e w6 ⟨rfl, u6⟩
      obtain ⟨a0, a1, a2, a3, a4⟩ := B3.out.up u6
      obtain ⟨_, fz⟩ := F3.out.up u6
      have x0 := fz 0; have x1 := fz 1; have x2 := fz 2; have x3 := fz 3; have x4 := fz 4
      clear fz
      cases ri
      · have e1 : EE = 4 := by rw [← HE.out]; rfl
        have e2 : XX = bk0 := by rw [← HX.out]; rfl
        have UF := Lib.hid (gb_up (b := w.heap.size + 1) ((U2.out.trans UC.out).trans u6) (gb_five (w := w6) (V := w6) (b := w.heap.size + 1) ((Up.refl w6).gb _) (.slice none 0 0) (.slice none 0 0) (.slice none 0 0) (.slice none 0 0) (.slice none 0 0)) (by omega))
        clear u6
        go_wp2_with fail
        exact bodyPost_ret (v := .tuple #[bz, .int .i64 4]) (by simp [results, Tryz.results70, go_sem, a0, a1, a2, a3, a4]) rfl ⟨_, by rw [e1], by rw [e2]; exact bz_read _, UF.out, bz_new _⟩
      · have e1 : EE = 0 := by rw [← HE.out]; rfl
        have e2 : XX = X := by rw [← HX.out]; rfl
        obtain ⟨A0, n0, c0, A1, n1, c1, A2, n2, c2, A3, n3, c3, A4, n4, c4, hv5⟩ := HBK.out.form
        simp only [Value.agg.injEq, Array.mk.injEq, List.cons.injEq, and_true] at hv5
        obtain ⟨rfl, rfl, rfl, rfl, rfl⟩ := hv5
        have UF := Lib.hid (gb_up (b := w.heap.size + 1) ((U2.out.trans UC.out).trans u6) (gb_five (w := w6) (V := w6) (b := w.heap.size + 1) ((Up.refl w6).gb _) (.slice A0 n0 c0) (.slice A1 n1 c1) (.slice A2 n2 c2) (.slice A3 n3 c3) (.slice A4 n4 c4)) (by omega))
        have BF := Lib.hid ((HBK.out.up u6).gb (gb_five (w := w6) (V := w6) (b := w.heap.size + 1) ((Up.refl w6).gb _) (.slice A0 n0 c0) (.slice A1 n1 c1) (.slice A2 n2 c2) (.slice A3 n3 c3) (.slice A4 n4 c4)) HFR.out lt2)
        obtain ⟨y0, y1, y2, y3, y4⟩ := HXX.out.up u6
        have nb : ¬ w.heap.size + 1 = B := by omega
        have nb2 : ¬ B = w.heap.size + 1 := by omega
        clear u6
        go_wp2_with fail
        exact bodyPost_ret (v := .tuple #[.agg #[.slice A0 n0 c0, .slice A1 n1 c1, .slice A2 n2 c2, .slice A3 n3 c3, .slice A4 n4 c4], .int .i64 0]) (by simp [results, Tryz.results70, go_sem, a0, a1, a2, a3, a4]) rfl ⟨_, by rw [e1], by rw [e2]; exact BF.out, UF.out, HFR.out.base U2.out⟩
set_option maxRecDepth 100000 in
/-- Bytes as a block: whatever they are. -/
theorem bdecodeF_any (A : Option Addr) (b : List UInt8) (cc : Nat) (ver u s l t y c z : Int) (w : World) (hcm : cc ≤ maxLen) (hc : b.length ≤ cc) (hr : Rd w A b) :
    Calls Tryz.prog 70 #[.slice A b.length cc, hv ver u s l t y c, .int .i64 z] w fun e w' => DcF w (decE b ver u s l t y c z) (decX b ver u s l t y c z) e w' := by
  by_cases h : zB z = false ∨ rightH ver u s l t y c = false
  · have E : decE b ver u s l t y c z = 1 := by unfold decE; rw [if_pos h]
    have X : decX b ver u s l t y c z = bk0 := by unfold decX; rw [E]; rfl
    rw [E, X]
    exact bdecodeF_arg A b.length cc ver u s l t y c z w h
  · have h' := h
    rw [not_or] at h
    have hz : z = 4 ∨ z = 8 := by have := h.1; unfold zB at this; simp at this; omega
    have r : rightH ver u s l t y c = true := by simpa using h.2
    have q := rightH_true.1 r
    obtain ⟨z, rfl⟩ := Int.eq_ofNat_of_zero_le (a := z) (by omega)
    obtain ⟨u, rfl⟩ := Int.eq_ofNat_of_zero_le (a := u) (by omega)
    obtain ⟨s, rfl⟩ := Int.eq_ofNat_of_zero_le (a := s) (by omega)
    obtain ⟨l, rfl⟩ := Int.eq_ofNat_of_zero_le (a := l) (by omega)
    obtain ⟨t, rfl⟩ := Int.eq_ofNat_of_zero_le (a := t) (by omega)
    obtain ⟨y, rfl⟩ := Int.eq_ofNat_of_zero_le (a := y) (by omega)
    obtain ⟨c, rfl⟩ := Int.eq_ofNat_of_zero_le (a := c) (by omega)
    have hz' : z = 4 ∨ z = 8 := by omega
    by_cases hl : (b.length : Int) < bodyI u s l t y c z
    · have E : decE b ver u s l t y c z = 5 := by unfold decE; rw [if_neg h', if_pos hl]
      have X : decX b ver u s l t y c z = bk0 := by unfold decX; rw [E]; rfl
      rw [E, X]
      exact bdecodeF_short A b cc ver u s l t y c z hz' w r hl
    · have E : decE b ver u s l t y c z = if dOk b u s l t y c z = true ∧ rightB (dBk b u s l t y c z) z ver = true then 0 else 4 := by
        unfold decE; rw [if_neg h', if_neg hl]; simp only [Int.toNat_natCast]
      have X : decX b ver u s l t y c z = if dOk b u s l t y c z = true ∧ rightB (dBk b u s l t y c z) z ver = true then dBk b u s l t y c z else bk0 := by
        unfold decX; rw [E]; simp only [Int.toNat_natCast]
        by_cases hh : dOk b u s l t y c z = true ∧ rightB (dBk b u s l t y c z) z ver = true
        · rw [if_pos hh, if_pos hh]; rfl
        · rw [if_neg hh, if_neg hh]; rfl
      rw [E, X]
      exact bdecodeF_long A b cc ver u s l t y c z hz' w hcm hc r (by omega) hr
end Go.Proofs.YtaljddoenjgbfaaGreat
