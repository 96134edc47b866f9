/-
  The program's block: Decode.
-/
import Derived.Test.YtaljddoenjgbfaaGreatLcBkQ
import Derived.Deep.Cut
namespace Go.Proofs.YtaljddoenjgbfaaGreat
open Go.ChangeShapes Go.WideShapes Go.ChangeAt Go.RowKit Lc

/-- What reading bytes as a block tells: 0, or the error. -/
def decE (b : List UInt8) (ver : Int) (u s l t y c : Int) (z : Int) : Int :=
  if zB z = false ∨ rightH ver u s l t y c = false then 1
  else if (b.length : Int) < bodyI u s l t y c z then 5
  else if dOk b u.toNat s.toNat l.toNat t.toNat y.toNat c.toNat z.toNat = true ∧ rightB (dBk b u.toNat s.toNat l.toNat t.toNat y.toNat c.toNat z.toNat) z ver = true then 0 else 4
/-- The block that is read, or none. -/
def decX (b : List UInt8) (ver : Int) (u s l t y c : Int) (z : Int) : Blk :=
  if decE b ver u s l t y c z = 0 then dBk b u.toNat s.toNat l.toNat t.toNat y.toNat c.toNat z.toNat else bk0
/-- Decode's answer. -/
def DcP (w : World) (k : Int) (X : Blk) (e : Ending) (w' : World) : Prop := ∃ v, e = .returned (.tuple #[v, .int .i64 k]) ∧ BkR w' v X ∧ Up w w'

set_option maxRecDepth 100000 in
set_option maxHeartbeats 4000000 in
theorem bdecode_arg (A : Option Addr) (n cc : Nat) (ver u s l t y c z : Int) (w : World) (h : zB z = false ∨ rightH ver u s l t y c = false) :
    Calls Tryz.prog 70 #[.slice A n cc, hv ver u s l t y c, .int .i64 z] w fun e w' => DcP w 1 bk0 e w' := by
  have R0 := fun w => rsize_any z w
  have R1 := Lib.hid (fun w => hright_any ver u s l t y c w)
  cases h0 : zB z
  · rw [h0] at R0
    clear h h0 R1
    go_enter Tryz.func70, Tryz.ntmps70
    go_wp2_with (go_at_call 29; refine (R0 _).mono ?_; rintro e w' ⟨rfl, rfl⟩)
    exact bodyPost_ret (v := .tuple #[bz, .int .i64 1]) (by simp [results, Tryz.results70, go_sem]) rfl ⟨_, rfl, bz_read _, (Up.alloc _ _).alloc' _⟩
  · rw [h0] at R0
    rw [h.resolve_left (by rw [h0]; decide)] at R1
    clear h h0
    go_enter Tryz.func70, Tryz.ntmps70
    go_wp2_with (go_at_call 29; refine (R0 _).mono ?_; rintro e w' ⟨rfl, rfl⟩)
    refine (R1.out _).mono ?_
    rintro e w1 ⟨rfl, u1⟩
    have U1 := Lib.hid (((Up.alloc w (.cells #[.int .i64 ver, .int .i64 u, .int .i64 s, .int .i64 l, .int .i64 t, .int .i64 y, .int .i64 c] 90)).alloc' (.cells #[.slice none 0 0, .slice none 0 0, .slice none 0 0, .slice none 0 0, .slice none 0 0] 27)).trans u1)
    have B0 := Bx5.new (w.alloc (.cells #[.int .i64 ver, .int .i64 u, .int .i64 s, .int .i64 l, .int .i64 t, .int .i64 y, .int .i64 c] 90)) (.slice none 0 0) (.slice none 0 0) (.slice none 0 0) (.slice none 0 0) (.slice none 0 0) 27
    have F0 := Free.new (w.alloc (.cells #[.int .i64 ver, .int .i64 u, .int .i64 s, .int .i64 l, .int .i64 t, .int .i64 y, .int .i64 c] 90)) #[.slice none 0 0, .slice none 0 0, .slice none 0 0, .slice none 0 0, .slice none 0 0] 27
    rw [World.size_alloc] at B0 F0
    obtain ⟨a0, a1, a2, a3, a4⟩ := B0.up u1
    obtain ⟨_, fz⟩ := F0.up u1
    have x0 := fz 0; have x1 := fz 1; have x2 := fz 2; have x3 := fz 3; have x4 := fz 4
    have UF := Lib.hid (gb_up (b := w.heap.size + 1) U1.out (gb_five (w := w1) (V := w1) (b := w.heap.size + 1) ((Up.refl w1).gb _) (.slice none 0 0) (.slice none 0 0) (.slice none 0 0) (.slice none 0 0) (.slice none 0 0)) (by omega))
    clear fz B0 F0 u1 R1 R0
    go_wp2_with fail
    exact bodyPost_ret (v := .tuple #[bz, .int .i64 1]) (by simp [results, Tryz.results70, go_sem, a0, a1, a2, a3, a4]) rfl ⟨_, rfl, bz_read _, UF.out⟩

set_option maxRecDepth 100000 in
theorem right_nat {ver : Int} {u s l t y c : Nat} (r : rightH ver u s l t y c = true) : u ≤ 256 ∧ s ≤ 256 ∧ l ≤ 5000 ∧ t ≤ 5000 ∧ y ≤ 256 ∧ c ≤ 256 := by
  have := rightH_true.1 r; omega
set_option maxRecDepth 100000 in
theorem body_nat (u s l t y c z : Nat) : bodyI u s l t y c z = ((t * z + t + y * 6 + c + l * (z + 4) + s + u : Nat) : Int) := by
  unfold bodyI
  simp only [Int.natCast_add, Int.natCast_mul, Int.mul_add]
  omega

set_option maxRecDepth 100000 in
set_option maxHeartbeats 4000000 in
theorem bdecode_short (A : Option Addr) (b : List UInt8) (cc : Nat) (ver : Int) (u s l t y c z : Nat) (hz : z = 4 ∨ z = 8) (w : World) (r : rightH ver u s l t y c = true) (hl : (b.length : Int) < bodyI u s l t y c z) :
    Calls Tryz.prog 70 #[.slice A b.length cc, hv ver u s l t y c, .int .i64 z] w fun e w' => DcP w 5 bk0 e w' := by
  have R0 := fun w => rsize_any (z : Int) w
  rw [show zB (z : Int) = true by unfold zB; simp; omega] at R0
  have R1 := Lib.hid (fun w => hright_any ver u s l t y c w)
  rw [r] at R1
  obtain ⟨q1, q2, q3, q4, q5, q6⟩ := right_nat r
  have R2 := Lib.hid (fun w => body_any ver u s l t y c z w (by omega) (by omega) (by omega) (by omega) (by omega) (by omega) (by omega))
  have bd := bodyI_bd r (z := z) (by omega)
  obtain ⟨bd0, bd1⟩ := bd
  generalize bodyI u s l t y c z = bo at *
  generalize b.length = n at *
  clear hz r
  go_enter Tryz.func70, Tryz.ntmps70
  go_wp2_with (go_at_call 29; refine (R0 _).mono ?_; rintro e w' ⟨rfl, rfl⟩)
  refine (R1.out _).mono ?_
  rintro e w1 ⟨rfl, u1⟩
  have U1 := Lib.hid (((Up.alloc w (.cells #[.int .i64 ver, .int .i64 u, .int .i64 s, .int .i64 l, .int .i64 t, .int .i64 y, .int .i64 c] 90)).alloc' (.cells #[.slice none 0 0, .slice none 0 0, .slice none 0 0, .slice none 0 0, .slice none 0 0] 27)).trans u1)
  have H0 := (HBox.new w ver u s l t y c 90).up ((Up.alloc _ (.cells #[.slice none 0 0, .slice none 0 0, .slice none 0 0, .slice none 0 0, .slice none 0 0] 27)).trans u1)
  have B0 := Bx5.new (w.alloc (.cells #[.int .i64 ver, .int .i64 u, .int .i64 s, .int .i64 l, .int .i64 t, .int .i64 y, .int .i64 c] 90)) (.slice none 0 0) (.slice none 0 0) (.slice none 0 0) (.slice none 0 0) (.slice none 0 0) 27
  have F0 := Free.new (w.alloc (.cells #[.int .i64 ver, .int .i64 u, .int .i64 s, .int .i64 l, .int .i64 t, .int .i64 y, .int .i64 c] 90)) #[.slice none 0 0, .slice none 0 0, .slice none 0 0, .slice none 0 0, .slice none 0 0] 27
  rw [World.size_alloc] at B0 F0
  have B1 := Lib.hid (B0.up u1)
  have F1 := Lib.hid (F0.up u1)
  clear B0 F0 u1 R1 R0
  obtain ⟨b0, b1, b2, b3, b4, b5, b6⟩ := H0
  go_wp2_with fail
  clear b0 b1 b2 b3 b4 b5 b6
  refine (R2.out _).mono ?_
  rintro e w2 ⟨rfl, u2⟩
  obtain ⟨a0, a1, a2, a3, a4⟩ := B1.out.up u2
  obtain ⟨_, fz⟩ := F1.out.up u2
  have x0 := fz 0; have x1 := fz 1; have x2 := fz 2; have x3 := fz 3; have x4 := fz 4
  have UF := Lib.hid (gb_up (b := w.heap.size + 1) (U1.out.trans u2) (gb_five (w := w2) (V := w2) (b := w.heap.size + 1) ((Up.refl w2).gb _) (.slice none 0 0) (.slice none 0 0) (.slice none 0 0) (.slice none 0 0) (.slice none 0 0)) (by omega))
  clear fz B1 F1 u2 R2
  go_wp2_with fail
  exact bodyPost_ret (v := .tuple #[bz, .int .i64 5]) (by simp [results, Tryz.results70, go_sem, a0, a1, a2, a3, a4]) rfl ⟨_, rfl, bz_read _, UF.out⟩

/-- Behind the reading: slot 8 holds a box with the block, slot 9 whether there is one. -/
def DcR (w2 : World) (ok : Bool) (Y : Blk) (s8 s9 : Value) (wc : World) : Prop := ∃ B a b c d e, s8 = .pointer (some ⟨B, 0, none⟩) ∧ s9 = .bool ok ∧ w2.heap.size ≤ B ∧ Up w2 wc ∧ Bx5 wc B a b c d e ∧ BkR wc (.agg #[a, b, c, d, e]) Y ∧ BkF w2 (.agg #[a, b, c, d, e])
set_option maxRecDepth 100000 in
theorem Up.five {w w' : World} (u : Up w w') {b : Nat} (hb : w.heap.size ≤ b) (v0 v1 v2 v3 v4 : Value) : Up w (five w' b v0 v1 v2 v3 v4) :=
  ((((u.setCell' (p := ⟨b, 0, none⟩) hb v0).setCell' (p := ⟨b, 1, none⟩) hb v1).setCell' (p := ⟨b, 2, none⟩) hb v2).setCell' (p := ⟨b, 3, none⟩) hb v3).setCell' (p := ⟨b, 4, none⟩) hb v4
/-- Seven slices of bytes. -/
def Sb7 (w : World) (v0 v1 v2 v3 v4 v5 v6 : Value) (p0 p1 p2 p3 p4 p5 p6 : List UInt8) : Prop := Sb w v0 p0 ∧ Sb w v1 p1 ∧ Sb w v2 p2 ∧ Sb w v3 p3 ∧ Sb w v4 p4 ∧ Sb w v5 p5 ∧ Sb w v6 p6
set_option maxRecDepth 100000 in
theorem Sb7.up {w w' : World} {v0 v1 v2 v3 v4 v5 v6 : Value} {p0 p1 p2 p3 p4 p5 p6 : List UInt8} (h : Sb7 w v0 v1 v2 v3 v4 v5 v6 p0 p1 p2 p3 p4 p5 p6) (u : Up w w') : Sb7 w' v0 v1 v2 v3 v4 v5 v6 p0 p1 p2 p3 p4 p5 p6 :=
  ⟨h.1.up u, h.2.1.up u, h.2.2.1.up u, h.2.2.2.1.up u, h.2.2.2.2.1.up u, h.2.2.2.2.2.1.up u, h.2.2.2.2.2.2.up u⟩
set_option maxRecDepth 100000 in
theorem bcell {W w1 : World} (hb : Up W w1) : (∀ b o, b < W.heap.size → w1.cell? ⟨b, o, none⟩ = W.cell? ⟨b, o, none⟩) ∧ (∀ b o, b < W.heap.size → w1.frozen? ⟨b, o, none⟩ = W.frozen? ⟨b, o, none⟩) :=
  ⟨fun b o h => Below.cell hb (p := ⟨b, o, none⟩) h, fun b o h => Below.frozen hb (p := ⟨b, o, none⟩) h⟩
set_option maxRecDepth 100000 in
theorem BkR.form {w : World} {v : Value} {x : Blk} (h : BkR w v x) : ∃ A0 n0 c0 A1 n1 c1 A2 n2 c2 A3 n3 c3 A4 n4 c4, v = .agg #[.slice A0 n0 c0, .slice A1 n1 c1, .slice A2 n2 c2, .slice A3 n3 c3, .slice A4 n4 c4] := by
  obtain ⟨_, _, _, _, _, rfl, ⟨A0, c0, rfl, _⟩, ⟨A1, c1, rfl, _⟩, ⟨A2, c2, rfl, _⟩, ⟨A3, c3, rfl, _⟩, ⟨A4, c4, rfl, _⟩⟩ := h
  exact ⟨A0, _, c0, A1, _, c1, A2, _, c2, A3, _, c3, A4, _, c4, rfl⟩
set_option maxRecDepth 100000 in
/-- A block in new memory does not care for stores elsewhere. -/
theorem BkR.gb {w0 w V : World} {b : Nat} (h : w.grownBy V (some b)) {v : Value} {x : Blk} (hx : BkR w v x) (hf : BkF w0 v) (hb : b < w0.heap.size) : BkR V v x := by
  obtain ⟨a, b', c, d, e, rfl, h1, h2, h3, h4, h5⟩ := hx
  obtain ⟨a2, b2, c2, d2, e2, he, f1, f2, f3, f4, f5⟩ := hf
  simp only [Value.agg.injEq, Array.mk.injEq, List.cons.injEq, and_true] at he
  obtain ⟨rfl, rfl, rfl, rfl, rfl⟩ := he
  exact ⟨_, _, _, _, _, rfl, gb_sl h h1 (f1.ne hb), gb_sl h h2 (f2.ne hb), gb_sl h h3 (f3.ne hb), gb_sl h h4 (f4.ne hb), gb_sl h h5 (f5.ne hb)⟩
set_option maxRecDepth 100000 in
theorem BkF.base {w w1 : World} {v : Value} (h : BkF w1 v) (u : Up w w1) : BkF w v := by
  obtain ⟨a, b, c, d, e, rfl, f1, f2, f3, f4, f5⟩ := h
  exact ⟨_, _, _, _, _, rfl, f1.base u, f2.base u, f3.base u, f4.base u, f5.base u⟩
set_option maxRecDepth 100000 in
theorem Bx5.five {w : World} {B : Nat} {a b c d e : Value} (h : Bx5 w B a b c d e) (v0 v1 v2 v3 v4 : Value) : Bx5 (five w B v0 v1 v2 v3 v4) B v0 v1 v2 v3 v4 := by
  obtain ⟨h0, h1, h2, h3, h4⟩ := h
  have ne : ∀ {i j : Nat}, i ≠ j → (⟨B, i, none⟩ : Addr) ≠ ⟨B, j, none⟩ := fun h c => h (by injection c)
  have o : ∀ (W : World) (i j : Nat) (u : Value) (x : Value), i ≠ j → W.cell? ⟨B, j, none⟩ = some x → (W.setCell ⟨B, i, none⟩ u).cell? ⟨B, j, none⟩ = some x := fun W i j u x hn hc => by
    rw [World.cell?_setCell_other _ _ _ _ (ne hn)]; exact hc
  refine ⟨?_, ?_, ?_, ?_, ?_⟩
  · exact o _ 4 0 _ _ (by decide) (o _ 3 0 _ _ (by decide) (o _ 2 0 _ _ (by decide) (o _ 1 0 _ _ (by decide) (World.cell?_setCell_same _ _ _ h0))))
  · exact o _ 4 1 _ _ (by decide) (o _ 3 1 _ _ (by decide) (o _ 2 1 _ _ (by decide) (World.cell?_setCell_same _ _ _ (o _ 0 1 _ _ (by decide) h1))))
  · exact o _ 4 2 _ _ (by decide) (o _ 3 2 _ _ (by decide) (World.cell?_setCell_same _ _ _ (o _ 1 2 _ _ (by decide) (o _ 0 2 _ _ (by decide) h2))))
  · exact o _ 4 3 _ _ (by decide) (World.cell?_setCell_same _ _ _ (o _ 2 3 _ _ (by decide) (o _ 1 3 _ _ (by decide) (o _ 0 3 _ _ (by decide) h3))))
  · exact World.cell?_setCell_same _ _ _ (o _ 3 4 _ _ (by decide) (o _ 2 4 _ _ (by decide) (o _ 1 4 _ _ (by decide) (o _ 0 4 _ _ (by decide) h4))))
set_option maxRecDepth 100000 in
set_option maxHeartbeats 4000000 in
theorem bdecode_long (A : Option Addr) (b : List UInt8) (cc : Nat) (ver : Int) (u s l t y c z : Nat) (hz : z = 4 ∨ z = 8) (w : World) (hcm : cc ≤ maxLen) (hc : b.length ≤ cc) (r : rightH ver u s l t y c = true) (hl : bodyI u s l t y c z ≤ (b.length : Int)) (hr : Rd w A b) :
    Calls Tryz.prog 70 #[.slice A b.length cc, hv ver u s l t y c, .int .i64 z] w fun e w' => DcP w (if dOk b u s l t y c z = true ∧ rightB (dBk b u s l t y c z) z ver = true then 0 else 4) (if dOk b u s l t y c z = true ∧ rightB (dBk b u s l t y c z) z ver = true then dBk b u s l t y c z else bk0) e w' := by
  have R0 := fun w => rsize_any (z : Int) w
  rw [show zB (z : Int) = true by unfold zB; simp; omega] at R0
  have R1 := Lib.hid (fun w => hright_any ver u s l t y c w)
  rw [r] at R1
  obtain ⟨q1, q2, q3, q4, q5, q6⟩ := right_nat r
  have R2 := Lib.hid (fun w => body_any ver u s l t y c z w (by omega) (by omega) (by omega) (by omega) (by omega) (by omega) (by omega))
  have hbl : t * z + t + y * 6 + c + l * (z + 4) + s + u ≤ b.length := by rw [body_nat] at hl; omega
  have R3 := Lib.hid (fun w1 (q : Up w w1) => split_any (.slice A b.length cc) b ver u s l t y c z hz w1 q1 q2 q3 q4 q5 q6 hbl ⟨A, cc, rfl, hc, hcm, hr.up q⟩)
  have R4 := Lib.hid (fun w1 v0 v1 v2 v3 v4 v5 v6 h0 h1 h2 h3 h4 h5 h6 => read_any v0 v1 v2 v3 v4 v5 v6 (pMo b t z) (pJu b t z) (pKi b t y z) (pNa b t y c z) (pLe b t y c l z) (pSd b t y c l s z) (pUt b t y c l s u z) ver u s l t y c z hz w1 q1 q2 q3 q4 q5
    (by unfold pMo; rw [slcB_len (by omega)]; exact Nat.le_refl _) (by unfold pJu; rw [slcB_len (by omega)]; exact Nat.le_refl _) (by unfold pKi; rw [slcB_len (by omega)]; exact Nat.le_refl _) (by unfold pLe; rw [slcB_len (by omega)]; exact Nat.le_refl _) (by unfold pSd; rw [slcB_len (by omega)]; exact Nat.le_refl _) (by unfold pUt; rw [slcB_len (by omega)]; exact Nat.le_refl _) h0 h1 h2 h3 h4 h5 h6)
  have e1 : rOk (pKi b t y z) (pNa b t y c z) (pSd b t y c l s z) (pUt b t y c l s u z) y s u = dOk b u s l t y c z := rfl
  have e2 : rBk (pMo b t z) (pJu b t z) (pKi b t y z) (pNa b t y c z) (pLe b t y c l z) (pSd b t y c l s z) (pUt b t y c l s u z) u s l t y z = dBk b u s l t y c z := rfl
  rw [e1, e2] at R4
  have R5 := Lib.hid (fun w1 v h => bright_any v (dBk b u s l t y c z) z ver w1 h)
  clear e1 e2
  have bd := bodyI_bd r (z := z) (by omega)
  obtain ⟨bd0, bd1⟩ := bd
  generalize bodyI u s l t y c z = bo at *
  generalize dBk b u s l t y c z = X at *
  generalize dOk b u s l t y c z = ok at *
  generalize rightB X z ver = ri at *
  generalize pMo b t z = p0 at *
  generalize pJu b t z = p1 at *
  generalize pKi b t y z = p2 at *
  generalize pNa b t y c z = p3 at *
  generalize pLe b t y c l z = p4 at *
  generalize pSd b t y c l s z = p5 at *
  generalize pUt b t y c l s u z = p6 at *
  unfold maxLen at hcm
  generalize b.length = n at *
  clear r hr hbl hz
  obtain ⟨EE, hEE⟩ : ∃ E : Int, (if ok = true ∧ ri = true then (0 : Int) else 4) = E := ⟨_, rfl⟩
  obtain ⟨XX, hXX⟩ : ∃ Y : Blk, (if ok = true ∧ ri = true then X else bk0) = Y := ⟨_, rfl⟩
  rw [hEE, hXX]
  have HE := Lib.hid hEE
  have HX := Lib.hid hXX
  clear hEE hXX
  go_enter Tryz.func70, Tryz.ntmps70
  go_wp2_with (go_at_call 29; refine (R0 _).mono ?_; rintro e w' ⟨rfl, rfl⟩)
  refine (R1.out _).mono ?_
  rintro e w1 ⟨rfl, u1⟩
  have U1 := Lib.hid (((Up.alloc w (.cells #[.int .i64 ver, .int .i64 u, .int .i64 s, .int .i64 l, .int .i64 t, .int .i64 y, .int .i64 c] 90)).alloc' (.cells #[.slice none 0 0, .slice none 0 0, .slice none 0 0, .slice none 0 0, .slice none 0 0] 27)).trans u1)
  have H1 := Lib.hid ((HBox.new w ver u s l t y c 90).up ((Up.alloc _ (.cells #[.slice none 0 0, .slice none 0 0, .slice none 0 0, .slice none 0 0, .slice none 0 0] 27)).trans u1))
  have B0 := Bx5.new (w.alloc (.cells #[.int .i64 ver, .int .i64 u, .int .i64 s, .int .i64 l, .int .i64 t, .int .i64 y, .int .i64 c] 90)) (.slice none 0 0) (.slice none 0 0) (.slice none 0 0) (.slice none 0 0) (.slice none 0 0) 27
  have F0 := Free.new (w.alloc (.cells #[.int .i64 ver, .int .i64 u, .int .i64 s, .int .i64 l, .int .i64 t, .int .i64 y, .int .i64 c] 90)) #[.slice none 0 0, .slice none 0 0, .slice none 0 0, .slice none 0 0, .slice none 0 0] 27
  rw [World.size_alloc] at B0 F0
  have B1 := Lib.hid (B0.up u1)
  have F1 := Lib.hid (F0.up u1)
  clear B0 F0 u1 R1 R0
  obtain ⟨b0, b1, b2, b3, b4, b5, b6⟩ := H1.out
  go_wp2_with fail
  clear b0 b1 b2 b3 b4 b5 b6
  refine (R2.out _).mono ?_
  rintro e w2 ⟨rfl, u2⟩
  have U2 := Lib.hid (U1.out.trans u2)
  have H2 := Lib.hid (H1.out.up u2)
  have B2 := Lib.hid (B1.out.up u2)
  have F2 := Lib.hid (F1.out.up u2)
  clear u2 R2 U1 H1 B1 F1
  go_wp2_with fail
  have lt2 : w.heap.size + 1 < w2.heap.size := F2.out.1
  obtain ⟨Y, hY⟩ : ∃ Y : Blk, (if ok = true then X else bk0) = Y := ⟨_, rfl⟩
  have R6 : Hid (∀ w1 v0 v1 v2 v3 v4 v5 v6, Sb7 w1 v0 v1 v2 v3 v4 v5 v6 p0 p1 p2 p3 p4 p5 p6 → Calls Tryz.prog 89 #[.agg #[v0, v1, v2, v3, v4, v5, v6], hv ver u s l t y c, .int .i64 z] w1 fun e w' => ∃ v, e = .returned (.tuple #[v, .bool ok]) ∧ BkR w' v Y ∧ BkF w1 v ∧ Up w1 w') := Lib.hid (fun w1 v0 v1 v2 v3 v4 v5 v6 ⟨h0, h1, h2, h3, h4, h5, h6⟩ => by
    refine (R4.out w1 v0 v1 v2 v3 v4 v5 v6 h0 h1 h2 h3 h4 h5 h6).mono ?_
    rintro e w' ⟨v, he, hb, hf, hu⟩
    rw [hY] at hb
    exact ⟨v, he, hb, hf, hu⟩)
  have HY := Lib.hid hY
  clear hY R4
  have KS : Hid (∀ V, Up w2 V → V.cell? ⟨w.heap.size, 0, none⟩ = some (.int .i64 ver) ∧ V.cell? ⟨w.heap.size, 1, none⟩ = some (.int .i64 u) ∧ V.cell? ⟨w.heap.size, 2, none⟩ = some (.int .i64 s) ∧ V.cell? ⟨w.heap.size, 3, none⟩ = some (.int .i64 l) ∧ V.cell? ⟨w.heap.size, 4, none⟩ = some (.int .i64 t) ∧ V.cell? ⟨w.heap.size, 5, none⟩ = some (.int .i64 y) ∧ V.cell? ⟨w.heap.size, 6, none⟩ = some (.int .i64 c)) := Lib.hid (fun V q => H2.out.up q)
  go_cut [8, 9] from 26 (fun s8 s9 wc => DcR w2 ok Y s8 s9 wc)
  case first =>
    have UU : Hid (Up w2 w2.drew) := Lib.hid (Up.drewN w2 1)
    go_region_held (fun V => V.cell? ⟨w.heap.size, 0, none⟩ = some (.int .i64 ver) ∧ V.cell? ⟨w.heap.size, 1, none⟩ = some (.int .i64 u) ∧ V.cell? ⟨w.heap.size, 2, none⟩ = some (.int .i64 s) ∧ V.cell? ⟨w.heap.size, 3, none⟩ = some (.int .i64 l) ∧ V.cell? ⟨w.heap.size, 4, none⟩ = some (.int .i64 t) ∧ V.cell? ⟨w.heap.size, 5, none⟩ = some (.int .i64 y) ∧ V.cell? ⟨w.heap.size, 6, none⟩ = some (.int .i64 c))
        (first | exact KS.out _ UU.out | exact KS.out _ (UU.out.alloc' _) | exact KS.out _ (UU.out.five (by omega) _ _ _ _ _))
        (first | (go_at_call 90; (with_reducible refine (R3.out _ (U2.out.trans UU.out)).mono ?_); rintro e w3 ⟨v0, v1, v2, v3, v4, v5, v6, rfl, h0, h1, h2, h3, h4, h5, h6, u3⟩; have HH : Hid (Sb7 w3 v0 v1 v2 v3 v4 v5 v6 p0 p1 p2 p3 p4 p5 p6) := Lib.hid ⟨h0.up u3, h1.up u3, h2.up u3, h3.up u3, h4.up u3, h5.up u3, h6.up u3⟩; replace UU := Lib.hid (UU.out.trans u3); have sz3 := UU.out.size; clear h0 h1 h2 h3 h4 h5 h6 u3) | (go_at_call 90; replace UU := Lib.hid (UU.out.alloc' (.cells #[.slice none 0 0, .slice none 0 0, .slice none 0 0, .slice none 0 0, .slice none 0 0] 27)); refine (R3.out _ (U2.out.trans UU.out)).mono ?_; rintro e w3 ⟨v0, v1, v2, v3, v4, v5, v6, rfl, h0, h1, h2, h3, h4, h5, h6, u3⟩; have HH : Hid (Sb7 w3 v0 v1 v2 v3 v4 v5 v6 p0 p1 p2 p3 p4 p5 p6) := Lib.hid ⟨h0.up u3, h1.up u3, h2.up u3, h3.up u3, h4.up u3, h5.up u3, h6.up u3⟩; have BX8 : Hid (Bx5 w3 w2.heap.size (.slice none 0 0) (.slice none 0 0) (.slice none 0 0) (.slice none 0 0) (.slice none 0 0)) := Lib.hid ((Bx5.new w2.drew (.slice none 0 0) (.slice none 0 0) (.slice none 0 0) (.slice none 0 0) (.slice none 0 0) 27).up u3); have FX8 : Hid (Free w3 w2.heap.size) := Lib.hid ((Free.new w2.drew #[.slice none 0 0, .slice none 0 0, .slice none 0 0, .slice none 0 0, .slice none 0 0] 27).up u3); replace UU := Lib.hid (UU.out.trans u3); have sz3 := UU.out.size; clear h0 h1 h2 h3 h4 h5 h6 u3) | (go_at_call 89; (refine (R6.out w3 _ _ _ _ _ _ _ HH.out).mono ?_); rintro e w4 ⟨v, rfl, hb4, hf4', u4⟩; have HB4 := Lib.hid hb4; have HF4 := Lib.hid hf4'; have HG4 := Lib.hid (hf4'.base UU.out); obtain ⟨A0, n0, c0, A1, n1, c1, A2, n2, c2, A3, n3, c3, A4, n4, c4, rfl⟩ := hb4.form; (try (have BX9 := Lib.hid (BX8.out.up u4); have FX9 := Lib.hid (FX8.out.up u4); obtain ⟨y0, y1, y2, y3, y4⟩ := BX9.out; obtain ⟨_, fy⟩ := FX9.out; have yz0 := fy 0; have yz1 := fy 1; have yz2 := fy 2; have yz3 := fy 3; have yz4 := fy 4; clear fy)); replace UU := Lib.hid (UU.out.trans u4); have sz4 := UU.out.size; clear hb4 hf4' u4) | (go_at_call 89; replace UU := Lib.hid (UU.out.alloc' (.cells #[.slice none 0 0, .slice none 0 0, .slice none 0 0, .slice none 0 0, .slice none 0 0] 27)); replace HH := Lib.hid (HH.out.up (Up.alloc w3 (.cells #[.slice none 0 0, .slice none 0 0, .slice none 0 0, .slice none 0 0, .slice none 0 0] 27))); refine (R6.out _ _ _ _ _ _ _ _ HH.out).mono ?_; rintro e w4 ⟨v, rfl, hb4, hf4', u4⟩; have HB4 := Lib.hid hb4; have HF4 := Lib.hid hf4'; have HG4 := Lib.hid (hf4'.base UU.out); obtain ⟨A0, n0, c0, A1, n1, c1, A2, n2, c2, A3, n3, c3, A4, n4, c4, rfl⟩ := hb4.form; have BX9 := Lib.hid ((Bx5.new w3 (.slice none 0 0) (.slice none 0 0) (.slice none 0 0) (.slice none 0 0) (.slice none 0 0) 27).up u4); have FX9 := Lib.hid ((Free.new w3 #[.slice none 0 0, .slice none 0 0, .slice none 0 0, .slice none 0 0, .slice none 0 0] 27).up u4); obtain ⟨y0, y1, y2, y3, y4⟩ := BX9.out; obtain ⟨_, fy⟩ := FX9.out; have yz0 := fy 0; have yz1 := fy 1; have yz2 := fy 2; have yz3 := fy 3; have yz4 := fy 4; clear fy; replace UU := Lib.hid (UU.out.trans u4); have sz4 := UU.out.size; clear hb4 hf4' u4))
    · go_wp2_with fail
      go_meet
      case rel => exact ⟨w4.heap.size, _, _, _, _, _, rfl, rfl, sz4, UU.out.alloc' _, Bx5.new w4 _ _ _ _ _ _, HB4.out.up (Up.alloc _ _), HG4.out⟩
    · go_wp2_with fail
      go_meet
      case rel => exact ⟨w3.heap.size, _, _, _, _, _, rfl, rfl, sz3, UU.out.five sz3 _ _ _ _ _, BX9.out.five _ _ _ _ _, HB4.out.gb (gb_five ((Up.refl w4).gb _) _ _ _ _ _) HF4.out (by simp), HG4.out⟩
    · go_wp2_with fail
      go_meet
      case rel => exact ⟨w2.heap.size, _, _, _, _, _, rfl, rfl, Nat.le_refl _, UU.out.five (Nat.le_refl _) _ _ _ _ _, BX9.out.five _ _ _ _ _, HB4.out.gb (gb_five ((Up.refl w4).gb _) _ _ _ _ _) HF4.out FX8.out.1, HG4.out⟩
  case rest =>
    obtain ⟨B, s0, s1, s2, s3, s4, rfl, rfl, hB, hU, hX, hBk, hFr⟩ := hcut
    have UC := Lib.hid hU
    have HXX := Lib.hid hX
    have HBK := Lib.hid hBk
    have HFR := Lib.hid hFr
    have H3 := Lib.hid (H2.out.up hU)
    have B3 := Lib.hid (B2.out.up hU)
    have F3 := Lib.hid (F2.out.up hU)
    have lt3 : w.heap.size + 1 < wc.heap.size := F3.out.1
    clear hU hX hBk hFr R3 R6 KS H2 B2 F2
    cases ok
    · have e1 : EE = 4 := by rw [← HE.out]; rfl
      have e2 : XX = bk0 := by rw [← HX.out]; rfl
      have UF := Lib.hid (gb_up (b := w.heap.size + 1) (U2.out.trans UC.out) (gb_five (w := wc) (V := wc) (b := w.heap.size + 1) ((Up.refl wc).gb _) (.slice none 0 0) (.slice none 0 0) (.slice none 0 0) (.slice none 0 0) (.slice none 0 0)) (by omega))
      obtain ⟨a0, a1, a2, a3, a4⟩ := B3.out
      obtain ⟨_, fz⟩ := F3.out
      have x0 := fz 0; have x1 := fz 1; have x2 := fz 2; have x3 := fz 3; have x4 := fz 4
      clear fz
      go_wp2_with fail
      exact bodyPost_ret (v := .tuple #[bz, .int .i64 4]) (by simp [results, Tryz.results70, go_sem, a0, a1, a2, a3, a4]) rfl ⟨_, by rw [e1], by rw [e2]; exact bz_read _, UF.out⟩
    · have eY : Y = X := by rw [← HY.out]; rfl
      rw [eY] at HBK
      clear eY
      obtain ⟨a0, a1, a2, a3, a4⟩ := HXX.out
      obtain ⟨b0, b1, b2, b3, b4, b5, b6⟩ := H3.out
      go_wp2_with fail
      clear a0 a1 a2 a3 a4 b0 b1 b2 b3 b4 b5 b6
      refine (R5.out _ _ HBK.out).mono ?_
      rintro e w6 ⟨rfl, u6⟩
      obtain ⟨a0, a1, a2, a3, a4⟩ := B3.out.up u6
      obtain ⟨_, fz⟩ := F3.out.up u6
      have x0 := fz 0; have x1 := fz 1; have x2 := fz 2; have x3 := fz 3; have x4 := fz 4
      clear fz
      cases ri
      · have e1 : EE = 4 := by rw [← HE.out]; rfl
        have e2 : XX = bk0 := by rw [← HX.out]; rfl
        have UF := Lib.hid (gb_up (b := w.heap.size + 1) ((U2.out.trans UC.out).trans u6) (gb_five (w := w6) (V := w6) (b := w.heap.size + 1) ((Up.refl w6).gb _) (.slice none 0 0) (.slice none 0 0) (.slice none 0 0) (.slice none 0 0) (.slice none 0 0)) (by omega))
        clear u6
        go_wp2_with fail
        exact bodyPost_ret (v := .tuple #[bz, .int .i64 4]) (by simp [results, Tryz.results70, go_sem, a0, a1, a2, a3, a4]) rfl ⟨_, by rw [e1], by rw [e2]; exact bz_read _, UF.out⟩
      · have e1 : EE = 0 := by rw [← HE.out]; rfl
        have e2 : XX = X := by rw [← HX.out]; rfl
        obtain ⟨A0, n0, c0, A1, n1, c1, A2, n2, c2, A3, n3, c3, A4, n4, c4, hv5⟩ := HBK.out.form
        simp only [Value.agg.injEq, Array.mk.injEq, List.cons.injEq, and_true] at hv5
        obtain ⟨rfl, rfl, rfl, rfl, rfl⟩ := hv5
        have UF := Lib.hid (gb_up (b := w.heap.size + 1) ((U2.out.trans UC.out).trans u6) (gb_five (w := w6) (V := w6) (b := w.heap.size + 1) ((Up.refl w6).gb _) (.slice A0 n0 c0) (.slice A1 n1 c1) (.slice A2 n2 c2) (.slice A3 n3 c3) (.slice A4 n4 c4)) (by omega))
        have BF := Lib.hid ((HBK.out.up u6).gb (gb_five (w := w6) (V := w6) (b := w.heap.size + 1) ((Up.refl w6).gb _) (.slice A0 n0 c0) (.slice A1 n1 c1) (.slice A2 n2 c2) (.slice A3 n3 c3) (.slice A4 n4 c4)) HFR.out lt2)
        obtain ⟨y0, y1, y2, y3, y4⟩ := HXX.out.up u6
        have nb : ¬ w.heap.size + 1 = B := by omega
        have nb2 : ¬ B = w.heap.size + 1 := by omega
        clear u6
        go_wp2_with fail
        exact bodyPost_ret (v := .tuple #[.agg #[.slice A0 n0 c0, .slice A1 n1 c1, .slice A2 n2 c2, .slice A3 n3 c3, .slice A4 n4 c4], .int .i64 0]) (by simp [results, Tryz.results70, go_sem, a0, a1, a2, a3, a4]) rfl ⟨_, by rw [e1], by rw [e2]; exact BF.out, UF.out⟩
end Go.Proofs.YtaljddoenjgbfaaGreat
/-
  Blocks, plain: what was told is read as it was. Nothing of the program stands here but the parts of what is right.
-/
namespace Go.Proofs.YtaljddoenjgbfaaGreat
open Lc

set_option maxRecDepth 100000 in
theorem sg_un {z : Nat} {t : Int} (hz : z = 4 ∨ z = 8) (h : fitZ t z = true) (b0 : -9223372036854775808 ≤ t) (b1 : t ≤ 9223372036854775807) : sgI z (beN (beB z (un t)) : Nat) = t := by
  have h' : z = 8 ∨ (-2147483648 ≤ t ∧ t ≤ 2147483647) := by
    unfold fitZ at h
    simp only [Bool.and_eq_true, Bool.or_eq_true, decide_eq_true_eq] at h
    omega
  rw [beN_beB]
  unfold un
  rcases hz with rfl | rfl
  · have h2 : -2147483648 ≤ t ∧ t ≤ 2147483647 := by omega
    rw [sgI_is (by omega) (by omega) (by omega) (by have : (256 : Int) ^ 4 = 4294967296 := by decide
                                                    have e : (256 : Nat) ^ 4 = 4294967296 := by decide
                                                    rw [this, e]; omega)]
    have e : (256 : Nat) ^ 4 = 4294967296 := by decide
    have e1 : (2 : Int) ^ (8 * 4 - 1) = 2147483648 := by decide
    have e2 : (2 : Int) ^ (8 * 4) = 4294967296 := by decide
    rw [e, e1, e2]
    split <;> omega
  · rw [sgI_is (by omega) (by omega) (by omega) (by have : (256 : Int) ^ 8 = 18446744073709551616 := by decide
                                                    have e : (256 : Nat) ^ 8 = 18446744073709551616 := by decide
                                                    rw [this, e]; omega)]
    have e : (256 : Nat) ^ 8 = 18446744073709551616 := by decide
    have e1 : (2 : Int) ^ (8 * 8 - 1) = 9223372036854775808 := by decide
    have e2 : (2 : Int) ^ (8 * 8) = 18446744073709551616 := by decide
    rw [e, e1, e2]
    split <;> omega

set_option maxRecDepth 100000 in
theorem fit4 {n : Int} (h0 : -2147483648 ≤ n) (h1 : n ≤ 2147483647) : fitZ n ((4 : Nat) : Int) = true := by unfold fitZ; simp; omega
set_option maxRecDepth 100000 in
theorem getD_app {a b : List UInt8} {n k : Nat} (h : a.length = n) : (a ++ b).getD (n + k) 0 = b.getD k 0 := by
  subst h; simp [List.getD, List.getElem?_append_right]
set_option maxRecDepth 100000 in
theorem range_map {α : Type} {l : List α} {n : Nat} {f : Nat → α} (d : α) (hn : l.length = n) (h : ∀ i, i < n → f i = l.getD i d) : (List.range n).map f = l := by
  apply List.ext_getElem
  · simp [hn]
  · intro i h1 h2
    have := h i (by omega)
    simp [List.getD, h2] at this ⊢
    exact this
set_option maxRecDepth 100000 in
theorem fm_slc {α : Type} {f : α → List UInt8} {m : Nat} (hf : ∀ a, (f a).length = m) (l : List α) (d : α) {i : Nat} (h : i < l.length) : slcB (l.flatMap f) (i * m) m = f (l.getD i d) := by
  induction l generalizing i with
  | nil => simp at h
  | cons a l ih =>
    rw [List.flatMap_cons]
    cases i with
    | zero => unfold slcB; rw [Nat.zero_mul, List.drop_zero, ← hf a, List.take_left]; rfl
    | succ i =>
      have e : slcB (f a ++ l.flatMap f) ((i + 1) * m) m = slcB (l.flatMap f) (i * m) m := by
        unfold slcB
        rw [Nat.succ_mul, Nat.add_comm, ← List.drop_drop, List.drop_left' (hf a)]
      rw [e, List.getD_cons_succ]
      exact ih (by simpa using h)
set_option maxRecDepth 100000 in
theorem slc_mid {a m c : List UInt8} {p k : Nat} (ha : a.length = p) (hm : m.length = k) : slcB (a ++ (m ++ c)) p k = m := by
  rw [slcB_append_right ha, ← hm, List.take_left]

set_option maxRecDepth 100000 in
theorem index_at (s r : List UInt8) (h : s.contains 0 = false) : Go.Lib.indexByte (s ++ 0 :: r) 0 = s.length := by
  induction s with
  | nil => rfl
  | cons a s ih =>
    simp only [List.contains_cons, Bool.or_eq_false_iff] at h
    rw [List.cons_append, Go.Lib.indexByte, ih h.2, if_neg (by have := h.1; simp at this ⊢; exact fun e => this e.symm), if_neg (by simp), List.length_cons]
    omega
set_option maxRecDepth 100000 in
theorem layN_pre (ns : List ByteArray) {i k : Nat} (h : i ≤ k) : ∃ r, layN ns k = layN ns i ++ r := by
  induction k with
  | zero => have : i = 0 := by omega
            subst this; exact ⟨[], by simp⟩
  | succ k ih =>
    rcases Nat.lt_or_ge i (k + 1) with h1 | h1
    · obtain ⟨r, e⟩ := ih (by omega)
      rw [layN]; split
      · exact ⟨r, e⟩
      · exact ⟨r ++ (tx (ns.getD k ByteArray.empty) ++ [0]), by rw [e, List.append_assoc]⟩
    · have : i = k + 1 := by omega
      subst this; exact ⟨[], by simp⟩
set_option maxRecDepth 100000 in
/-- Where a name is laid, it stands, with a byte 0 behind. -/
theorem nm_at {ns : List ByteArray} {s : ByteArray} (h : s ∈ ns) : ∃ r, layN ns ns.length = layN ns (idx s ns) ++ (tx s ++ 0 :: r) := by
  have h' : s ∈ ns.take ns.length := by rw [List.take_length]; exact h
  have lt := idx_lt h'
  obtain ⟨r, e⟩ := layN_pre ns (i := idx s ns + 1) (k := ns.length) lt
  rw [layN_new (by rw [idx_get h]; exact idx_min), idx_get h] at e
  exact ⟨r, by rw [e]; simp⟩
set_option maxRecDepth 100000 in
theorem nm_read {ns : List ByteArray} {s : ByteArray} (h : s ∈ ns) (hz : noz s = true) : nmIx (layN ns ns.length) (plcN ns s) = s.size ∧ nmOf (layN ns ns.length) (plcN ns s) = s ∧ plcN ns s + s.size + 1 ≤ (layN ns ns.length).length := by
  obtain ⟨r, e⟩ := nm_at h
  have hz' : (tx s).contains 0 = false := by unfold noz at hz; simpa using hz
  have e1 : nmIx (layN ns ns.length) (plcN ns s) = s.size := by
    unfold nmIx plcN
    rw [e, List.drop_left]
    exact index_at _ _ hz'
  have sz : (tx s).length = s.size := rfl
  refine ⟨e1, ?_, ?_⟩
  · unfold nmOf
    rw [e1]
    unfold plcN
    rw [e, List.drop_left, Int.toNat_natCast, ← sz, List.take_left]
  · have := congrArg List.length e
    unfold plcN
    rw [this]
    simp only [List.length_append, List.length_cons]
    omega

set_option maxRecDepth 100000 in
theorem loB_nat {n : Int} (h0 : 0 ≤ n) (h1 : n < 256) : ((loB n).toNat : Int) = n := by
  unfold loB
  rw [UInt8.toNat_ofNat']
  omega
set_option maxRecDepth 100000 in
theorem mk_le (b : Bool) : (mkB b).toNat ≤ 1 := by cases b <;> decide
set_option maxRecDepth 100000 in
theorem mk_eq (b : Bool) : decide (mkB b = 1) = b := by cases b <;> decide
set_option maxRecDepth 100000 in
theorem tm_get {bs : List Bool} {i : Nat} (h : i < bs.length) : (tmB bs).getD i 0 = mkB (bs.getD i false) := by simp [tmB, h]
set_option maxRecDepth 100000 in
theorem mOk_tm (bs : List Bool) : mOk (tmB bs) bs.length = true := by
  unfold mOk
  rw [allB_true]
  intro i hi
  rw [tm_get hi]
  simpa using mk_le _
set_option maxRecDepth 100000 in
theorem dM_tm (bs : List Bool) : dM (tmB bs) bs.length = bs := by
  refine range_map false rfl fun i hi => ?_
  unfold rdM
  rw [tm_get hi, mk_eq]
/-- Moments are numbers of 64 bits. -/
def BI (x : Blk) : Prop := (∀ i, i < x.js.length → -9223372036854775808 ≤ (x.js.getD i j0).t ∧ (x.js.getD i j0).t ≤ 9223372036854775807) ∧ ∀ i, i < x.ls.length → -9223372036854775808 ≤ (x.ls.getD i l0).t ∧ (x.ls.getD i l0).t ≤ 9223372036854775807
set_option maxRecDepth 100000 in
theorem dJ_mt {js : List Jmp} {z n : Nat} (hz : z = 4 ∨ z = 8) (hn : n ≤ 256) (h : rjB js n z = true) (hb : ∀ i, i < js.length → -9223372036854775808 ≤ (js.getD i j0).t ∧ (js.getD i j0).t ≤ 9223372036854775807) : dJ (mtB z js) (mjB js) js.length z = js := by
  unfold rjB at h
  simp only [Bool.and_eq_true, decide_eq_true_eq] at h
  have h := allB_true.1 h.2
  refine range_map j0 rfl fun i hi => ?_
  have r := h i hi
  unfold rjOne at r
  simp only [Bool.and_eq_true, decide_eq_true_eq] at r
  obtain ⟨⟨⟨_, rf⟩, rk⟩, rk'⟩ := r
  unfold rdJ mtB mjB
  rw [fm_slc (fun _ => beB_len _ _) js j0 hi, sg_un hz rf (hb i hi).1 (hb i hi).2]
  have e : (js.map fun j => loB j.k).getD i 0 = loB (js.getD i j0).k := by simp [hi]
  rw [e, loB_nat rk (by omega)]
set_option maxRecDepth 100000 in
theorem pv_le {ls : List Lep} {z ver : Int} (h : rlB ls z ver = true) {i : Nat} (hi : i < ls.length) : -2147483648 ≤ (ls.getD i l0).c ∧ (ls.getD i l0).c ≤ 2147483647 := by
  unfold rlB at h
  simp only [Bool.and_eq_true, decide_eq_true_eq] at h
  have q := pv_bd (ls := ls) (z := z) (ver := ver) (k := i + 1) fun j hj => allB_true.1 h.2 j (by omega)
  rw [pvC_succ] at q
  omega
set_option maxRecDepth 100000 in
theorem dL_tl {ls : List Lep} {z : Nat} {ver : Int} (hz : z = 4 ∨ z = 8) (h : rlB ls z ver = true) (hb : ∀ i, i < ls.length → -9223372036854775808 ≤ (ls.getD i l0).t ∧ (ls.getD i l0).t ≤ 9223372036854775807) : dL (tlB z ls) ls.length z = ls := by
  refine range_map l0 rfl fun i hi => ?_
  have q := pv_le h hi
  unfold rlB at h
  simp only [Bool.and_eq_true, decide_eq_true_eq] at h
  have r := allB_true.1 h.2 i hi
  unfold rlOne at r
  simp only [Bool.and_eq_true] at r
  have e := fm_slc (f := fun l : Lep => beB z (un l.t) ++ beB 4 (un l.c)) (m := z + 4) (fun _ => by simp [beB_len]) ls l0 hi
  have e1 : slcB (tlB z ls) (i * (z + 4)) z = beB z (un (ls.getD i l0).t) := by
    have := slcB_slcB (b := tlB z ls) (a := i * (z + 4)) (k := z + 4) (i := 0) (m := z) (by omega)
    rw [← show slcB (slcB (tlB z ls) (i * (z + 4)) (z + 4)) 0 z = slcB (tlB z ls) (i * (z + 4)) z from this]
    unfold tlB
    rw [e]
    exact slc_mid (a := []) rfl (beB_len _ _)
  have e2 : slcB (tlB z ls) (i * (z + 4) + z) 4 = beB 4 (un (ls.getD i l0).c) := by
    have := slcB_slcB (b := tlB z ls) (a := i * (z + 4)) (k := z + 4) (i := z) (m := 4) (by omega)
    rw [← this]
    unfold tlB
    rw [e]
    have := slc_mid (a := beB z (un (ls.getD i l0).t)) (m := beB 4 (un (ls.getD i l0).c)) (c := []) (beB_len _ _) (beB_len _ _)
    rw [List.append_nil] at this
    exact this
  unfold rdL
  rw [e1, e2, sg_un hz r.1.2 (hb i hi).1 (hb i hi).2, sg_un (.inl rfl) (fit4 (by omega) (by omega)) (by omega) (by omega)]
set_option maxRecDepth 100000 in
theorem kinds_read {ks : List Knd} (h : rkB ks = true) : kOk (tkB (ks.map Knd.name) ks) (layN (ks.map Knd.name) ks.length) ks.length = true ∧ dK (tkB (ks.map Knd.name) ks) (layN (ks.map Knd.name) ks.length) ks.length = ks := by
  obtain ⟨p1, p2, p3, p4⟩ := rk_parts h
  have ln : (ks.map Knd.name).length = ks.length := by simp
  have N : ∀ i, i < ks.length → nmIx (layN (ks.map Knd.name) ks.length) (plcN (ks.map Knd.name) (ks.getD i k0).name) = (ks.getD i k0).name.size ∧ nmOf (layN (ks.map Knd.name) ks.length) (plcN (ks.map Knd.name) (ks.getD i k0).name) = (ks.getD i k0).name ∧ plcN (ks.map Knd.name) (ks.getD i k0).name + (ks.getD i k0).name.size + 1 ≤ (layN (ks.map Knd.name) ks.length).length := fun i hi => by
    have r := p3 i hi
    unfold rkOne at r
    simp only [Bool.and_eq_true] at r
    have := nm_read (ns := ks.map Knd.name) (s := (ks.getD i k0).name) (List.mem_map.2 ⟨_, by simp [hi], rfl⟩) r.2
    rw [ln] at this
    exact this
  have P : ∀ i, i < ks.length → kPl (tkB (ks.map Knd.name) ks) i = plcN (ks.map Knd.name) (ks.getD i k0).name ∧ (tkB (ks.map Knd.name) ks).getD (i * 6 + 4) 0 = mkB (ks.getD i k0).dst ∧ slcB (tkB (ks.map Knd.name) ks) (i * 6) 4 = beB 4 (un (ks.getD i k0).off) := fun i hi => by
    have e := fm_slc (f := fun k : Knd => beB 4 (un k.off) ++ [mkB k.dst, loB (plcN (ks.map Knd.name) k.name)]) (m := 6) (fun _ => by simp [beB_len]) ks k0 hi
    have e' : slcB (tkB (ks.map Knd.name) ks) (i * 6) 6 = beB 4 (un (ks.getD i k0).off) ++ [mkB (ks.getD i k0).dst, loB (plcN (ks.map Knd.name) (ks.getD i k0).name)] := e
    clear e
    have pl := (N i hi).2.2
    refine ⟨?_, ?_, ?_⟩
    · unfold kPl
      rw [← slcB_get (k := 6) (by omega), e', getD_app (n := 4) (k := 1) (beB_len _ _)]
      have := loB_nat (n := (plcN (ks.map Knd.name) (ks.getD i k0).name : Int)) (by omega) (by omega)
      show (loB _).toNat = _
      omega
    · rw [← slcB_get (k := 6) (by omega), e', show (4 : Nat) = 4 + 0 from rfl, getD_app (n := 4) (k := 0) (beB_len _ _)]
      rfl
    · have := slcB_slcB (b := tkB (ks.map Knd.name) ks) (a := i * 6) (k := 6) (i := 0) (m := 4) (by omega)
      rw [Nat.add_zero] at this
      rw [← this, e']
      exact slc_mid (a := []) rfl (beB_len _ _)
  refine ⟨?_, range_map k0 rfl fun i hi => ?_⟩
  · unfold kOk
    rw [allB_true]
    intro i hi
    obtain ⟨a, b, c⟩ := P i hi
    unfold kGo
    rw [a, b, (N i hi).1]
    simp only [Bool.and_eq_true, decide_eq_true_eq]
    exact ⟨mk_le _, by omega⟩
  · obtain ⟨a, b, c⟩ := P i hi
    unfold rdK
    have r := p3 i hi
    unfold rkOne at r
    simp only [Bool.and_eq_true, decide_eq_true_eq] at r
    rw [a, b, c, (N i hi).2.1, mk_eq, sg_un (.inl rfl) (fit4 (by omega) (by omega)) (by omega) (by omega)]

set_option maxRecDepth 100000 in
/-- What was told is read as it was, whatever stands behind. -/
theorem dec_enc {x : Blk} {z : Nat} {ver : Int} (r : rightB x z ver = true) (hb : BI x) (more : List UInt8) :
    dOk (encL x z ++ more) x.ut.length x.sd.length x.ls.length x.js.length x.ks.length (nmB x).length z = true ∧ dBk (encL x z ++ more) x.ut.length x.sd.length x.ls.length x.js.length x.ks.length (nmB x).length z = x := by
  obtain ⟨hz, hk, hm, hj, hl⟩ := right_parts r
  have hz' : z = 4 ∨ z = 8 := by omega
  obtain ⟨_, k2, _, _⟩ := rk_parts hk
  have L1 := mtB_len z x.js
  have L2 := mjB_len x.js
  have L3 := tkB_len (x.ks.map Knd.name) x.ks
  have L4 := tlB_len z x.ls
  have L5 := tmB_len x.sd
  have L6 := tmB_len x.ut
  have q0 : pMo (encL x z ++ more) x.js.length z = mtB z x.js := by
    unfold pMo
    rw [show encL x z ++ more = ([]) ++ (mtB z x.js ++ (mjB x.js ++ tkB (x.ks.map Knd.name) x.ks ++ nmB x ++ tlB z x.ls ++ tmB x.sd ++ tmB x.ut ++ more)) by simp only [encL, List.append_assoc, List.nil_append]]
    exact slc_mid rfl L1
  have q1 : pJu (encL x z ++ more) x.js.length z = mjB x.js := by
    unfold pJu
    rw [show encL x z ++ more = (mtB z x.js) ++ (mjB x.js ++ (tkB (x.ks.map Knd.name) x.ks ++ nmB x ++ tlB z x.ls ++ tmB x.sd ++ tmB x.ut ++ more)) by simp only [encL, List.append_assoc]]
    exact slc_mid L1 L2
  have q2 : pKi (encL x z ++ more) x.js.length x.ks.length z = tkB (x.ks.map Knd.name) x.ks := by
    unfold pKi
    rw [show encL x z ++ more = (mtB z x.js ++ mjB x.js) ++ (tkB (x.ks.map Knd.name) x.ks ++ (nmB x ++ tlB z x.ls ++ tmB x.sd ++ tmB x.ut ++ more)) by simp only [encL, List.append_assoc]]
    exact slc_mid (by simp only [List.length_append, L1, L2]) L3
  have q3 : pNa (encL x z ++ more) x.js.length x.ks.length (nmB x).length z = nmB x := by
    unfold pNa
    rw [show encL x z ++ more = (mtB z x.js ++ mjB x.js ++ tkB (x.ks.map Knd.name) x.ks) ++ (nmB x ++ (tlB z x.ls ++ tmB x.sd ++ tmB x.ut ++ more)) by simp only [encL, List.append_assoc]]
    exact slc_mid (by simp only [List.length_append, L1, L2, L3]) rfl
  have q4 : pLe (encL x z ++ more) x.js.length x.ks.length (nmB x).length x.ls.length z = tlB z x.ls := by
    unfold pLe
    rw [show encL x z ++ more = (mtB z x.js ++ mjB x.js ++ tkB (x.ks.map Knd.name) x.ks ++ nmB x) ++ (tlB z x.ls ++ (tmB x.sd ++ tmB x.ut ++ more)) by simp only [encL, List.append_assoc]]
    exact slc_mid (by simp only [List.length_append, L1, L2, L3]) L4
  have q5 : pSd (encL x z ++ more) x.js.length x.ks.length (nmB x).length x.ls.length x.sd.length z = tmB x.sd := by
    unfold pSd
    rw [show encL x z ++ more = (mtB z x.js ++ mjB x.js ++ tkB (x.ks.map Knd.name) x.ks ++ nmB x ++ tlB z x.ls) ++ (tmB x.sd ++ (tmB x.ut ++ more)) by simp only [encL, List.append_assoc]]
    exact slc_mid (by simp only [List.length_append, L1, L2, L3, L4]) L5
  have q6 : pUt (encL x z ++ more) x.js.length x.ks.length (nmB x).length x.ls.length x.sd.length x.ut.length z = tmB x.ut := by
    unfold pUt
    rw [show encL x z ++ more = (mtB z x.js ++ mjB x.js ++ tkB (x.ks.map Knd.name) x.ks ++ nmB x ++ tlB z x.ls ++ tmB x.sd) ++ (tmB x.ut ++ (more)) by simp only [encL, List.append_assoc]]
    exact slc_mid (by simp only [List.length_append, L1, L2, L3, L4, L5]) L6
  have K := kinds_read hk
  have e3 : nmB x = layN (x.ks.map Knd.name) x.ks.length := rfl
  unfold dOk dBk
  rw [q0, q1, q2, q3, q4, q5, q6, mOk_tm, mOk_tm, dM_tm, dM_tm, dL_tl hz' hl hb.2, dJ_mt hz' k2 hj hb.1]
  rw [← e3] at K
  rw [K.1, K.2]
  exact ⟨rfl, rfl⟩
set_option maxRecDepth 100000 in
/-- A body's length. -/
theorem enc_body (x : Blk) (z : Nat) : bodyI x.ut.length x.sd.length x.ls.length x.js.length x.ks.length (nmB x).length z = (encL x z).length := by
  rw [body_nat, encL_len]
set_option maxRecDepth 100000 in
theorem dec_yes {x : Blk} {z : Nat} {ver : Int} (r : rightB x z ver = true) (h1 : 1 ≤ ver) (h4 : ver ≤ 4) (hb : BI x) (more : List UInt8) :
    decE (encL x z ++ more) ver x.ut.length x.sd.length x.ls.length x.js.length x.ks.length (nmB x).length z = 0 ∧ decX (encL x z ++ more) ver x.ut.length x.sd.length x.ls.length x.js.length x.ks.length (nmB x).length z = x := by
  have hz := (right_parts r).1
  obtain ⟨d1, d2⟩ := dec_enc r hb more
  have E : decE (encL x z ++ more) ver x.ut.length x.sd.length x.ls.length x.js.length x.ks.length (nmB x).length z = 0 := by
    unfold decE
    rw [if_neg (by rw [hd_right r h1 h4]; unfold zB; simp; omega), enc_body, if_neg (by rw [List.length_append]; omega)]
    simp only [Int.toNat_natCast]
    rw [if_pos ⟨d1, by rw [d2]; exact r⟩]
  refine ⟨E, ?_⟩
  unfold decX
  rw [if_pos E]
  simp only [Int.toNat_natCast]
  exact d2
set_option maxRecDepth 100000 in
/-- Fewer bytes are too short. -/
theorem dec_short {x : Blk} {z : Nat} {ver : Int} (r : rightB x z ver = true) (h1 : 1 ≤ ver) (h4 : ver ≤ 4) (b : List UInt8) (h : b.length < (encL x z).length) :
    decE b ver x.ut.length x.sd.length x.ls.length x.js.length x.ks.length (nmB x).length z = 5 ∧ decX b ver x.ut.length x.sd.length x.ls.length x.js.length x.ks.length (nmB x).length z = bk0 := by
  have hz := (right_parts r).1
  have E : decE b ver x.ut.length x.sd.length x.ls.length x.js.length x.ks.length (nmB x).length z = 5 := by
    unfold decE
    rw [if_neg (by rw [hd_right r h1 h4]; unfold zB; simp; omega), enc_body, if_pos (by omega)]
  refine ⟨E, ?_⟩
  unfold decX
  rw [E]
  rfl

set_option maxRecDepth 100000 in
/-- Bytes as a block: whatever they are. -/
theorem bdecode_any (A : Option Addr) (b : List UInt8) (cc : Nat) (ver u s l t y c z : Int) (w : World) (hcm : cc ≤ maxLen) (hc : b.length ≤ cc) (hr : Rd w A b) :
    Calls Tryz.prog 70 #[.slice A b.length cc, hv ver u s l t y c, .int .i64 z] w fun e w' => DcP w (decE b ver u s l t y c z) (decX b ver u s l t y c z) e w' := by
  by_cases h : zB z = false ∨ rightH ver u s l t y c = false
  · have E : decE b ver u s l t y c z = 1 := by unfold decE; rw [if_pos h]
    have X : decX b ver u s l t y c z = bk0 := by unfold decX; rw [E]; rfl
    rw [E, X]
    exact bdecode_arg A b.length cc ver u s l t y c z w h
  · have h' := h
    rw [not_or] at h
    have hz : z = 4 ∨ z = 8 := by have := h.1; unfold zB at this; simp at this; omega
    have r : rightH ver u s l t y c = true := by simpa using h.2
    have q := rightH_true.1 r
    obtain ⟨z, rfl⟩ := Int.eq_ofNat_of_zero_le (a := z) (by omega)
    obtain ⟨u, rfl⟩ := Int.eq_ofNat_of_zero_le (a := u) (by omega)
    obtain ⟨s, rfl⟩ := Int.eq_ofNat_of_zero_le (a := s) (by omega)
    obtain ⟨l, rfl⟩ := Int.eq_ofNat_of_zero_le (a := l) (by omega)
    obtain ⟨t, rfl⟩ := Int.eq_ofNat_of_zero_le (a := t) (by omega)
    obtain ⟨y, rfl⟩ := Int.eq_ofNat_of_zero_le (a := y) (by omega)
    obtain ⟨c, rfl⟩ := Int.eq_ofNat_of_zero_le (a := c) (by omega)
    have hz' : z = 4 ∨ z = 8 := by omega
    by_cases hl : (b.length : Int) < bodyI u s l t y c z
    · have E : decE b ver u s l t y c z = 5 := by unfold decE; rw [if_neg h', if_pos hl]
      have X : decX b ver u s l t y c z = bk0 := by unfold decX; rw [E]; rfl
      rw [E, X]
      exact bdecode_short A b cc ver u s l t y c z hz' w r hl
    · have E : decE b ver u s l t y c z = if dOk b u s l t y c z = true ∧ rightB (dBk b u s l t y c z) z ver = true then 0 else 4 := by
        unfold decE; rw [if_neg h', if_neg hl]; simp only [Int.toNat_natCast]
      have X : decX b ver u s l t y c z = if dOk b u s l t y c z = true ∧ rightB (dBk b u s l t y c z) z ver = true then dBk b u s l t y c z else bk0 := by
        unfold decX; rw [E]; simp only [Int.toNat_natCast]
        by_cases hh : dOk b u s l t y c z = true ∧ rightB (dBk b u s l t y c z) z ver = true
        · rw [if_pos hh, if_pos hh]; rfl
        · rw [if_neg hh, if_neg hh]; rfl
      rw [E, X]
      exact bdecode_long A b cc ver u s l t y c z hz' w hcm hc r (by omega) hr
end Go.Proofs.YtaljddoenjgbfaaGreat
