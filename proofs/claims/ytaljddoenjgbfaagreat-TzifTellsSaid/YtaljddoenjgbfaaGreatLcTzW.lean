/-
  Files in their own boxes: stores into these.
-/
import Derived.Test.YtaljddoenjgbfaaGreatLcTzV
import Derived.Test.YtaljddoenjgbfaaGreatLcTzO
import Derived.Test.YtaljddoenjgbfaaGreatLcShown7
namespace Go.Proofs.YtaljddoenjgbfaaGreat
open Go.ChangeShapes Go.WideShapes Go.ChangeAt Go.RowKit Lc

set_option maxRecDepth 100000 in
theorem Free.set1 {w : World} {b c o : Nat} {u : Value} (h : Free w c) : Free (w.setCell ⟨b, o, none⟩ u) c :=
  ⟨by simpa [World.setCell] using h.1, fun j => (World.frozen?_setCell _ _ _ _).trans (h.2 j)⟩
set_option maxRecDepth 100000 in
theorem Free.seven {w : World} {b c : Nat} (h : Free w c) (v0 v1 v2 v3 v4 v5 v6 : Value) : Free (seven w b v0 v1 v2 v3 v4 v5 v6) c :=
  Free.set1 (Free.set1 (Free.set1 (Free.set1 (Free.set1 (Free.set1 (Free.set1 h))))))
set_option maxRecDepth 100000 in
theorem OwB.set1 {w : World} {base : Nat} {v : Value} {x : Blk} (h : OwB w base v x) {b : Nat} (hb : b < base) (o : Nat) (u : Value) : OwB (w.setCell ⟨b, o, none⟩ u) base v x := by
  obtain ⟨a, b', c, d, e, rfl, h1, h2, h3, h4, h5⟩ := h
  exact ⟨_, _, _, _, _, rfl, row_else h1 (row_low h1 hb) _ _, row_else h2 (row_low h2 hb) _ _, row_else h3 (row_low h3 hb) _ _, row_else h4 (row_low h4 hb) _ _, row_else h5 (row_low h5 hb) _ _⟩
set_option maxRecDepth 100000 in
theorem OwB.low7 {w : World} {base : Nat} {v : Value} {x : Blk} (h : OwB w base v x) {b : Nat} (hb : b < base) (v0 v1 v2 v3 v4 v5 v6 : Value) : OwB (Go.Proofs.YtaljddoenjgbfaaGreat.seven w b v0 v1 v2 v3 v4 v5 v6) base v x :=
  OwB.set1 (OwB.set1 (OwB.set1 (OwB.set1 (OwB.set1 (OwB.set1 (OwB.set1 h hb 0 v0) hb 1 v1) hb 2 v2) hb 3 v3) hb 4 v4) hb 5 v5) hb 6 v6
set_option maxRecDepth 100000 in
theorem cell_ne {w : World} {b i j : Nat} {u x : Value} (hn : i ≠ j) (hc : w.cell? ⟨b, j, none⟩ = some x) : (w.setCell ⟨b, i, none⟩ u).cell? ⟨b, j, none⟩ = some x := by
  rw [World.cell?_setCell_other _ _ _ _ (fun c => hn (by injection c))]; exact hc
set_option maxRecDepth 100000 in
theorem Bx7.set0 {w : World} {B : Nat} {a b c d e f g : Value} (h : Bx7 w B a b c d e f g) (u : Value) : Bx7 (w.setCell ⟨B, 0, none⟩ u) B u b c d e f g :=
  ⟨World.cell?_setCell_same _ _ _ h.1, cell_ne (by decide) h.2.1, cell_ne (by decide) h.2.2.1, cell_ne (by decide) h.2.2.2.1, cell_ne (by decide) h.2.2.2.2.1, cell_ne (by decide) h.2.2.2.2.2.1, cell_ne (by decide) h.2.2.2.2.2.2⟩
set_option maxRecDepth 100000 in
theorem Bx7.set6 {w : World} {B : Nat} {a b c d e f g : Value} (h : Bx7 w B a b c d e f g) (u : Value) : Bx7 (w.setCell ⟨B, 6, none⟩ u) B a b c d e f u :=
  ⟨cell_ne (by decide) h.1, cell_ne (by decide) h.2.1, cell_ne (by decide) h.2.2.1, cell_ne (by decide) h.2.2.2.1, cell_ne (by decide) h.2.2.2.2.1, cell_ne (by decide) h.2.2.2.2.2.1, World.cell?_setCell_same _ _ _ h.2.2.2.2.2.2⟩
set_option maxRecDepth 100000 in
theorem Bx7.seven {w : World} {B : Nat} {a b c d e f g : Value} (h : Bx7 w B a b c d e f g) (v0 v1 v2 v3 v4 v5 v6 : Value) : Bx7 (Go.Proofs.YtaljddoenjgbfaaGreat.seven w B v0 v1 v2 v3 v4 v5 v6) B v0 v1 v2 v3 v4 v5 v6 := by
  obtain ⟨h0, h1, h2, h3, h4, h5, h6⟩ := h
  have s : ∀ (W : World) (j : Nat) (x u : Value), W.cell? ⟨B, j, none⟩ = some x → (W.setCell ⟨B, j, none⟩ u).cell? ⟨B, j, none⟩ = some u := fun W j x u hc => World.cell?_setCell_same _ _ _ hc
  refine ⟨?_, ?_, ?_, ?_, ?_, ?_, ?_⟩
  · exact cell_ne (by decide) (cell_ne (by decide) (cell_ne (by decide) (cell_ne (by decide) (cell_ne (by decide) (cell_ne (by decide) (s _ 0 _ _ h0))))))
  · exact cell_ne (by decide) (cell_ne (by decide) (cell_ne (by decide) (cell_ne (by decide) (cell_ne (by decide) (s _ 1 _ _ (cell_ne (by decide) h1))))))
  · exact cell_ne (by decide) (cell_ne (by decide) (cell_ne (by decide) (cell_ne (by decide) (s _ 2 _ _ (cell_ne (by decide) (cell_ne (by decide) h2))))))
  · exact cell_ne (by decide) (cell_ne (by decide) (cell_ne (by decide) (s _ 3 _ _ (cell_ne (by decide) (cell_ne (by decide) (cell_ne (by decide) h3))))))
  · exact cell_ne (by decide) (cell_ne (by decide) (s _ 4 _ _ (cell_ne (by decide) (cell_ne (by decide) (cell_ne (by decide) (cell_ne (by decide) h4))))))
  · exact cell_ne (by decide) (s _ 5 _ _ (cell_ne (by decide) (cell_ne (by decide) (cell_ne (by decide) (cell_ne (by decide) (cell_ne (by decide) h5))))))
  · exact s _ 6 _ _ (cell_ne (by decide) (cell_ne (by decide) (cell_ne (by decide) (cell_ne (by decide) (cell_ne (by decide) (cell_ne (by decide) h6))))))
set_option maxRecDepth 100000 in
theorem FlR.of {w : World} {a b c d e : Value} {x : Blk} (h : BkR w (.agg #[a, b, c, d, e]) x) (i : Int) (s : ByteArray) : FlR w (.agg #[.int .i64 i, a, b, c, d, e, .string s]) ⟨i, x, s⟩ := ⟨a, b, c, d, e, rfl, h⟩
set_option maxRecDepth 100000 in
/-- few's answer, taken apart. -/
theorem OwF.form {w : World} {base : Nat} {v : Value} {f : Fil} (h : OwF w base v f) : ∃ A0 n0 c0 A1 n1 c1 A2 n2 c2 A3 n3 c3 A4 n4 c4, v = .agg #[.int .i64 f.ver, .slice A0 n0 c0, .slice A1 n1 c1, .slice A2 n2 c2, .slice A3 n3 c3, .slice A4 n4 c4, .string f.foot] ∧ OwB w base (.agg #[.slice A0 n0 c0, .slice A1 n1 c1, .slice A2 n2 c2, .slice A3 n3 c3, .slice A4 n4 c4]) f.blk := by
  obtain ⟨a, b, c, d, e, rfl, h⟩ := h
  obtain ⟨A0, n0, c0, A1, n1, c1, A2, n2, c2, A3, n3, c3, A4, n4, c4, q⟩ := h.rd.form
  simp only [Value.agg.injEq, Array.mk.injEq, List.cons.injEq, and_true] at q
  obtain ⟨rfl, rfl, rfl, rfl, rfl⟩ := q
  exact ⟨A0, n0, c0, A1, n1, c1, A2, n2, c2, A3, n3, c3, A4, n4, c4, rfl, h⟩
set_option maxRecDepth 100000 in
theorem set_up {w0 w : World} (u : Up w0 w) {b : Nat} (hb : w0.heap.size ≤ b) (o : Nat) (x : Value) : Up w0 (w.setCell ⟨b, o, none⟩ x) := u.setCell' (p := ⟨b, o, none⟩) hb x
set_option maxRecDepth 100000 in
theorem row_hi {w V : World} {base : Nat} {e : TypeId} {size : Nat} {v : Value} {n : Nat} {xs : List Value} (h : w.ownsRow base e size v n xs) (u : Up w V) {b : Nat} (hb : w.heap.size ≤ b) (o : Nat) (x : Value) : (V.setCell ⟨b, o, none⟩ x).ownsRow base e size v n xs :=
  row_else (row_up h u) (fun c => by have := (World.ownsRow.lt h b c).2; omega) o x
set_option maxRecDepth 100000 in
/-- A block of one's own does not care for stores into newer memory. -/
theorem OwB.hi {w V : World} {base : Nat} {v : Value} {x : Blk} (h : OwB w base v x) (up : Up w V) {b : Nat} (hb : w.heap.size ≤ b) (o : Nat) (u : Value) : OwB (V.setCell ⟨b, o, none⟩ u) base v x := by
  obtain ⟨a, b', c, d, e, rfl, h1, h2, h3, h4, h5⟩ := h
  exact ⟨_, _, _, _, _, rfl, row_hi h1 up hb _ _, row_hi h2 up hb _ _, row_hi h3 up hb _ _, row_hi h4 up hb _ _, row_hi h5 up hb _ _⟩
set_option maxRecDepth 100000 in
theorem cell_far {w : World} {b c i j : Nat} {u x : Value} (hn : b ≠ c) (hc : w.cell? ⟨c, j, none⟩ = some x) : (w.setCell ⟨b, i, none⟩ u).cell? ⟨c, j, none⟩ = some x := by
  rw [World.cell?_setCell_other _ _ _ _ (fun e => hn (by injection e))]; exact hc
set_option maxRecDepth 100000 in
theorem Bx5.far {w : World} {B C o : Nat} {u a b c d e : Value} (h : Bx5 w C a b c d e) (hn : B ≠ C) : Bx5 (w.setCell ⟨B, o, none⟩ u) C a b c d e :=
  ⟨cell_far hn h.1, cell_far hn h.2.1, cell_far hn h.2.2.1, cell_far hn h.2.2.2.1, cell_far hn h.2.2.2.2⟩
set_option maxRecDepth 100000 in
theorem Bx7.far {w : World} {B C o : Nat} {u a b c d e f g : Value} (h : Bx7 w C a b c d e f g) (hn : B ≠ C) : Bx7 (w.setCell ⟨B, o, none⟩ u) C a b c d e f g :=
  ⟨cell_far hn h.1, cell_far hn h.2.1, cell_far hn h.2.2.1, cell_far hn h.2.2.2.1, cell_far hn h.2.2.2.2.1, cell_far hn h.2.2.2.2.2.1, cell_far hn h.2.2.2.2.2.2⟩
end Go.Proofs.YtaljddoenjgbfaaGreat
