/-
  A header handed in by value: opened to its seven numbers.
-/
import Derived.Test.YtoijaananjlfpaaLcHdrA
import Derived.ChangeSame
import Derived.OpenShut
import Derived.WideShapes
namespace Go.Proofs.Ytoijaananjlfpaa
open Go.ChangeShapes Go.WideShapes Go.ChangeAt Go.RowKit Lc

theorem list7 {α : Type} {l : List α} (h : l.length = 7) : ∃ c0 c1 c2 c3 c4 c5 c6, l = [c0, c1, c2, c3, c4, c5, c6] := by
  match l, h with
  | [c0, c1, c2, c3, c4, c5, c6], _ => exact ⟨c0, c1, c2, c3, c4, c5, c6, rfl⟩
theorem array7 {α : Type} {l : Array α} (h : l.size = 7) : ∃ c0 c1 c2 c3 c4 c5 c6, l = #[c0, c1, c2, c3, c4, c5, c6] := by
  obtain ⟨l⟩ := l
  obtain ⟨c0, c1, c2, c3, c4, c5, c6, rfl⟩ := list7 h
  exact ⟨c0, c1, c2, c3, c4, c5, c6, rfl⟩
theorem hdrCells : Try.prog.cellsOf 35 = 7 := by kernel_rfl
theorem intCells7 : Try.prog.cellsOf 3 = 1 := by kernel_rfl

section
variable {H : Type} {enc : TypeId × Value → H} {w : World} {base : Nat} {spare : Nat → Bool} {held : Bool}
set_option maxRecDepth 100000 in
theorem open_hdr {r : Reach} {b0 : Nat} {v : Value} {d : DataW H} {p : List MemPlace} (hv' : Value.okWide Try.prog w r b0 35 v) (h : DataW.Trod enc Try.prog w base spare held 35 v d p) :
    ∃ a b c e f g k : Int, v = hv a b c e f g k ∧ (Lit.int .i64 a).wf = true ∧ (Lit.int .i64 b).wf = true ∧ (Lit.int .i64 c).wf = true ∧ (Lit.int .i64 e).wf = true ∧ (Lit.int .i64 f).wf = true ∧ (Lit.int .i64 g).wf = true ∧ (Lit.int .i64 k).wf = true := by
  obtain ⟨cs, rfl, hsz⟩ := okWide_struct Try.underlying35 hv'
  obtain ⟨c0, c1, c2, c3, c4, c5, c6, rfl⟩ := array7 (hsz.trans hdrCells)
  obtain ⟨fuel, hf⟩ := h
  obtain ⟨xs, n, _, hx, _, hlen, hg⟩ := DataW.trod_struct Try.underlying35 hf
  obtain ⟨y0, y1, y2, y3, y4, y5, y6, rfl⟩ := list7 (l := xs) hlen
  have g0 : DataW.trod enc Try.prog w base spare held n 3 [c0] = some y0 := by
    have q : DataW.trod enc Try.prog w base spare held n 3 (List.take (Try.prog.cellsOf 3) (List.drop 0 [c0, c1, c2, c3, c4, c5, c6])) = some y0 := hg 0 _ rfl
    rw [intCells7] at q
    exact q
  have g1 : DataW.trod enc Try.prog w base spare held n 3 [c1] = some y1 := by
    have q : DataW.trod enc Try.prog w base spare held n 3 (List.take (Try.prog.cellsOf 3) (List.drop 1 [c0, c1, c2, c3, c4, c5, c6])) = some y1 := hg 1 _ rfl
    rw [intCells7] at q
    exact q
  have g2 : DataW.trod enc Try.prog w base spare held n 3 [c2] = some y2 := by
    have q : DataW.trod enc Try.prog w base spare held n 3 (List.take (Try.prog.cellsOf 3) (List.drop 2 [c0, c1, c2, c3, c4, c5, c6])) = some y2 := hg 2 _ rfl
    rw [intCells7] at q
    exact q
  have g3 : DataW.trod enc Try.prog w base spare held n 3 [c3] = some y3 := by
    have q : DataW.trod enc Try.prog w base spare held n 3 (List.take (Try.prog.cellsOf 3) (List.drop 3 [c0, c1, c2, c3, c4, c5, c6])) = some y3 := hg 3 _ rfl
    rw [intCells7] at q
    exact q
  have g4 : DataW.trod enc Try.prog w base spare held n 3 [c4] = some y4 := by
    have q : DataW.trod enc Try.prog w base spare held n 3 (List.take (Try.prog.cellsOf 3) (List.drop 4 [c0, c1, c2, c3, c4, c5, c6])) = some y4 := hg 4 _ rfl
    rw [intCells7] at q
    exact q
  have g5 : DataW.trod enc Try.prog w base spare held n 3 [c5] = some y5 := by
    have q : DataW.trod enc Try.prog w base spare held n 3 (List.take (Try.prog.cellsOf 3) (List.drop 5 [c0, c1, c2, c3, c4, c5, c6])) = some y5 := hg 5 _ rfl
    rw [intCells7] at q
    exact q
  have g6 : DataW.trod enc Try.prog w base spare held n 3 [c6] = some y6 := by
    have q : DataW.trod enc Try.prog w base spare held n 3 (List.take (Try.prog.cellsOf 3) (List.drop 6 [c0, c1, c2, c3, c4, c5, c6])) = some y6 := hg 6 _ rfl
    rw [intCells7] at q
    exact q
  obtain ⟨x0, e0, rfl, w0⟩ := DataW.trod_int Try.underlying3 g0
  obtain ⟨x1, e1, rfl, w1⟩ := DataW.trod_int Try.underlying3 g1
  obtain ⟨x2, e2, rfl, w2⟩ := DataW.trod_int Try.underlying3 g2
  obtain ⟨x3, e3, rfl, w3⟩ := DataW.trod_int Try.underlying3 g3
  obtain ⟨x4, e4, rfl, w4⟩ := DataW.trod_int Try.underlying3 g4
  obtain ⟨x5, e5, rfl, w5⟩ := DataW.trod_int Try.underlying3 g5
  obtain ⟨x6, e6, rfl, w6⟩ := DataW.trod_int Try.underlying3 g6
  have k0 : c0 = .int .i64 x0 := by injection e0
  have k1 : c1 = .int .i64 x1 := by injection e1
  have k2 : c2 = .int .i64 x2 := by injection e2
  have k3 : c3 = .int .i64 x3 := by injection e3
  have k4 : c4 = .int .i64 x4 := by injection e4
  have k5 : c5 = .int .i64 x5 := by injection e5
  have k6 : c6 = .int .i64 x6 := by injection e6
  subst k0 k1 k2 k3 k4 k5 k6
  exact ⟨x0, x1, x2, x3, x4, x5, x6, rfl, w0, w1, w2, w3, w4, w5, w6⟩
end
end Go.Proofs.Ytoijaananjlfpaa
