/-
  A rule handed in by value: opened.
-/
import Derived.Test.YtbneokgeochinaaDoorLcRj
import Derived.ChangeSame
import Derived.OpenShut
import Derived.WideShapes
import Derived.ChangeMaps5
namespace Go.Proofs.YtbneokgeochinaaDoor
open Go.ChangeShapes Go.WideShapes Go.ChangeAt Go.RowKit Lc

theorem rlist3 {α : Type} {l : List α} (h : l.length = 3) : ∃ c0 c1 c2, l = [c0, c1, c2] := by
  match l, h with
  | [c0, c1, c2], _ => exact ⟨c0, c1, c2, rfl⟩
theorem rlist5 {α : Type} {l : List α} (h : l.length = 5) : ∃ c0 c1 c2 c3 c4, l = [c0, c1, c2, c3, c4] := by
  match l, h with
  | [c0, c1, c2, c3, c4], _ => exact ⟨c0, c1, c2, c3, c4, rfl⟩
theorem rlist17 {α : Type} {l : List α} (h : l.length = 17) : ∃ c0 c1 c2 c3 c4 c5 c6 c7 c8 c9 c10 c11 c12 c13 c14 c15 c16, l = [c0, c1, c2, c3, c4, c5, c6, c7, c8, c9, c10, c11, c12, c13, c14, c15, c16] := by
  match l, h with
  | [c0, c1, c2, c3, c4, c5, c6, c7, c8, c9, c10, c11, c12, c13, c14, c15, c16], _ => exact ⟨c0, c1, c2, c3, c4, c5, c6, c7, c8, c9, c10, c11, c12, c13, c14, c15, c16, rfl⟩
theorem rarray17 {α : Type} {l : Array α} (h : l.size = 17) : ∃ c0 c1 c2 c3 c4 c5 c6 c7 c8 c9 c10 c11 c12 c13 c14 c15 c16, l = #[c0, c1, c2, c3, c4, c5, c6, c7, c8, c9, c10, c11, c12, c13, c14, c15, c16] := by
  obtain ⟨l⟩ := l
  obtain ⟨c0, c1, c2, c3, c4, c5, c6, c7, c8, c9, c10, c11, c12, c13, c14, c15, c16, rfl⟩ := rlist17 h
  exact ⟨c0, c1, c2, c3, c4, c5, c6, c7, c8, c9, c10, c11, c12, c13, c14, c15, c16, rfl⟩
theorem cellsR : Tryd.prog.cellsOf 27 = 17 := by kernel_rfl
theorem cellsK : Tryd.prog.cellsOf 23 = 3 := by kernel_rfl
theorem cellsC : Tryd.prog.cellsOf 25 = 5 := by kernel_rfl
theorem cellsI : Tryd.prog.cellsOf 3 = 1 := by kernel_rfl
theorem cellsB : Tryd.prog.cellsOf 4 = 1 := by kernel_rfl
theorem cellsS : Tryd.prog.cellsOf 9 = 1 := by kernel_rfl
section
variable {H : Type} {enc : TypeId × Value → H} {w : World} {base : Nat} {spare : Nat → Bool} {held : Bool}
set_option maxRecDepth 100000 in
theorem open_kd {n : Nat} {a b c : Value} {y : DataW H × List MemPlace} (hf : DataW.trod enc Tryd.prog w base spare held n 23 [a, b, c] = some y) :
    ∃ k : Kd, a = .int .i64 k.off ∧ b = .bool k.dst ∧ c = .string (tx k.name) ∧ (Lit.int .i64 k.off).wf = true ∧ k.name.length ≤ maxLen := by
  obtain ⟨xs, n, _, hx, _, hlen, hg⟩ := DataW.trod_struct Tryd.underlying23 hf
  obtain ⟨y0, y1, y2, rfl⟩ := rlist3 (l := xs) hlen
  have g0 : DataW.trod enc Tryd.prog w base spare held n 3 [a] = some y0 := by
    have q : DataW.trod enc Tryd.prog w base spare held n 3 (List.take (Tryd.prog.cellsOf 3) (List.drop 0 [a, b, c])) = some y0 := hg 0 _ rfl
    rw [cellsI] at q; exact q
  have g1 : DataW.trod enc Tryd.prog w base spare held n 4 [b] = some y1 := by
    have q : DataW.trod enc Tryd.prog w base spare held n 4 (List.take (Tryd.prog.cellsOf 4) (List.drop 1 [a, b, c])) = some y1 := hg 1 _ rfl
    rw [cellsB] at q; exact q
  have g2 : DataW.trod enc Tryd.prog w base spare held n 9 [c] = some y2 := by
    have q : DataW.trod enc Tryd.prog w base spare held n 9 (List.take (Tryd.prog.cellsOf 9) (List.drop 2 [a, b, c])) = some y2 := hg 2 _ rfl
    rw [cellsS] at q; exact q
  obtain ⟨x0, e0, _, w0⟩ := DataW.trod_int Tryd.underlying3 g0
  obtain ⟨x1, e1, _⟩ := DataW.trod_bool Tryd.underlying4 g1
  obtain ⟨x2, e2, _, w2⟩ := DataW.trod_string Tryd.underlying9 g2
  have k0 : a = .int .i64 x0 := by injection e0
  have k1 : b = .bool x1 := by injection e1
  have k2 : c = .string x2 := by injection e2
  refine ⟨⟨x0, x1, x2.data.toList⟩, k0, k1, ?_, w0, ?_⟩
  · rw [← tx_of]; exact k2
  · have := tx_size x2.data.toList
    rw [← tx_of] at this
    simp only; omega
set_option maxRecDepth 100000 in
theorem open_ch {n : Nat} {c0 c1 c2 c3 c4 : Value} {y : DataW H × List MemPlace} (hf : DataW.trod enc Tryd.prog w base spare held n 25 [c0, c1, c2, c3, c4] = some y) :
    ∃ k : Ch, c0 = .int .i64 k.how ∧ c1 = .int .i64 k.n ∧ c2 = .int .i64 k.wk ∧ c3 = .int .i64 k.wd ∧ c4 = .int .i64 k.tm ∧ fitB k.how = true ∧ fitB k.n = true ∧ fitB k.wk = true ∧ fitB k.wd = true ∧ fitB k.tm = true := by
  obtain ⟨xs, n, _, hx, _, hlen, hg⟩ := DataW.trod_struct Tryd.underlying25 hf
  obtain ⟨y0, y1, y2, y3, y4, rfl⟩ := rlist5 (l := xs) hlen
  have g0 : DataW.trod enc Tryd.prog w base spare held n 3 [c0] = some y0 := by
    have q : DataW.trod enc Tryd.prog w base spare held n 3 (List.take (Tryd.prog.cellsOf 3) (List.drop 0 [c0, c1, c2, c3, c4])) = some y0 := hg 0 _ rfl
    rw [cellsI] at q; exact q
  obtain ⟨x0, e0, _, w0⟩ := DataW.trod_int Tryd.underlying3 g0
  have k0 : c0 = .int .i64 x0 := by injection e0
  have g1 : DataW.trod enc Tryd.prog w base spare held n 3 [c1] = some y1 := by
    have q : DataW.trod enc Tryd.prog w base spare held n 3 (List.take (Tryd.prog.cellsOf 3) (List.drop 1 [c0, c1, c2, c3, c4])) = some y1 := hg 1 _ rfl
    rw [cellsI] at q; exact q
  obtain ⟨x1, e1, _, w1⟩ := DataW.trod_int Tryd.underlying3 g1
  have k1 : c1 = .int .i64 x1 := by injection e1
  have g2 : DataW.trod enc Tryd.prog w base spare held n 3 [c2] = some y2 := by
    have q : DataW.trod enc Tryd.prog w base spare held n 3 (List.take (Tryd.prog.cellsOf 3) (List.drop 2 [c0, c1, c2, c3, c4])) = some y2 := hg 2 _ rfl
    rw [cellsI] at q; exact q
  obtain ⟨x2, e2, _, w2⟩ := DataW.trod_int Tryd.underlying3 g2
  have k2 : c2 = .int .i64 x2 := by injection e2
  have g3 : DataW.trod enc Tryd.prog w base spare held n 3 [c3] = some y3 := by
    have q : DataW.trod enc Tryd.prog w base spare held n 3 (List.take (Tryd.prog.cellsOf 3) (List.drop 3 [c0, c1, c2, c3, c4])) = some y3 := hg 3 _ rfl
    rw [cellsI] at q; exact q
  obtain ⟨x3, e3, _, w3⟩ := DataW.trod_int Tryd.underlying3 g3
  have k3 : c3 = .int .i64 x3 := by injection e3
  have g4 : DataW.trod enc Tryd.prog w base spare held n 3 [c4] = some y4 := by
    have q : DataW.trod enc Tryd.prog w base spare held n 3 (List.take (Tryd.prog.cellsOf 3) (List.drop 4 [c0, c1, c2, c3, c4])) = some y4 := hg 4 _ rfl
    rw [cellsI] at q; exact q
  obtain ⟨x4, e4, _, w4⟩ := DataW.trod_int Tryd.underlying3 g4
  have k4 : c4 = .int .i64 x4 := by injection e4
  exact ⟨⟨x0, x1, x2, x3, x4⟩, k0, k1, k2, k3, k4, fit_wf w0, fit_wf w1, fit_wf w2, fit_wf w3, fit_wf w4⟩
set_option maxRecDepth 100000 in
theorem open_rul {r : Reach} {b0 : Nat} {v : Value} {d : DataW H} {q : List MemPlace} (hv' : Value.okWide Tryd.prog w r b0 27 v) (h : DataW.Trod enc Tryd.prog w base spare held 27 v d q) :
    ∃ x : Ru, v = .agg (rA x) ∧ fitB x.std.off = true ∧ fitB x.dst.off = true ∧ x.std.name.length ≤ maxLen ∧ x.dst.name.length ≤ maxLen ∧ fitB x.st.tm = true ∧ fitB x.en.tm = true := by
  obtain ⟨cs, rfl, hsz⟩ := okWide_struct Tryd.underlying27 hv'
  obtain ⟨c0, c1, c2, c3, c4, c5, c6, c7, c8, c9, c10, c11, c12, c13, c14, c15, c16, rfl⟩ := rarray17 (hsz.trans cellsR)
  obtain ⟨fuel, hf⟩ := h
  obtain ⟨xs, n, _, hx, _, hlen, hg⟩ := DataW.trod_struct Tryd.underlying27 hf
  obtain ⟨y0, y1, y2, y3, y4, rfl⟩ := rlist5 (l := xs) hlen
  have g0 : DataW.trod enc Tryd.prog w base spare held n 23 [c0, c1, c2] = some y0 := by
    have q : DataW.trod enc Tryd.prog w base spare held n 23 (List.take (Tryd.prog.cellsOf 23) (List.drop 0 [c0, c1, c2, c3, c4, c5, c6, c7, c8, c9, c10, c11, c12, c13, c14, c15, c16])) = some y0 := hg 0 _ rfl
    rw [cellsK] at q; exact q
  have g1 : DataW.trod enc Tryd.prog w base spare held n 23 [c3, c4, c5] = some y1 := by
    have q : DataW.trod enc Tryd.prog w base spare held n 23 (List.take (Tryd.prog.cellsOf 23) (List.drop 3 [c0, c1, c2, c3, c4, c5, c6, c7, c8, c9, c10, c11, c12, c13, c14, c15, c16])) = some y1 := hg 1 _ rfl
    rw [cellsK] at q; exact q
  have g2 : DataW.trod enc Tryd.prog w base spare held n 4 [c6] = some y2 := by
    have q : DataW.trod enc Tryd.prog w base spare held n 4 (List.take (Tryd.prog.cellsOf 4) (List.drop 6 [c0, c1, c2, c3, c4, c5, c6, c7, c8, c9, c10, c11, c12, c13, c14, c15, c16])) = some y2 := hg 2 _ rfl
    rw [cellsB] at q; exact q
  have g3 : DataW.trod enc Tryd.prog w base spare held n 25 [c7, c8, c9, c10, c11] = some y3 := by
    have q : DataW.trod enc Tryd.prog w base spare held n 25 (List.take (Tryd.prog.cellsOf 25) (List.drop 7 [c0, c1, c2, c3, c4, c5, c6, c7, c8, c9, c10, c11, c12, c13, c14, c15, c16])) = some y3 := hg 3 _ rfl
    rw [cellsC] at q; exact q
  have g4 : DataW.trod enc Tryd.prog w base spare held n 25 [c12, c13, c14, c15, c16] = some y4 := by
    have q : DataW.trod enc Tryd.prog w base spare held n 25 (List.take (Tryd.prog.cellsOf 25) (List.drop 12 [c0, c1, c2, c3, c4, c5, c6, c7, c8, c9, c10, c11, c12, c13, c14, c15, c16])) = some y4 := hg 4 _ rfl
    rw [cellsC] at q; exact q
  obtain ⟨k, rfl, rfl, rfl, wk, nk⟩ := open_kd g0
  obtain ⟨j, rfl, rfl, rfl, wj, nj⟩ := open_kd g1
  obtain ⟨x2, e2, _⟩ := DataW.trod_bool Tryd.underlying4 g2
  have k2 : c6 = .bool x2 := by injection e2
  obtain ⟨a, rfl, rfl, rfl, rfl, rfl, _, _, _, _, fa⟩ := open_ch g3
  obtain ⟨b, rfl, rfl, rfl, rfl, rfl, _, _, _, _, fb⟩ := open_ch g4
  subst k2
  exact ⟨⟨k, j, x2, a, b⟩, rfl, fit_wf wk, fit_wf wj, nk, nj, fa, fb⟩
end
theorem rarray5 {α : Type} {l : Array α} (h : l.size = 5) : ∃ c0 c1 c2 c3 c4, l = #[c0, c1, c2, c3, c4] := by
  obtain ⟨l⟩ := l
  obtain ⟨c0, c1, c2, c3, c4, rfl⟩ := rlist5 h
  exact ⟨c0, c1, c2, c3, c4, rfl⟩
section
variable {H : Type} {enc : TypeId × Value → H} {w : World} {base : Nat} {spare : Nat → Bool} {held : Bool}
set_option maxRecDepth 100000 in
theorem open_chg {r : Reach} {b0 : Nat} {v : Value} {d : DataW H} {q : List MemPlace} (hv' : Value.okWide Tryd.prog w r b0 25 v) (h : DataW.Trod enc Tryd.prog w base spare held 25 v d q) :
    ∃ x : Ch, v = .agg (cA x) ∧ fitB x.how = true ∧ fitB x.n = true ∧ fitB x.wk = true ∧ fitB x.wd = true ∧ fitB x.tm = true := by
  obtain ⟨cs, rfl, hsz⟩ := okWide_struct Tryd.underlying25 hv'
  obtain ⟨c0, c1, c2, c3, c4, rfl⟩ := rarray5 (hsz.trans cellsC)
  obtain ⟨fuel, hf⟩ := h
  obtain ⟨k, rfl, rfl, rfl, rfl, rfl, f0, f1, f2, f3, f4⟩ := open_ch hf
  exact ⟨k, rfl, f0, f1, f2, f3, f4⟩
end
end Go.Proofs.YtbneokgeochinaaDoor
