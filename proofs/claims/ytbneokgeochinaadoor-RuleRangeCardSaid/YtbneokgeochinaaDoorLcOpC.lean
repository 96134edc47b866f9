/-
  A change handed in by value: opened.
-/
import Derived.Test.YtbneokgeochinaaDoorLcOpR
namespace Go.Proofs.YtbneokgeochinaaDoor
open Go.ChangeShapes Go.WideShapes Go.ChangeAt Go.RowKit Lc

theorem rarray5 {α : Type} {l : Array α} (h : l.size = 5) : ∃ c0 c1 c2 c3 c4, l = #[c0, c1, c2, c3, c4] := by
  obtain ⟨l⟩ := l
  obtain ⟨c0, c1, c2, c3, c4, rfl⟩ := rlist5 h
  exact ⟨c0, c1, c2, c3, c4, rfl⟩
section
variable {H : Type} {enc : TypeId × Value → H} {w : World} {base : Nat} {spare : Nat → Bool} {held : Bool}
set_option maxRecDepth 100000 in
theorem open_chg {r : Reach} {b0 : Nat} {v : Value} {d : DataW H} {q : List MemPlace} (hv' : Value.okWide Tryd.prog w r b0 25 v) (h : DataW.Trod enc Tryd.prog w base spare held 25 v d q) :
    ∃ x : Ch, v = .agg (cA x) ∧ fitB x.how = true ∧ fitB x.n = true ∧ fitB x.wk = true ∧ fitB x.wd = true ∧ fitB x.tm = true := by
  obtain ⟨cs, rfl, hsz⟩ := okWide_struct Tryd.underlying25 hv'
  obtain ⟨c0, c1, c2, c3, c4, rfl⟩ := rarray5 (hsz.trans cellsC)
  obtain ⟨fuel, hf⟩ := h
  obtain ⟨k, rfl, rfl, rfl, rfl, rfl, f0, f1, f2, f3, f4⟩ := open_ch hf
  exact ⟨k, rfl, f0, f1, f2, f3, f4⟩
end
end Go.Proofs.YtbneokgeochinaaDoor
