/-
  few, of a file: what is known of each slot of its great region.
-/
import Derived.Test.YtaljddoenjgbfaaGreatLcFewG
namespace Go.Proofs.YtaljddoenjgbfaaGreat
open Go.ChangeShapes Go.WideShapes Go.ChangeAt Go.RowKit Lc
/-- What is known of each slot. -/
def fG (base B : Nat) (A0 A1 A2 A3 A4 : Option Addr) (c0 c1 c2 c3 c4 : Nat) (x : Blk) (t : Tmp) (v : Value) (w : World) : Prop :=
  if t = 4 then ∃ b, v = .pointer (some ⟨b, 0, none⟩) ∧ base ≤ b ∧ w.heap[b]? = some (.cells #[.slice none 0 0, .slice none 0 0, .slice none 0 0, .slice none 0 0, .slice none 0 0] 27 (0, 0))
  else if t = 53 then OwB w base v (cut5 x)
  else if t < 17 then gP base B 0 51 3 A0 x.ks.length c0 (cut5 x).ks.length (kc (cut5 x).ks) (t - 8) v w
  else if t < 26 then gP base B 1 70 2 A1 x.js.length c1 (cut5 x).js.length (jc (cut5 x).js) (t - 17) v w
  else if t < 35 then gP base B 2 73 2 A2 x.ls.length c2 (cut5 x).ls.length (lc (cut5 x).ls) (t - 26) v w
  else if t < 44 then gP base B 3 4 1 A3 x.sd.length c3 (cut5 x).sd.length (oc (cut5 x).sd) (t - 35) v w
  else gP base B 4 4 1 A4 x.ut.length c4 (cut5 x).ut.length (oc (cut5 x).ut) (t - 44) v w
set_option maxRecDepth 100000 in
theorem fG_up {base B : Nat} {A0 A1 A2 A3 A4 : Option Addr} {c0 c1 c2 c3 c4 : Nat} {x : Blk} (t : Tmp) (v : Value) (w w' : World) (h : fG base B A0 A1 A2 A3 A4 c0 c1 c2 c3 c4 x t v w) (u : Up w w') : fG base B A0 A1 A2 A3 A4 c0 c1 c2 c3 c4 x t v w' := by
  unfold fG at *
  by_cases t3 : t = 4
  · rw [if_pos t3] at h ⊢
    obtain ⟨b, h1, h2, h3⟩ := h
    refine ⟨b, h1, h2, ?_⟩
    have lt : b < w.heap.size := by
      rcases Nat.lt_or_ge b w.heap.size with g | g
      · exact g
      · rw [Array.getElem?_eq_none g] at h3; cases h3
    rw [u.block b lt]; exact h3
  rw [if_neg t3] at h ⊢
  by_cases t50 : t = 53
  · rw [if_pos t50] at h ⊢; exact h.up u
  rw [if_neg t50] at h ⊢
  by_cases t14 : t < 17
  · rw [if_pos t14] at h ⊢; exact gP_up h u
  rw [if_neg t14] at h ⊢
  by_cases t23 : t < 26
  · rw [if_pos t23] at h ⊢; exact gP_up h u
  rw [if_neg t23] at h ⊢
  by_cases t32 : t < 35
  · rw [if_pos t32] at h ⊢; exact gP_up h u
  rw [if_neg t32] at h ⊢
  by_cases t41 : t < 44
  · rw [if_pos t41] at h ⊢; exact gP_up h u
  rw [if_neg t41] at h ⊢
  exact gP_up h u
end Go.Proofs.YtaljddoenjgbfaaGreat
