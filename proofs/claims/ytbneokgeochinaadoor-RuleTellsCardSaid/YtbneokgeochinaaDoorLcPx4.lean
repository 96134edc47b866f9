/-
  Places in a text, plain: what the document's loops over digits, letters and signs find.
-/
import Derived.Test.YtbneokgeochinaaDoorLcPx3
namespace Go.Proofs.YtbneokgeochinaaDoor
open Go

theorem at_cons {L t : List UInt8} {k : Nat} {c : UInt8} (h : L.drop k = c :: t) : k < L.length ∧ L.getD k 0 = c ∧ L.drop (k + 1) = t := by
  have hk : k < L.length := by
    rcases Nat.lt_or_ge k L.length with q | q
    · exact q
    · rw [List.drop_eq_nil_of_le q] at h; cases h
  have e := List.drop_eq_getElem_cons hk
  rw [e] at h
  injection h with h1 h2
  refine ⟨hk, ?_, h2⟩
  rw [List.getD_eq_getElem?_getD, List.getElem?_eq_getElem hk]; exact h1
theorem at_nil {L : List UInt8} {k : Nat} (h : L.drop k = []) : L.length ≤ k := by simpa using h
theorem getD_drop (L : List UInt8) (k j : Nat) : (L.drop k).getD j 0 = L.getD (k + j) 0 := by simp [List.getD_eq_getElem?_getD, List.getElem?_drop]
theorem take_getD {l : List UInt8} {m j : Nat} (h : j < m) : (l.take m).getD j 0 = l.getD j 0 := by simp [List.getD_eq_getElem?_getD, h]
theorem take_snoc (d : List UInt8) (j : Nat) (h : j < d.length) : d.take (j + 1) = d.take j ++ [d.getD j 0] := by
  rw [List.take_succ_eq_append_getElem h, List.getD_eq_getElem?_getD, List.getElem?_eq_getElem h]; rfl

/-- The digits that are taken at a place. -/
def dgk (most : Nat) (L : List UInt8) (k : Nat) : List UInt8 := (dgs (L.drop k)).take most
theorem tw_get4 {p : UInt8 → Bool} : ∀ (l : List UInt8) (j : Nat), j < (l.takeWhile p).length → (l.takeWhile p).getD j 0 = l.getD j 0 ∧ j < l.length ∧ p (l.getD j 0) = true
  | [], j, h => by simp at h
  | x :: l, j, h => by
    by_cases c : p x = true
    · simp only [List.takeWhile, c, List.length_cons] at h ⊢
      rcases j with _ | j
      · exact ⟨rfl, by omega, c⟩
      · have := tw_get4 (p := p) l j (by omega)
        exact ⟨by simpa using this.1, by omega, by simpa using this.2.2⟩
    · simp [List.takeWhile, c] at h
theorem tw_end {p : UInt8 → Bool} : ∀ (l : List UInt8), (l.takeWhile p).length < l.length → p (l.getD (l.takeWhile p).length 0) = false
  | [], h => by simp at h
  | x :: l, h => by
    by_cases c : p x = true
    · simp only [List.takeWhile, c, List.length_cons] at h ⊢
      have := tw_end (p := p) l (by omega)
      simpa using this
    · simp [List.takeWhile, c]
theorem dgk_in (most : Nat) (L : List UInt8) (k j : Nat) (h : j < (dgk most L k).length) :
    k + j < L.length ∧ j < most ∧ isDg (L.getD (k + j) 0) = true ∧ val ((dgk most L k).take (j + 1)) = val ((dgk most L k).take j) * 10 + (((L.getD (k + j) 0).toNat : Int) - 48) := by
  have h' := h
  unfold dgk at h'
  rw [List.length_take] at h'
  obtain ⟨g1, g2, g3⟩ := tw_get4 (p := isDg) (L.drop k) j (by show j < (dgs (L.drop k)).length; omega)
  rw [getD_drop] at g1 g3
  rw [List.length_drop] at g2
  refine ⟨by omega, by omega, g3, ?_⟩
  rw [take_snoc _ _ h, val_snoc]
  have : (dgk most L k).getD j 0 = L.getD (k + j) 0 := by
    unfold dgk
    rw [take_getD (by omega)]
    exact g1
  rw [this]
theorem dgk_out (most : Nat) (L : List UInt8) (k : Nat) (h1 : k + (dgk most L k).length < L.length) (h2 : (dgk most L k).length < most) : isDg (L.getD (k + (dgk most L k).length) 0) = false := by
  have e : dgk most L k = dgs (L.drop k) := by
    unfold dgk at *
    rw [List.length_take] at h2
    rw [List.take_of_length_le (by omega)]
  rw [e] at h1 ⊢
  rw [← getD_drop]
  exact tw_end (p := isDg) (L.drop k) (by rw [List.length_drop]; show (dgs (L.drop k)).length < _; omega)
theorem dgk_le (most : Nat) (L : List UInt8) (k : Nat) : (dgk most L k).length ≤ most := by unfold dgk; rw [List.length_take]; omega
theorem dgk_bd (most : Nat) (L : List UInt8) (k j : Nat) (hm : most ≤ 3) : 0 ≤ val ((dgk most L k).take j) ∧ val ((dgk most L k).take j) < 1000 := by
  have ha : ((dgk most L k).take j).all isDg = true := by
    have := dgs_all (L.drop k)
    rw [List.all_eq_true] at *
    exact fun x hx => this x (List.mem_of_mem_take (List.mem_of_mem_take hx))
  have := val_bd _ _ rfl ha
  have hl : ((dgk most L k).take j).length ≤ 3 := by
    have := dgk_le most L k
    rw [List.length_take]; omega
  have h3 : (10 : Int) ^ ((dgk most L k).take j).length ≤ 10 ^ 3 := by
    have : 10 ^ ((dgk most L k).take j).length ≤ 10 ^ 3 := Nat.pow_le_pow_right (by decide) hl
    exact_mod_cast this
  omega
theorem numD_no {most : Nat} {L : List UInt8} {k : Nat} : numD most (L.drop k) = none ↔ (dgk most L k).length = 0 := by
  unfold numD
  rw [show (dgs (L.drop k)).take most = dgk most L k from rfl]
  split
  · rename_i e; simp [e]
  · rename_i e; simp [e]
theorem numD_yes {most : Nat} {L t : List UInt8} {k : Nat} {n : Int} (h : numD most (L.drop k) = some (n, t)) : (dgk most L k).length ≠ 0 ∧ n = val (dgk most L k) ∧ L.drop (k + (dgk most L k).length) = t := by
  unfold numD at h
  rw [show (dgs (L.drop k)).take most = dgk most L k from rfl] at h
  split at h
  · cases h
  · rename_i e
    simp only [Option.some.injEq, Prod.mk.injEq] at h
    obtain ⟨rfl, rfl⟩ := h
    exact ⟨by simpa using e, rfl, by rw [List.drop_drop]⟩
theorem dgk_end (most : Nat) (L : List UInt8) (k : Nat) (hk : k ≤ L.length) : k + (dgk most L k).length ≤ L.length := by
  rcases Nat.eq_zero_or_pos (dgk most L k).length with h | h
  · omega
  · have := (dgk_in most L k ((dgk most L k).length - 1) (by omega)).1
    omega
theorem numD_bd {most : Nat} {L t : List UInt8} {n : Int} (hm : most ≤ 3) (h : numD most L = some (n, t)) : 0 ≤ n ∧ n < 1000 := by
  have h' : numD most (L.drop 0) = some (n, t) := h
  obtain ⟨_, rfl, _⟩ := numD_yes h'
  have := dgk_bd most L 0 most hm
  rw [List.take_of_length_le (dgk_le most L 0)] at this
  exact this
theorem clockD_bd {dg : Nat} {most : Int} {l t : List UInt8} {x : Int} (hd : dg ≤ 3) (h : clockD dg most l = some (x, t)) : 0 ≤ x ∧ x < 3700000 := by
  unfold clockD at h
  split at h
  · cases h
  · rename_i n t0 e0
    have n0 := numD_bd hd e0
    split at h
    · cases h
    · split at h
      · simp only [Option.some.injEq, Prod.mk.injEq] at h
        omega
      · split at h
        · cases h
        · rename_i m t2 e2
          have m0 := pairD_bd e2
          split at h
          · simp only [Option.some.injEq, Prod.mk.injEq] at h
            omega
          · split at h
            · cases h
            · rename_i s t4 e4
              have s0 := pairD_bd e4
              simp only [Option.some.injEq, Prod.mk.injEq] at h
              omega
theorem anyD_bd {sign wide : Bool} {l t : List UInt8} {x : Int} (h : anyD sign wide l = some (x, t)) : -3700000 < x ∧ x < 3700000 := by
  have hs : ∀ dg most l t x, dg ≤ 3 → signedD dg most l = some (x, t) → -3700000 < x ∧ x < 3700000 := fun dg most l t x hd h => by
    unfold signedD at h
    split at h
    · split at h
      · cases h
      · rename_i y t1 e1
        have := clockD_bd hd e1
        simp only [Option.some.injEq, Prod.mk.injEq] at h
        omega
    · split at h
      · have := clockD_bd hd h; omega
      · have := clockD_bd hd h; omega
  unfold anyD at h
  cases sign <;> cases wide <;> simp only [Bool.false_eq_true, if_false, if_true] at h
  · have := clockD_bd (by decide) h; omega
  · have := clockD_bd (by decide) h; omega
  · exact hs _ _ _ _ _ (by decide) h
  · exact hs _ _ _ _ _ (by decide) h
end Go.Proofs.YtbneokgeochinaaDoor
