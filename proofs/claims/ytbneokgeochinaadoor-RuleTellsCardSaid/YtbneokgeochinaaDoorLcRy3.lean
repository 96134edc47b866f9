/-
  Just at a turn, and just ahead of it, what is in force: plain, of no program (layer 9).
-/
import Derived.Test.YtbneokgeochinaaDoorLcRy2
namespace Go.Proofs.YtbneokgeochinaaDoor
open Go Lc

/-- Years that may be, around one. -/
theorem okT_of {r : Ru} {n : Int} (hr : rightB r true = true) (hb : r.both = true) (h1 : -2147483648 ≤ n) (h2 : n ≤ 2147483647) : okT r n = true := by
  unfold okT yrB inB
  rw [hr, hb]
  simp [h1, h2]
/-- What the last turn tells, of three years. -/
theorem in_cases {r : Ru} {t y : Int} {z : As} (hz : Inv3 r t (fun m => ((False ∨ m = y - 1) ∨ m = y) ∨ m = y + 1) z) :
    (z.any = false ∧ t < tnS r (y - 1) ∧ t < tnS r y ∧ t < tnS r (y + 1) ∧ t < tnE r (y - 1) ∧ t < tnE r y ∧ t < tnE r (y + 1)) ∨
    (z.any = true ∧ z.last ≤ t ∧ (tnS r (y - 1) ≤ t → tnS r (y - 1) ≤ z.last ∧ (tnS r (y - 1) = z.last → z.dst = true)) ∧ (tnS r y ≤ t → tnS r y ≤ z.last ∧ (tnS r y = z.last → z.dst = true)) ∧ (tnS r (y + 1) ≤ t → tnS r (y + 1) ≤ z.last ∧ (tnS r (y + 1) = z.last → z.dst = true)) ∧
      (tnE r (y - 1) ≤ t → tnE r (y - 1) ≤ z.last) ∧ (tnE r y ≤ t → tnE r y ≤ z.last) ∧ (tnE r (y + 1) ≤ t → tnE r (y + 1) ≤ z.last) ∧
      ((z.dst = true ∧ (tnS r (y - 1) = z.last ∨ tnS r y = z.last ∨ tnS r (y + 1) = z.last)) ∨ (z.dst = false ∧ (tnE r (y - 1) = z.last ∨ tnE r y = z.last ∨ tnE r (y + 1) = z.last)))) := by
  have a1 : (fun m => ((False ∨ m = y - 1) ∨ m = y) ∨ m = y + 1) (y - 1) := .inl (.inl (.inr rfl))
  have a2 : (fun m => ((False ∨ m = y - 1) ∨ m = y) ∨ m = y + 1) y := .inl (.inr rfl)
  have a3 : (fun m => ((False ∨ m = y - 1) ∨ m = y) ∨ m = y + 1) (y + 1) := .inr rfl
  cases h : z.any
  · left
    obtain ⟨n1, n2⟩ := hz.l.no h
    exact ⟨rfl, n1 _ a1, n1 _ a2, n1 _ a3, n2 _ a1, n2 _ a2, n2 _ a3⟩
  · right
    refine ⟨rfl, hz.l.le h, hz.l.s h _ a1, hz.l.s h _ a2, hz.l.s h _ a3, hz.l.e h _ a1, hz.l.e h _ a2, hz.l.e h _ a3, ?_⟩
    rcases hz.l.hit h with ⟨d, m, hm, e⟩ | ⟨d, m, hm, e⟩
    · left; refine ⟨d, ?_⟩
      rcases hm with ((hm | rfl) | rfl) | rfl
      · exact hm.elim
      · exact .inl e
      · exact .inr (.inl e)
      · exact .inr (.inr e)
    · right; refine ⟨d, ?_⟩
      rcases hm with ((hm | rfl) | rfl) | rfl
      · exact hm.elim
      · exact .inl e
      · exact .inr (.inl e)
      · exact .inr (.inr e)
theorem first_cases {r : Ru} {t y : Int} {z : As} (hz : Inv3 r t (fun m => ((False ∨ m = y - 1) ∨ m = y) ∨ m = y + 1) z) (hs : z.some = true) :
    (z.first ≤ tnS r (y - 1) ∧ (tnS r (y - 1) = z.first → z.std = true)) ∧ (z.first ≤ tnS r y ∧ (tnS r y = z.first → z.std = true)) ∧ (z.first ≤ tnS r (y + 1) ∧ (tnS r (y + 1) = z.first → z.std = true)) ∧ z.first ≤ tnE r (y - 1) ∧ z.first ≤ tnE r y ∧ z.first ≤ tnE r (y + 1) ∧
      ((z.std = true ∧ (tnS r (y - 1) = z.first ∨ tnS r y = z.first ∨ tnS r (y + 1) = z.first)) ∨ (z.std = false ∧ (tnE r (y - 1) = z.first ∨ tnE r y = z.first ∨ tnE r (y + 1) = z.first))) := by
  have a1 : (fun m => ((False ∨ m = y - 1) ∨ m = y) ∨ m = y + 1) (y - 1) := .inl (.inl (.inr rfl))
  have a2 : (fun m => ((False ∨ m = y - 1) ∨ m = y) ∨ m = y + 1) y := .inl (.inr rfl)
  have a3 : (fun m => ((False ∨ m = y - 1) ∨ m = y) ∨ m = y + 1) (y + 1) := .inr rfl
  refine ⟨hz.f.s hs _ a1, hz.f.s hs _ a2, hz.f.s hs _ a3, hz.f.e hs _ a1, hz.f.e hs _ a2, hz.f.e hs _ a3, ?_⟩
  rcases hz.f.hit hs with ⟨d, m, hm, e⟩ | ⟨d, m, hm, e⟩
  · left; refine ⟨d, ?_⟩
    rcases hm with ((hm | rfl) | rfl) | rfl
    · exact hm.elim
    · exact .inl e
    · exact .inr (.inl e)
    · exact .inr (.inr e)
  · right; refine ⟨d, ?_⟩
    rcases hm with ((hm | rfl) | rfl) | rfl
    · exact hm.elim
    · exact .inl e
    · exact .inr (.inl e)
    · exact .inr (.inr e)
/-- As in_cases, by numbers alone. -/
theorem in_three {r : Ru} {t y : Int} {z : As} (hz : Inv3 r t (fun m => ((False ∨ m = y - 1) ∨ m = y) ∨ m = y + 1) z) :
    (z.any = false ∧ t < tnS r (y - 1) ∧ t < tnS r y ∧ t < tnS r (y + 1) ∧ t < tnE r (y - 1) ∧ t < tnE r y ∧ t < tnE r (y + 1)) ∨
    ((z.any = true ∧ z.dst = true) ∧ ∃ L, L ≤ t ∧ (tnS r (y - 1) ≤ t → tnS r (y - 1) ≤ L) ∧ (tnS r y ≤ t → tnS r y ≤ L) ∧ (tnS r (y + 1) ≤ t → tnS r (y + 1) ≤ L) ∧ (tnE r (y - 1) ≤ t → tnE r (y - 1) ≤ L) ∧ (tnE r y ≤ t → tnE r y ≤ L) ∧ (tnE r (y + 1) ≤ t → tnE r (y + 1) ≤ L) ∧ (tnS r (y - 1) = L ∨ tnS r y = L ∨ tnS r (y + 1) = L)) ∨
    ((z.any = true ∧ z.dst = false) ∧ ∃ L, L ≤ t ∧ (tnS r (y - 1) ≤ t → tnS r (y - 1) < L) ∧ (tnS r y ≤ t → tnS r y < L) ∧ (tnS r (y + 1) ≤ t → tnS r (y + 1) < L) ∧ (tnE r (y - 1) ≤ t → tnE r (y - 1) ≤ L) ∧ (tnE r y ≤ t → tnE r y ≤ L) ∧ (tnE r (y + 1) ≤ t → tnE r (y + 1) ≤ L) ∧ (tnE r (y - 1) = L ∨ tnE r y = L ∨ tnE r (y + 1) = L)) := by
  have lt : ∀ {a L : Int}, z.dst = false → (a ≤ t → a ≤ L ∧ (a = L → z.dst = true)) → a ≤ t → a < L := fun d h q => by
    obtain ⟨h1, h2⟩ := h q
    rcases Int.lt_or_eq_of_le h1 with g | g
    · exact g
    · rw [h2 g] at d; cases d
  rcases in_cases hz with c | ⟨a, c1, c2, c3, c4, c5, c6, c7, ⟨d, hh⟩ | ⟨d, hh⟩⟩
  · exact .inl c
  · exact .inr (.inl ⟨⟨a, d⟩, z.last, c1, fun q => (c2 q).1, fun q => (c3 q).1, fun q => (c4 q).1, c5, c6, c7, hh⟩)
  · exact .inr (.inr ⟨⟨a, d⟩, z.last, c1, lt d c2, lt d c3, lt d c4, c5, c6, c7, hh⟩)
theorem first_two {r : Ru} {t y : Int} {z : As} (hz : Inv3 r t (fun m => ((False ∨ m = y - 1) ∨ m = y) ∨ m = y + 1) z) (hs : z.some = true) :
    (z.std = true ∧ ∃ L, L ≤ tnS r (y - 1) ∧ L ≤ tnS r y ∧ L ≤ tnS r (y + 1) ∧ L ≤ tnE r (y - 1) ∧ L ≤ tnE r y ∧ L ≤ tnE r (y + 1) ∧ (tnS r (y - 1) = L ∨ tnS r y = L ∨ tnS r (y + 1) = L)) ∨
    (z.std = false ∧ ∃ L, L < tnS r (y - 1) ∧ L < tnS r y ∧ L < tnS r (y + 1) ∧ L ≤ tnE r (y - 1) ∧ L ≤ tnE r y ∧ L ≤ tnE r (y + 1) ∧ (tnE r (y - 1) = L ∨ tnE r y = L ∨ tnE r (y + 1) = L)) := by
  have lt : ∀ {a L : Int}, z.std = false → (L ≤ a ∧ (a = L → z.std = true)) → L < a := fun d ⟨h1, h2⟩ => by
    rcases Int.lt_or_eq_of_le h1 with g | g
    · exact g
    · rw [h2 g.symm] at d; cases d
  obtain ⟨c1, c2, c3, c4, c5, c6, ⟨d, hh⟩ | ⟨d, hh⟩⟩ := first_cases hz hs
  · exact .inl ⟨d, z.first, c1.1, c2.1, c3.1, c4, c5, c6, hh⟩
  · exact .inr ⟨d, z.first, lt d c1, lt d c2, lt d c3, c4, c5, c6, hh⟩
theorem ends_yes {z : As} (h : (z.any = true ∧ z.dst = true) ∨ (z.any = false ∧ z.std = false)) : ends3 z = true := by
  unfold ends3; rcases h with ⟨a, b⟩ | ⟨a, b⟩ <;> rw [a, b] <;> simp
theorem ends_no {z : As} (h : (z.any = true ∧ z.dst = false) ∨ (z.any = false ∧ z.std = true)) : ends3 z = false := by
  unfold ends3; rcases h with ⟨a, b⟩ | ⟨a, b⟩ <;> rw [a, b] <;> simp
/-- A moment's year is near that of a turn that is near it. -/
theorem year_near {y Y t : Int} (h1 : ny Y * 86400 ≤ t) (h2 : t < ny (Y + 1) * 86400) (a1 : ny y * 86400 - 694799 ≤ t) (a2 : t ≤ (ny y + 365 + lp y) * 86400 + 694798) : Y = y - 1 ∨ Y = y ∨ Y = y + 1 := by
  have s0 := ny_succ y
  have l := lp_01 y
  rcases Int.lt_or_le Y (y - 1) with c | c
  · exfalso
    have g1 := ny_lt (show Y + 1 - 1 < y - 1 by omega)
    have g2 : ny (Y + 1) ≤ ny (y - 1) := ny_le (by omega)
    have g3 := ny_lt (show y - 1 < y by omega)
    omega
  · rcases Int.lt_or_le (y + 1) Y with c' | c'
    · exfalso
      have g2 : ny (y + 2) ≤ ny Y := ny_le (by omega)
      have g3 := ny_lt (show y + 1 < y + 2 by omega)
      omega
    · omega
end Go.Proofs.YtbneokgeochinaaDoor
