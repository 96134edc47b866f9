/-
  A block that may be written; the day behind a day.
-/
import Derived.Test.YtdmobmblkbmkhaaDoorLcClkO
namespace Go.Proofs.YtdmobmblkbmkhaaDoor
open Go.ChangeShapes Go.WideShapes Go.ChangeAt Go.RowKit Lc

/-- Block b may be written. -/
def Free (w : World) (b : Nat) : Prop := b < w.heap.size ∧ ∀ j, w.frozen? ⟨b, j, none⟩ = false
theorem Free.up {w w' : World} {b : Nat} (x : Free w b) (u : Up w w') : Free w' b :=
  ⟨Nat.lt_of_lt_of_le x.1 u.size, fun j => by rw [Below.frozen u (p := ⟨b, j, none⟩) x.1]; exact x.2 j⟩
theorem Free.new (w : World) (c : Array Value) (t : TypeId) : Free (w.alloc (.cells c t)) w.heap.size :=
  ⟨by rw [World.size_alloc]; omega, fun j => World.frozen?_alloc_new w c t j⟩

/-- The date behind a date, if it is not the last one: the next day of the month, or a first one. -/
theorem date_next {y m d : Int} (h : rightB y m d = true) (n : ¬ (y = 2147483647 ∧ m = 12 ∧ d = 31)) :
    ∃ y' m' d', rightB y' m' d' = true ∧ dayI y' m' d' = dayI y m d + 1 ∧ (d' = d + 1 ∨ (d' = 1 ∧ 28 ≤ d)) := by
  have h1 := right_true.1 h
  have hm := right_month h
  have hl := len_pos y hm.1 hm.2
  by_cases c : d < lenI y m
  · exact ⟨y, m, d + 1, right_true.2 (by omega), by unfold dayI ydI; omega, .inl rfl⟩
  · by_cases k : m < 12
    · have := len_pos y (m := m + 1) (by omega) (by omega)
      exact ⟨y, m + 1, 1, right_true.2 (by omega), by unfold dayI ydI; rw [cum_succ y hm.1 hm.2]; omega, .inr ⟨rfl, by omega⟩⟩
    · obtain rfl : m = 12 := by omega
      have e := cum_succ y hm.1 hm.2
      have e13 : cum y (12 + 1) = 365 + lp y := cum_13 y
      have l31 : lenI y 12 = 31 := by simp [lenI]
      have := len_pos (y + 1) (m := 1) (by omega) (by omega)
      exact ⟨y + 1, 1, 1, right_true.2 (by omega), by unfold dayI ydI; rw [ny_succ, cum_1]; omega, .inr ⟨rfl, by omega⟩⟩
theorem sec_bd {y m d h i s t : Int} (r : rightC y m d h i s = true) (e : secI y m d h i s = t) : -100000000000000000 ≤ t ∧ t ≤ 100000000000000000 := by
  obtain ⟨rb, h1, h2, i1, i2, s1, s2⟩ := rightC_true.1 r
  obtain ⟨q1, q2⟩ := day_range rb
  obtain ⟨q3, q4⟩ := ny_bds
  unfold secI at e; omega
theorem next_s {y m d h i s t : Int} (r : rightC y m d h i s = true) (e : secI y m d h i s = t) (c : s < 59) : rightC y m d h i (s + 1) = true ∧ secI y m d h i (s + 1) = t + 1 := by
  obtain ⟨rb, h1, h2, i1, i2, s1, s2⟩ := rightC_true.1 r
  exact ⟨rightC_true.2 ⟨rb, h1, h2, i1, i2, by omega, by omega⟩, by unfold secI at *; omega⟩
theorem next_i {y m d h i s t : Int} (r : rightC y m d h i s = true) (e : secI y m d h i s = t) (c : ¬ s < 59) (k : i < 59) : rightC y m d h (i + 1) 0 = true ∧ secI y m d h (i + 1) 0 = t + 1 := by
  obtain ⟨rb, h1, h2, i1, i2, s1, s2⟩ := rightC_true.1 r
  exact ⟨rightC_true.2 ⟨rb, h1, h2, by omega, by omega, by omega, by omega⟩, by unfold secI at *; omega⟩
theorem next_h {y m d h i s t : Int} (r : rightC y m d h i s = true) (e : secI y m d h i s = t) (c : ¬ s < 59) (k : ¬ i < 59) (l : h < 23) : rightC y m d (h + 1) 0 0 = true ∧ secI y m d (h + 1) 0 0 = t + 1 := by
  obtain ⟨rb, h1, h2, i1, i2, s1, s2⟩ := rightC_true.1 r
  exact ⟨rightC_true.2 ⟨rb, by omega, by omega, by omega, by omega, by omega, by omega⟩, by unfold secI at *; omega⟩
theorem next_d {y m d h i s t : Int} (r : rightC y m d h i s = true) (e : secI y m d h i s = t) (c : ¬ s < 59) (k : ¬ i < 59) (l : ¬ h < 23) (n : ¬ (y = 2147483647 ∧ m = 12 ∧ d = 31)) :
    ∃ y' m' d', rightC y' m' d' 0 0 0 = true ∧ secI y' m' d' 0 0 0 = t + 1 ∧ (d' = d + 1 ∨ (d' = 1 ∧ 28 ≤ d)) := by
  obtain ⟨rb, h1, h2, i1, i2, s1, s2⟩ := rightC_true.1 r
  obtain ⟨y', m', d', r', e', h'⟩ := date_next rb n
  refine ⟨y', m', d', rightC_true.2 ⟨r', by omega, by omega, by omega, by omega, by omega, by omega⟩, ?_, h'⟩
  unfold secI at *; omega
end Go.Proofs.YtdmobmblkbmkhaaDoor
