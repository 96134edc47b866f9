/-
  What the document's own header does (longcaseref05): Right, Body, in the same plain words.
-/
import Derived.Test.YtaljddoenjgbfaaGreatLcMh
namespace Go.Proofs.YtaljddoenjgbfaaGreat
open Go.ChangeShapes Go.WideShapes Go.ChangeAt Go.RowKit Lc

set_option maxRecDepth 100000 in
set_option maxHeartbeats 1000000 in
theorem refBody_any (v u s l t y c z : Int) (w : World) (hu : 0 ≤ u ∧ u ≤ 257) (hs : 0 ≤ s ∧ s ≤ 257) (hl : 0 ≤ l ∧ l ≤ 5001) (ht : 0 ≤ t ∧ t ≤ 5001) (hy : 0 ≤ y ∧ y ≤ 257) (hc : 0 ≤ c ∧ c ≤ 257) (hz : z = 4 ∨ z = 8) :
    Calls Tryz.prog 42 #[hv v u s l t y c, .int .i64 z] w fun e w' => e = .returned (.int .i64 (bodyI u s l t y c z)) ∧ Up w w' := by
  obtain ⟨u0, u1⟩ := hu; obtain ⟨s0, s1⟩ := hs; obtain ⟨l0, l1⟩ := hl; obtain ⟨t0, t1⟩ := ht; obtain ⟨y0, y1⟩ := hy; obtain ⟨c0, c1⟩ := hc
  have E := Lib.hid (show bodyI u s l t y c z = t * (z + 1) + y * 6 + c + l * (z + 4) + s + u from rfl)
  rcases hz with rfl | rfl
  · go_enter Tryz.func42, Tryz.ntmps42
    go_wp2_with fail
    go_ret
    exact ⟨ret_i (by rw [E.out]; rfl), Up.alloc _ _⟩
  · go_enter Tryz.func42, Tryz.ntmps42
    go_wp2_with fail
    go_ret
    exact ⟨ret_i (by rw [E.out]; rfl), Up.alloc _ _⟩

set_option maxHeartbeats 2000000 in
set_option maxRecDepth 100000 in
theorem refRight_any (v u s l t y c : Int) (w : World) : Calls Tryz.prog 56 #[hv v u s l t y c] w fun e w' => e = .returned (.bool (rightH v u s l t y c)) ∧ Up w w' := by
  have N : ∀ b : Bool, (b = true ↔ (1 ≤ v ∧ v ≤ 4 ∧ 1 ≤ y ∧ y ≤ 256 ∧ 1 ≤ c ∧ c ≤ 256 ∧ 0 ≤ t ∧ t ≤ 5000 ∧ 0 ≤ l ∧ l ≤ 5000 ∧ (u = 0 ∨ u = y) ∧ (s = 0 ∨ s = y))) → b = rightH v u s l t y c := by
    intro b hb
    rw [Bool.eq_iff_iff, hb, rightH_true]
  replace N := Lib.hid N
  generalize rightH v u s l t y c = r at *
  by_cases h1 : v < 1
  · go_enter Tryz.func56, Tryz.ntmps56
    go_wp2_with fail
    go_ret
    exact ⟨ret_b (N.out _ (by simp; omega)), Up.alloc _ _⟩
  by_cases h2 : 4 < v
  · go_enter Tryz.func56, Tryz.ntmps56
    go_wp2_with fail
    go_ret
    exact ⟨ret_b (N.out _ (by simp; omega)), Up.alloc _ _⟩
  by_cases h3 : y < 1
  · go_enter Tryz.func56, Tryz.ntmps56
    go_wp2_with fail
    go_ret
    exact ⟨ret_b (N.out _ (by simp; omega)), Up.alloc _ _⟩
  by_cases h4 : 256 < y
  · go_enter Tryz.func56, Tryz.ntmps56
    go_wp2_with fail
    go_ret
    exact ⟨ret_b (N.out _ (by simp; omega)), Up.alloc _ _⟩
  by_cases h5 : c < 1
  · go_enter Tryz.func56, Tryz.ntmps56
    go_wp2_with fail
    go_ret
    exact ⟨ret_b (N.out _ (by simp; omega)), Up.alloc _ _⟩
  by_cases h6 : 256 < c
  · go_enter Tryz.func56, Tryz.ntmps56
    go_wp2_with fail
    go_ret
    exact ⟨ret_b (N.out _ (by simp; omega)), Up.alloc _ _⟩
  by_cases h7 : t < 0
  · go_enter Tryz.func56, Tryz.ntmps56
    go_wp2_with fail
    go_ret
    exact ⟨ret_b (N.out _ (by simp; omega)), Up.alloc _ _⟩
  by_cases h8 : 5000 < t
  · go_enter Tryz.func56, Tryz.ntmps56
    go_wp2_with fail
    go_ret
    exact ⟨ret_b (N.out _ (by simp; omega)), Up.alloc _ _⟩
  by_cases h9 : l < 0
  · go_enter Tryz.func56, Tryz.ntmps56
    go_wp2_with fail
    go_ret
    exact ⟨ret_b (N.out _ (by simp; omega)), Up.alloc _ _⟩
  by_cases h10 : 5000 < l
  · go_enter Tryz.func56, Tryz.ntmps56
    go_wp2_with fail
    go_ret
    exact ⟨ret_b (N.out _ (by simp; omega)), Up.alloc _ _⟩
  by_cases hu : u = 0
  · by_cases hs : s = 0
    all_goals
      go_enter Tryz.func56, Tryz.ntmps56
      go_wp2_with fail
      go_ret
      exact ⟨ret_b (N.out _ (by simp <;> omega)), Up.alloc _ _⟩
  · by_cases hy : u = y
    · by_cases hs : s = 0
      all_goals
        go_enter Tryz.func56, Tryz.ntmps56
        go_wp2_with fail
        go_ret
        exact ⟨ret_b (N.out _ (by simp <;> omega)), Up.alloc _ _⟩
    · go_enter Tryz.func56, Tryz.ntmps56
      go_wp2_with fail
      go_ret
      exact ⟨ret_b (N.out _ (by simp <;> omega)), Up.alloc _ _⟩
end Go.Proofs.YtaljddoenjgbfaaGreat
