/-
  Remainders, leap years, bounds of days: plain lemmas.
-/
import Derived.Test.YtbneokgeochinaaDoorLcInt
import Derived.Test.YtbneokgeochinaaDoorLcCal
import Derived.WalkKit
namespace Go.Proofs.YtbneokgeochinaaDoor
open Go.ChangeShapes Go.WideShapes Go.ChangeAt Go.RowKit Lc

theorem tmod_zero (y k : Int) : (y.tmod k == 0) = decide (y % k = 0) := by
  rw [Bool.eq_iff_iff]; simp only [beq_iff_eq, decide_eq_true_eq]
  rw [← Int.dvd_iff_tmod_eq_zero, Int.dvd_iff_emod_eq_zero]
theorem tmod_nz (y k : Int) : (y.tmod k != 0) = !decide (y % k = 0) := by
  rw [← tmod_zero y k]; rfl
theorem leap_mix (y : Int) : leapB y = (decide (y % 4 = 0) && (!decide (y % 100 = 0) || decide (y % 400 = 0))) := by
  unfold leapB; rw [Bool.eq_iff_iff]; simp
theorem len_29 (y : Int) (h : leapB y = true) : lenI y 2 = 29 := by simp [lenI, lp_true h]
theorem fit_small {x : Int} (h1 : -4611686018427387904 ≤ x) (h2 : x ≤ 4611686018427387904) : fitB x = true := fitB_true.2 (by omega)
theorem la_bd (y : Int) (h1 : -4000000000 ≤ y) (h2 : y ≤ 4000000000) : -5000000000 ≤ la y ∧ la y ≤ 5000000000 := by unfold la; omega
theorem ny_is (y : Int) : ny y = 365 * y + la y - 719528 := rfl
theorem ny_bd (y : Int) (h1 : -4000000000 ≤ y) (h2 : y ≤ 4000000000) : -2000000000000 ≤ ny y ∧ ny y ≤ 2000000000000 := by unfold ny la; omega
theorem guess_bd (n : Int) (h1 : -1000000000000 ≤ n) (h2 : n ≤ 1000000000000) : -3000000000 ≤ (n + 719528) * 400 / 146097 ∧ (n + 719528) * 400 / 146097 ≤ 3000000000 := by omega
theorem date_bd : -784353015833 ≤ ny (-2147483648) ∧ ny 2147483648 ≤ 784351576777 := by rw [ny_first, ny_last]; omega
end Go.Proofs.YtbneokgeochinaaDoor
