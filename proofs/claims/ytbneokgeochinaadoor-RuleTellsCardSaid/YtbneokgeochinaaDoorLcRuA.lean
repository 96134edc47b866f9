/-
  Package rule: years, changes that may be, the day of a change (isYear, mayBe, newYear, julian, weekly, dayOf, moment).
-/
import Derived.Test.YtbneokgeochinaaDoorLcRy1
import Derived.Test.YtbneokgeochinaaDoorLcCivW
import Derived.Test.YtbneokgeochinaaDoorLcRk
import Derived.Test.YtbneokgeochinaaDoorLcQui
import Derived.Lib.QuietBelow
import Derived.Handy
import Derived.BigQuiet
namespace Go.Proofs.YtbneokgeochinaaDoor
open Go.ChangeShapes Go.WideShapes Go.ChangeAt Go.RowKit Go.Sort Lc

theorem Tab.up {w w' : World} (h : Tab w) (u : Up w w') : Tab w' := fun i hi => u.cell (h i hi)
theorem rd_year (y : Int) : rdB y 1 1 = yrB y := by
  have e : lenI y 1 = 31 := rfl
  unfold rdB yrB inB
  rw [e, Bool.eq_iff_iff]; simp
theorem isYear_any (y : Int) (w : World) (T : Tab w) : Calls Tryd.prog 25 #[.int .i64 y] w fun e w' => e = .returned (.bool (yrB y)) ∧ w = w' := by
  have R := rd_any y 1 1 w T
  rw [rd_year] at R
  clear T
  go_enter Tryd.func25, Tryd.ntmps25
  go_wp2_with fail
  refine R.mono ?_; rintro e w' ⟨rfl, rfl⟩
  go_wp2_with fail
  go_ret
  exact ⟨rfl, rfl⟩
/-- The rule that asks about a change. -/
def mayR (c : Ch) : Ru := ⟨⟨0, false, [83, 84, 68]⟩, ⟨0, true, [68, 83, 84]⟩, true, c, c⟩
theorem mayR_right (c : Ch) : rightB (mayR c) true = changeB c true := by
  have a1 : kindB (mayR c).std false = true := by show kindB ⟨0, false, [83, 84, 68]⟩ false = true; decide
  have a2 : kindB (mayR c).dst true = true := by show kindB ⟨0, true, [68, 83, 84]⟩ true = true; decide
  unfold rightB
  rw [a1, a2, show (mayR c).both = true from rfl, if_pos rfl]
  show (true && (true && changeB c true && changeB c true)) = changeB c true
  simp
set_option maxRecDepth 100000 in
theorem mayBe_any (c : Ch) (w : World) : Calls Tryd.prog 26 #[.agg (cA c)] w fun e w' => e = .returned (.bool (changeB c true)) ∧ Up w w' := by
  have B0 := Lib.hid (Cb.bk (Bk.new w (cA c) 25 (by decide)))
  have U0 := Lib.hid (Up.alloc w (.cells (cA c) 25))
  have R : ∀ w, Calls Tryd.prog 33 #[.agg #[.int .i64 0, .bool false, .string ⟨#[83, 84, 68]⟩, .int .i64 0, .bool true, .string ⟨#[68, 83, 84]⟩, .bool true, .int .i64 c.how, .int .i64 c.n, .int .i64 c.wk, .int .i64 c.wd, .int .i64 c.tm, .int .i64 c.how, .int .i64 c.n, .int .i64 c.wk, .int .i64 c.wd, .int .i64 c.tm], .bool true] w fun e w' => e = .returned (.bool (changeB c true)) ∧ Up w w' := fun w => by
    rw [← mayR_right]
    exact right_any (mayR c) true w (by show 3 ≤ maxLen; decide) (by show 3 ≤ maxLen; decide)
  generalize changeB c true = q at *
  obtain ⟨h0, n, k, d, t⟩ := c
  unfold cA at *
  simp only at *
  obtain ⟨c0, c1, c2, c3, c4⟩ := B0.out
  simp only at c0 c1 c2 c3 c4
  go_enter Tryd.func26, Tryd.ntmps26
  go_wp2_with fail
  refine (R _).mono ?_; rintro e w1 ⟨rfl, u1⟩
  go_wp2_with fail
  go_ret
  exact ⟨rfl, U0.out.trans u1⟩
theorem rnewYear_any (y : Int) (w : World) (T : Tab w) (h1 : -2147483648 ≤ y) (h2 : y ≤ 2147483647) : Calls Tryd.prog 50 #[.int .i64 y] w fun e w' => e = .returned (.int .i64 (ny y)) ∧ Up w w' := by
  have R := days_yes y 1 1 w T (day_fits h1 h2 (by decide) (by have := len_pos y (m := 1) (by decide) (by decide); omega))
  rw [dayI_1] at R
  clear T
  go_enter Tryd.func50, Tryd.ntmps50
  go_wp2_with fail
  refine R.mono ?_; rintro e w' ⟨rfl, d⟩
  have u := Up.of_dr d
  clear d
  go_wp2_with fail
  go_ret
  exact ⟨rfl, u⟩
set_option maxRecDepth 100000 in
theorem julian_any (y n : Int) (w : World) (T : Tab w) (h1 : -2147483648 ≤ y) (h2 : y ≤ 2147483647) (n1 : 1 ≤ n) (n2 : n ≤ 365) :
    Calls Tryd.prog 48 #[.int .i64 y, .int .i64 n] w fun e w' => e = .returned (.int .i64 (ny y + (n - 1) + (if leapB y = true ∧ 59 < n then 1 else 0))) ∧ Up w w' := by
  have L : ∀ w, _ := fun w => leap_any y w
  have N := rnewYear_any y w T h1 h2
  have nb := ny_rng h1 h2
  have lb := lp_01 y
  generalize ny y = NY at *
  clear T
  by_cases hl : leapB y = true
  · rw [hl] at L
    by_cases h59 : 59 < n
    · rw [if_pos ⟨hl, h59⟩]
      have k1 : decide (60 ≤ n) = true := by simp; omega
      go_enter Tryd.func48, Tryd.ntmps48
      go_wp2_with fail
      refine (L _).mono ?_; rintro e w' ⟨rfl, rfl⟩
      go_wp2_with fail
      refine N.mono ?_; rintro e w' ⟨rfl, u⟩
      go_wp2_with fail
      go_ret
      exact ⟨ret_i (by omega), u⟩
    · rw [if_neg (fun z => h59 z.2)]
      have k1 : decide (60 ≤ n) = false := by simp; omega
      go_enter Tryd.func48, Tryd.ntmps48
      go_wp2_with fail
      refine (L _).mono ?_; rintro e w' ⟨rfl, rfl⟩
      go_wp2_with fail
      refine N.mono ?_; rintro e w' ⟨rfl, u⟩
      go_wp2_with fail
      go_ret
      exact ⟨ret_i (by omega), u⟩
  · rw [if_neg (fun z => hl z.1)]
    rw [Bool.not_eq_true] at hl
    rw [hl] at L
    go_enter Tryd.func48, Tryd.ntmps48
    go_wp2_with fail
    refine (L _).mono ?_; rintro e w' ⟨rfl, rfl⟩
    go_wp2_with fail
    refine N.mono ?_; rintro e w' ⟨rfl, u⟩
    go_wp2_with fail
    go_ret
    exact ⟨ret_i (by omega), u⟩
end Go.Proofs.YtbneokgeochinaaDoor
