/-
  Plain facts on the Gregorian calendar: leap years, months, and the days behind January 1, 1970. Nothing of the program stands here.
-/
import Derived.Test.YtbneokgeochinaaDoorLcInt
namespace Lc

/-- Is it a leap year? -/
def leapB (y : Int) : Bool := decide (y % 4 = 0 ∧ (y % 100 ≠ 0 ∨ y % 400 = 0))
/-- One day more, in a leap year. -/
def lp (y : Int) : Int := if leapB y then 1 else 0
/-- How many days a month has. -/
def lenI (y m : Int) : Int :=
  if m < 1 ∨ 12 < m then 0 else if m = 2 then 28 + lp y else if m = 4 ∨ m = 6 ∨ m = 9 ∨ m = 11 then 30 else 31
/-- How many days of the year stand ahead of a month (1 to 13). -/
def cum (y m : Int) : Int :=
  if m ≤ 1 then 0 else if m = 2 then 31 else if m = 3 then 59 + lp y else if m = 4 then 90 + lp y else if m = 5 then 120 + lp y else if m = 6 then 151 + lp y
  else if m = 7 then 181 + lp y else if m = 8 then 212 + lp y else if m = 9 then 243 + lp y else if m = 10 then 273 + lp y else if m = 11 then 304 + lp y else if m = 12 then 334 + lp y else 365 + lp y
/-- Leap years ahead of a year, counted from the year 0. -/
def la (y : Int) : Int := (y - 1) / 4 - (y - 1) / 100 + (y - 1) / 400 + 1
/-- The first day of a year. -/
def ny (y : Int) : Int := 365 * y + la y - 719528
def rdB (y m d : Int) : Bool := decide (-2147483648 ≤ y ∧ y ≤ 2147483647 ∧ 1 ≤ d ∧ d ≤ lenI y m)
/-- A day's weekday. -/
def wdI (n : Int) : Int := (n % 7 + 4) % 7
/-- The day of the year, from 0. -/
def ydI (y m d : Int) : Int := d - 1 + cum y m
/-- A date's day. -/
def dayI (y m d : Int) : Int := ny y + ydI y m d

theorem leap_true {y : Int} : leapB y = true ↔ (y % 4 = 0 ∧ (y % 100 ≠ 0 ∨ y % 400 = 0)) := by simp [leapB]
theorem leap_false {y : Int} : leapB y = false ↔ ¬ (y % 4 = 0 ∧ (y % 100 ≠ 0 ∨ y % 400 = 0)) := by unfold leapB; simp only [decide_eq_false_iff_not]
theorem lp_cases (y : Int) : (lp y = 1 ∧ y % 4 = 0 ∧ (y % 100 ≠ 0 ∨ y % 400 = 0)) ∨ (lp y = 0 ∧ ¬ (y % 4 = 0 ∧ (y % 100 ≠ 0 ∨ y % 400 = 0))) := by
  unfold lp
  cases h : leapB y
  · exact .inr ⟨rfl, leap_false.1 h⟩
  · exact .inl ⟨rfl, leap_true.1 h⟩
theorem lp_01 (y : Int) : 0 ≤ lp y ∧ lp y ≤ 1 := by rcases lp_cases y with h | h <;> omega
theorem lp_true {y : Int} (h : leapB y = true) : lp y = 1 := by simp [lp, h]
theorem lp_false {y : Int} (h : leapB y = false) : lp y = 0 := by simp [lp, h]

theorem ny_succ (y : Int) : ny (y + 1) = ny y + 365 + lp y := by
  unfold ny la
  rcases lp_cases y with h | h <;> omega
theorem ny_add (k : Nat) : ∀ y : Int, ny y + 365 * k ≤ ny (y + k) := by
  induction k with
  | zero => intro y; simp
  | succ k ih =>
    intro y
    have h1 := ih y
    have h2 := ny_succ (y + k)
    have h3 := lp_01 (y + k)
    have e : y + ((k + 1 : Nat) : Int) = y + k + 1 := by omega
    rw [e]; omega
theorem ny_lt {a b : Int} (h : a < b) : ny a + 365 ≤ ny b := by
  have := ny_add (b - a).toNat a
  have e : a + ((b - a).toNat : Int) = b := by omega
  rw [e] at this; omega
theorem ny_le {a b : Int} (h : a ≤ b) : ny a ≤ ny b := by
  rcases Int.lt_or_eq_of_le h with h | h
  · have := ny_lt h; omega
  · rw [h]; exact Int.le_refl _
theorem ny_400 (q r : Int) : ny (400 * q + r) = 146097 * q + ny r := by
  unfold ny la
  omega
theorem ny_0 : ny 0 = -719528 := by decide
theorem ny_first : ny (-2147483648) = -784353015833 := by decide
theorem ny_last : ny 2147483648 = 784351576777 := by decide
theorem year_one {n a b : Int} (h1 : ny a ≤ n) (h2 : n < ny (a + 1)) (g1 : ny b ≤ n) (g2 : n < ny (b + 1)) : a = b := by
  rcases Int.lt_trichotomy a b with h | h | h
  · have := ny_le (show a + 1 ≤ b by omega); omega
  · exact h
  · have := ny_le (show b + 1 ≤ a by omega); omega

/-- A year's first day lies near its mean place. -/
theorem ny_mean (y : Int) : 146097 * y - 288 ≤ 400 * (ny y + 719528) ∧ 400 * (ny y + 719528) ≤ 146097 * y + 591 := by
  unfold ny la
  omega
theorem guess_near (n : Int) : ny ((n + 719528) * 400 / 146097 - 1) ≤ n ∧ n < ny ((n + 719528) * 400 / 146097 + 1 + 1) := by
  have h1 := ny_mean ((n + 719528) * 400 / 146097 - 1)
  have h2 := ny_mean ((n + 719528) * 400 / 146097 + 1 + 1)
  omega
/-- The year of a day. -/
theorem year_ex (n : Int) : ∃ y, ny y ≤ n ∧ n < ny (y + 1) := by
  have h := guess_near n
  generalize (n + 719528) * 400 / 146097 = g at h
  by_cases c1 : n < ny g
  · exact ⟨g - 1, h.1, by rw [show g - 1 + 1 = g by omega]; exact c1⟩
  · by_cases c2 : n < ny (g + 1)
    · exact ⟨g, by omega, c2⟩
    · exact ⟨g + 1, by omega, h.2⟩
theorem guess_1 {n y : Int} (h1 : ny y ≤ n) (h2 : n < ny (y + 1)) (c : n < ny ((n + 719528) * 400 / 146097)) : (n + 719528) * 400 / 146097 - 1 = y := by
  have h := guess_near n
  generalize (n + 719528) * 400 / 146097 = g at *
  exact year_one (n := n) h.1 (by rw [show g - 1 + 1 = g by omega]; exact c) h1 h2
theorem guess_2 {n y : Int} (h1 : ny y ≤ n) (h2 : n < ny (y + 1)) (c : ny ((n + 719528) * 400 / 146097 + 1) ≤ n) : (n + 719528) * 400 / 146097 + 1 = y := by
  have h := guess_near n
  generalize (n + 719528) * 400 / 146097 = g at *
  exact year_one (n := n) c h.2 h1 h2
theorem guess_3 {n y : Int} (h1 : ny y ≤ n) (h2 : n < ny (y + 1)) (c1 : ny ((n + 719528) * 400 / 146097) ≤ n) (c : n < ny ((n + 719528) * 400 / 146097 + 1)) : (n + 719528) * 400 / 146097 = y :=
  year_one (n := n) c1 c h1 h2

/-! Months. -/

theorem month_12 {m : Int} (h1 : 1 ≤ m) (h2 : m ≤ 12) : m = 1 ∨ m = 2 ∨ m = 3 ∨ m = 4 ∨ m = 5 ∨ m = 6 ∨ m = 7 ∨ m = 8 ∨ m = 9 ∨ m = 10 ∨ m = 11 ∨ m = 12 := by omega
theorem cum_succ (y : Int) {m : Int} (h1 : 1 ≤ m) (h2 : m ≤ 12) : cum y (m + 1) = cum y m + lenI y m := by
  rcases month_12 h1 h2 with rfl | rfl | rfl | rfl | rfl | rfl | rfl | rfl | rfl | rfl | rfl | rfl <;> simp [cum, lenI] <;> omega
theorem cum_1 (y : Int) : cum y 1 = 0 := by simp [cum]
theorem cum_13 (y : Int) : cum y 13 = 365 + lp y := by simp [cum]
theorem len_bd (y m : Int) : 0 ≤ lenI y m ∧ lenI y m ≤ 31 := by
  have := lp_01 y
  unfold lenI
  repeat' split
  all_goals omega
theorem len_pos (y : Int) {m : Int} (h1 : 1 ≤ m) (h2 : m ≤ 12) : 28 ≤ lenI y m := by
  have := lp_01 y
  rcases month_12 h1 h2 with rfl | rfl | rfl | rfl | rfl | rfl | rfl | rfl | rfl | rfl | rfl | rfl <;> simp [lenI] <;> omega
theorem len_none {y m : Int} (h : m < 1 ∨ 12 < m) : lenI y m = 0 := by simp [lenI, h]
theorem cum_mono (y : Int) {a b : Int} (h1 : 1 ≤ a) (h : a < b) (h2 : b ≤ 13) : cum y a + lenI y a ≤ cum y b := by
  have e1 := lp_01 y
  have h3 : b = 2 ∨ b = 3 ∨ b = 4 ∨ b = 5 ∨ b = 6 ∨ b = 7 ∨ b = 8 ∨ b = 9 ∨ b = 10 ∨ b = 11 ∨ b = 12 ∨ b = 13 := by omega
  rw [← cum_succ y h1 (by omega)]
  have h4 : a = 1 ∨ a = 2 ∨ a = 3 ∨ a = 4 ∨ a = 5 ∨ a = 6 ∨ a = 7 ∨ a = 8 ∨ a = 9 ∨ a = 10 ∨ a = 11 ∨ a = 12 := by omega
  rcases h3 with rfl | rfl | rfl | rfl | rfl | rfl | rfl | rfl | rfl | rfl | rfl | rfl <;>
    rcases h4 with rfl | rfl | rfl | rfl | rfl | rfl | rfl | rfl | rfl | rfl | rfl | rfl <;> first | omega | (simp [cum]; done) | (simp [cum]; omega)
theorem cum_bd (y : Int) {m : Int} (h1 : 1 ≤ m) (h2 : m ≤ 13) : 0 ≤ cum y m ∧ cum y m ≤ 366 := by
  have h3 := lp_01 y; have h4 := cum_1 y; have h5 := cum_13 y
  have h6 := len_bd y 1; have h7 := len_bd y m
  constructor
  · by_cases c : m = 1
    · subst c; omega
    · have := cum_mono y (show (1 : Int) ≤ 1 by omega) (show 1 < m by omega) h2; omega
  · by_cases c : m = 13
    · subst c; omega
    · have := cum_mono y h1 (show m < 13 by omega) (by omega); omega

theorem rd_true {y m d : Int} : rdB y m d = true ↔ (-2147483648 ≤ y ∧ y ≤ 2147483647 ∧ 1 ≤ d ∧ d ≤ lenI y m) := by simp [rdB]
theorem rd_false {y m d : Int} : rdB y m d = false ↔ ¬ (-2147483648 ≤ y ∧ y ≤ 2147483647 ∧ 1 ≤ d ∧ d ≤ lenI y m) := by unfold rdB; simp only [decide_eq_false_iff_not]
theorem right_month {y m d : Int} (h : rdB y m d = true) : 1 ≤ m ∧ m ≤ 12 := by
  have h := rd_true.1 h
  by_cases c : m < 1 ∨ 12 < m
  · have := len_none (y := y) c; omega
  · omega
theorem yd_bd {y m d : Int} (h : rdB y m d = true) : 0 ≤ ydI y m d ∧ ydI y m d < 365 + lp y := by
  have hm := right_month h
  have h := rd_true.1 h
  have h1 := cum_bd y hm.1 (by omega)
  have h2 := cum_mono y hm.1 (show m < 13 by omega) (by omega)
  rw [cum_13] at h2
  unfold ydI; omega
theorem day_year {y m d : Int} (h : rdB y m d = true) : ny y ≤ dayI y m d ∧ dayI y m d < ny (y + 1) := by
  have := yd_bd h
  have := ny_succ y
  unfold dayI; omega
theorem day_range {y m d : Int} (h : rdB y m d = true) : ny (-2147483648) ≤ dayI y m d ∧ dayI y m d < ny 2147483648 := by
  have h1 := day_year h
  have h2 := rd_true.1 h
  have h3 := ny_le h2.1
  have h4 := ny_le (show y + 1 ≤ 2147483648 by omega)
  omega
theorem month_one {y a b i j : Int} (h1 : 1 ≤ a) (h2 : a ≤ 12) (h3 : 0 ≤ i) (h4 : i < lenI y a) (g1 : 1 ≤ b) (g2 : b ≤ 12) (g3 : 0 ≤ j) (g4 : j < lenI y b) (e : cum y a + i = cum y b + j) : a = b ∧ i = j := by
  rcases Int.lt_trichotomy a b with h | h | h
  · have := cum_mono y h1 h (by omega); omega
  · subst h; exact ⟨rfl, by omega⟩
  · have := cum_mono y g1 h (by omega); omega
theorem date_one {y m d y' m' d' : Int} (h : rdB y m d = true) (h' : rdB y' m' d' = true) (e : dayI y m d = dayI y' m' d') : y = y' ∧ m = m' ∧ d = d' := by
  have h1 := day_year h; have h2 := day_year h'
  rw [← e] at h2
  obtain rfl := year_one h1.1 h1.2 h2.1 h2.2
  have k1 := right_month h; have k2 := right_month h'
  have r1 := rd_true.1 h; have r2 := rd_true.1 h'
  unfold dayI ydI at e
  obtain ⟨rfl, e2⟩ := month_one (y := y) (i := d - 1) (j := d' - 1) k1.1 k1.2 (by omega) (by omega) k2.1 k2.2 (by omega) (by omega) (by omega)
  exact ⟨rfl, rfl, by omega⟩
/-- The month of a day of the year. -/
theorem month_ex (y i : Int) (h1 : 0 ≤ i) (h2 : i < 365 + lp y) : ∃ m, 1 ≤ m ∧ m ≤ 12 ∧ cum y m ≤ i ∧ i < cum y m + lenI y m := by
  have H : ∀ k : Nat, k ≤ 12 → (∃ m, 1 ≤ m ∧ m ≤ 12 ∧ cum y m ≤ i ∧ i < cum y m + lenI y m) ∨ cum y (k + 1) ≤ i := by
    intro k
    induction k with
    | zero => intro _; right; have := cum_1 y; simp at *; omega
    | succ k ih =>
      intro hk
      rcases ih (by omega) with h | h
      · exact .inl h
      · have e := cum_succ y (m := (k : Int) + 1) (by omega) (by omega)
        have e2 : ((k + 1 : Nat) : Int) + 1 = (k : Int) + 1 + 1 := by omega
        rw [e2, e]
        by_cases c : i < cum y ((k : Int) + 1) + lenI y ((k : Int) + 1)
        · exact .inl ⟨(k : Int) + 1, by omega, by omega, h, c⟩
        · exact .inr (by omega)
  rcases H 12 (by omega) with h | h
  · exact h
  · have := cum_13 y
    simp at h; omega
theorem date_ex (n : Int) (h1 : ny (-2147483648) ≤ n) (h2 : n < ny 2147483648) : ∃ y m d, rdB y m d = true ∧ dayI y m d = n := by
  obtain ⟨y, g1, g2⟩ := year_ex n
  have b1 : -2147483648 ≤ y := by
    by_cases c : -2147483648 ≤ y
    · exact c
    · have := ny_le (show y + 1 ≤ -2147483648 by omega); omega
  have b2 : y ≤ 2147483647 := by
    by_cases c : y ≤ 2147483647
    · exact c
    · have := ny_le (show 2147483648 ≤ y by omega); omega
  have e := ny_succ y
  obtain ⟨m, m1, m2, m3, m4⟩ := month_ex y (n - ny y) (by omega) (by omega)
  exact ⟨y, m, n - ny y - cum y m + 1, rd_true.2 (by omega), by unfold dayI ydI; omega⟩
theorem year_out {n y : Int} (g1 : ny y ≤ n) (g2 : n < ny (y + 1)) (h : n < ny (-2147483648) ∨ ny 2147483648 ≤ n) : y < -2147483648 ∨ 2147483647 < y := by
  by_cases c : y < -2147483648
  · exact .inl c
  by_cases d : 2147483647 < y
  · exact .inr d
  have := ny_le (show -2147483648 ≤ y by omega)
  have := ny_le (show y + 1 ≤ 2147483648 by omega)
  omega
end Lc
