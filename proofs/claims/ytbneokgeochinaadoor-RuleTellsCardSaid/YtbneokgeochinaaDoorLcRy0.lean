/-
  Days that changes tell, turns of a year, and kinds in force, plain, of no program (layer 9).
-/
import Derived.Test.YtbneokgeochinaaDoorLcCal
import Derived.Test.YtbneokgeochinaaDoorLcPx0
namespace Go.Proofs.YtbneokgeochinaaDoor
open Go Lc

/-- May it be a year? -/
def yrB (y : Int) : Bool := inB y (-2147483648) 2147483647
/-- The first day of a month that is such a weekday: from 1 to 7. -/
def wkF (y m wd : Int) : Int := 1 + (wd - wdI (dayI y m 1)) % 7
/-- The wk-th such day, or the last one. -/
def wkD (y m wk wd : Int) : Int := if wkF y m wd + 7 * (wk - 1) ≤ lenI y m then wkF y m wd + 7 * (wk - 1) else wkF y m wd + 7 * (wk - 1) - 7
/-- The day that a change tells in a year. -/
def dayC (y : Int) (c : Ch) : Int :=
  if c.how = 1 then ny y + (c.n - 1) + (if leapB y = true ∧ 59 < c.n then 1 else 0)
  else if c.how = 2 then ny y + c.n
  else dayI y c.n (wkD y c.n c.wk c.wd)
def okY (y : Int) (c : Ch) : Bool := changeB c true && yrB y
/-- A year's start, and its end. -/
def tnS (r : Ru) (y : Int) : Int := dayC y r.st * 86400 + r.st.tm - r.std.off
def tnE (r : Ru) (y : Int) : Int := dayC y r.en * 86400 + r.en.tm - r.dst.off
def okT (r : Ru) (y : Int) : Bool := rightB r true && r.both && yrB y

theorem dayI_1 (y : Int) : dayI y 1 1 = ny y := by unfold dayI ydI; rw [cum_1]; omega
theorem dayI_add (y m d : Int) : dayI y m d = dayI y m 1 + (d - 1) := by unfold dayI ydI; omega
theorem wkF_bd (y m wd : Int) : 1 ≤ wkF y m wd ∧ wkF y m wd ≤ 7 := by unfold wkF; omega
/-- A day of the month is such a weekday just every seven days from the first one on. -/
theorem wk_is (y m d wd : Int) (h0 : 0 ≤ wd) (h1 : wd ≤ 6) : wdI (dayI y m d) = wd ↔ (d - wkF y m wd) % 7 = 0 := by
  rw [dayI_add]
  unfold wkF wdI
  omega
/-- How many such days are ahead of day d, and the last one of them. -/
def seenI (f d : Int) : Int := (d - f + 6) / 7
def lastI (y m f s : Int) : Int := if s = 0 then 0 else dayI y m (f + 7 * (s - 1))
theorem seen_1 {f : Int} (h1 : 1 ≤ f) (h2 : f ≤ 7) : seenI f 1 = 0 := by unfold seenI; omega
theorem seen_yes {f d : Int} (h : (d - f) % 7 = 0) : seenI f (d + 1) = seenI f d + 1 ∧ f + 7 * seenI f d = d := by unfold seenI; omega
theorem seen_no {f d : Int} (h : ¬ (d - f) % 7 = 0) : seenI f (d + 1) = seenI f d := by unfold seenI; omega
theorem seen_pos {f d : Int} (h0 : 1 ≤ f) (h2 : f ≤ 7) (h : 1 ≤ d) : 0 ≤ seenI f d := by unfold seenI; omega
/-- What the day by day loop ends with. -/
theorem wk_end {y m wk wd d : Int} (hm1 : 1 ≤ m) (hm2 : m ≤ 12) (hk1 : 1 ≤ wk) (hk2 : wk ≤ 5) (hd1 : 1 ≤ d) (hd2 : d ≤ lenI y m + 1) (hs : seenI (wkF y m wd) d ≤ wk)
    (he : d = lenI y m + 1 ∨ seenI (wkF y m wd) d = wk) : lastI y m (wkF y m wd) (seenI (wkF y m wd) d) = dayI y m (wkD y m wk wd) := by
  have hf := wkF_bd y m wd
  have hl := len_pos y hm1 hm2
  have hl2 := len_bd y m
  unfold lastI wkD
  generalize wkF y m wd = f at *
  generalize lenI y m = L at *
  unfold seenI at *
  rcases he with rfl | he
  · rw [if_neg (by omega)]
    by_cases c : f + 7 * (wk - 1) ≤ L
    · rw [if_pos c]; congr 1; omega
    · rw [if_neg c]; congr 1; omega
  · rw [he, if_neg (by omega), if_pos (by omega)]
theorem wk_day {y m wk wd : Int} (hm1 : 1 ≤ m) (hm2 : m ≤ 12) (hk1 : 1 ≤ wk) (hk2 : wk ≤ 5) : 1 ≤ wkD y m wk wd ∧ wkD y m wk wd ≤ lenI y m := by
  have hf := wkF_bd y m wd
  have hl := len_pos y hm1 hm2
  unfold wkD
  split <;> omega
theorem day_fits {y m d : Int} (h1 : -2147483648 ≤ y) (h2 : y ≤ 2147483647) (hd1 : 1 ≤ d) (hd2 : d ≤ lenI y m) : rdB y m d = true := rd_true.2 ⟨h1, h2, hd1, hd2⟩
/-- The day is in its year, or the first of the next one. -/
theorem dayC_bd {y : Int} {c : Ch} (h : changeB c true = true) : ny y ≤ dayC y c ∧ dayC y c ≤ ny y + 365 + lp y := by
  have lp1 := lp_01 y
  unfold changeB at h
  rw [Bool.and_eq_true] at h
  have hd := h.1
  unfold dayB at hd
  unfold dayC
  by_cases h1 : c.how = 1
  · rw [if_pos h1] at hd ⊢
    simp only [Bool.and_eq_true, inB, decide_eq_true_eq] at hd
    by_cases hl : leapB y = true ∧ 59 < c.n
    · rw [if_pos hl]
      have := lp_true hl.1
      omega
    · rw [if_neg hl]; omega
  · rw [if_neg h1] at hd ⊢
    by_cases h2 : c.how = 2
    · rw [if_pos h2] at hd ⊢
      simp only [Bool.and_eq_true, inB, decide_eq_true_eq] at hd
      omega
    · rw [if_neg h2] at hd ⊢
      by_cases h3 : c.how = 3
      · rw [if_pos h3] at hd
        simp only [Bool.and_eq_true, inB, decide_eq_true_eq] at hd
        obtain ⟨⟨⟨a1, a2⟩, b1, b2⟩, d1, d2⟩ := hd
        obtain ⟨w1, w2⟩ := wk_day (y := y) (wd := c.wd) a1 a2 b1 b2
        unfold dayI ydI
        have m1 := cum_mono y (a := c.n) (b := 13)
        have cb := cum_bd y (m := c.n) a1 (by omega)
        have c13 := cum_13 y
        have := m1 a1 (by omega) (by omega)
        omega
      · rw [if_neg h3] at hd; cases hd
theorem ny_rng {y : Int} (h1 : -2147483648 ≤ y) (h2 : y ≤ 2147483647) : -784353015833 ≤ ny y ∧ ny y + 365 + lp y ≤ 784351576777 := by
  have a := ny_le h1
  have b := ny_le (show y + 1 ≤ 2147483648 by omega)
  have c := ny_succ y
  rw [ny_first] at a
  rw [ny_last] at b
  omega
/-! ### What is in force, as the document finds it -/
structure As where
  any : Bool
  last : Int
  dst : Bool
  some : Bool
  first : Int
  std : Bool
def as0 : As := ⟨false, 0, false, false, 0, false⟩
def stE (t b : Int) (s : As) : As := if decide (b ≤ t) && (!s.any || decide (s.last < b)) then { s with any := true, last := b, dst := false } else s
def stS (t a : Int) (s : As) : As := if decide (a ≤ t) && (!s.any || decide (s.last ≤ a)) then { s with any := true, last := a, dst := true } else s
def stB (b : Int) (s : As) : As := if !s.some || decide (b < s.first) then { s with some := true, first := b, std := false } else s
def stA (a : Int) (s : As) : As := if decide (a ≤ s.first) then { s with first := a, std := true } else s
/-- A year's round. -/
def stY (r : Ru) (t n : Int) (s : As) : As := if okT r n then stA (tnS r n) (stB (tnE r n) (stS t (tnS r n) (stE t (tnE r n) s))) else s
def ends3 (s : As) : Bool := (s.any && s.dst) || (!s.any && !s.std)
def inDst (r : Ru) (t y : Int) : Bool := ends3 (stY r t (y + 1) (stY r t y (stY r t (y - 1) as0)))
end Go.Proofs.YtbneokgeochinaaDoor
