/-
  A change's day from year to year, plain, of no program: a year later it is from 364 to 371 days later (layer 9).
-/
import Derived.Test.YtbneokgeochinaaDoorLcRy0
namespace Go.Proofs.YtbneokgeochinaaDoor
open Go Lc

/-- A month's first day a year later: 365 or 366 days later. -/
theorem month_step (y : Int) {m : Int} (h1 : 1 ≤ m) (h2 : m ≤ 13) : 365 ≤ ny (y + 1) + cum (y + 1) m - (ny y + cum y m) ∧ ny (y + 1) + cum (y + 1) m - (ny y + cum y m) ≤ 366 := by
  have a := ny_succ y
  have l0 := lp_cases y
  have l1 := lp_cases (y + 1)
  have c : ∀ z, cum z m = cum 1 m + (if 3 ≤ m then lp z else 0) := fun z => by
    have l2 : lp 1 = 0 := by decide
    rcases (show m = 1 ∨ m = 2 ∨ m = 3 ∨ m = 4 ∨ m = 5 ∨ m = 6 ∨ m = 7 ∨ m = 8 ∨ m = 9 ∨ m = 10 ∨ m = 11 ∨ m = 12 ∨ m = 13 by omega) with rfl | rfl | rfl | rfl | rfl | rfl | rfl | rfl | rfl | rfl | rfl | rfl | rfl <;> simp [cum, l2] <;> omega
  rw [c y, c (y + 1)]
  split <;> omega
/-- Such a weekday's place in its month: a week of days, counted from the month's first day, or from its last one. -/
theorem wk_place (y m wd : Int) {wk : Int} (h1 : 1 ≤ m) (h2 : m ≤ 12) (k1 : 1 ≤ wk) (k2 : wk ≤ 5) :
    (wk ≤ 4 → 7 * (wk - 1) + 1 ≤ wkD y m wk wd ∧ wkD y m wk wd ≤ 7 * wk) ∧ (wk = 5 → lenI y m - 6 ≤ wkD y m wk wd ∧ wkD y m wk wd ≤ lenI y m) := by
  have f := wkF_bd y m wd
  have l := len_pos y h1 h2
  have l2 := len_bd y m
  unfold wkD
  constructor
  · intro q; rw [if_pos (by omega)]; omega
  · intro q; subst q; split <;> omega
theorem wk_wd (y m wk : Int) {wd : Int} (h0 : 0 ≤ wd) (h1 : wd ≤ 6) : wdI (dayI y m (wkD y m wk wd)) = wd := by
  rw [wk_is y m _ wd h0 h1]
  unfold wkD
  split <;> omega
/-- A year later a change is from 364 to 371 days later. -/
theorem dayC_step (y : Int) {c : Ch} (h : changeB c true = true) : 364 ≤ dayC (y + 1) c - dayC y c ∧ dayC (y + 1) c - dayC y c ≤ 371 := by
  have a := ny_succ y
  have l0 := lp_cases y
  have l1 := lp_cases (y + 1)
  unfold changeB at h
  rw [Bool.and_eq_true] at h
  have hd := h.1
  unfold dayB at hd
  unfold dayC
  by_cases h1 : c.how = 1
  · rw [if_pos h1, if_pos h1]
    have e : ∀ z, (leapB z = true ∧ 59 < c.n → lp z = 1) := fun z q => lp_true q.1
    have g : ∀ z, (if leapB z = true ∧ 59 < c.n then (1 : Int) else 0) = if 59 < c.n then lp z else 0 := fun z => by
      by_cases q : leapB z = true
      · simp [q, lp_true q]
      · rw [if_neg (fun k => q k.1)]
        rw [Bool.not_eq_true] at q
        rw [lp_false q]; split <;> rfl
    rw [g, g]
    split <;> omega
  · rw [if_neg h1, if_neg h1]
    rw [if_neg h1] at hd
    by_cases h2 : c.how = 2
    · rw [if_pos h2, if_pos h2]; omega
    · rw [if_neg h2, if_neg h2]
      rw [if_neg h2] at hd
      by_cases h3 : c.how = 3
      · rw [if_pos h3] at hd
        simp only [Bool.and_eq_true, inB, decide_eq_true_eq] at hd
        obtain ⟨⟨⟨a1, a2⟩, b1, b2⟩, d1, d2⟩ := hd
        have w0 := wk_wd y c.n c.wk d1 d2
        have w1 := wk_wd (y + 1) c.n c.wk d1 d2
        have p0 := wk_place y c.n c.wd (wk := c.wk) a1 a2 b1 b2
        have p1 := wk_place (y + 1) c.n c.wd (wk := c.wk) a1 a2 b1 b2
        have m0 := month_step y (m := c.n) a1 (by omega)
        have m1 := month_step y (m := c.n + 1) (by omega) (by omega)
        have s0 := cum_succ y a1 a2
        have s1 := cum_succ (y + 1) a1 a2
        have e0 : dayI y c.n (wkD y c.n c.wk c.wd) = ny y + cum y c.n + wkD y c.n c.wk c.wd - 1 := by unfold dayI ydI; omega
        have e1 : dayI (y + 1) c.n (wkD (y + 1) c.n c.wk c.wd) = ny (y + 1) + cum (y + 1) c.n + wkD (y + 1) c.n c.wk c.wd - 1 := by unfold dayI ydI; omega
        unfold wdI at w0 w1
        generalize dayI y c.n (wkD y c.n c.wk c.wd) = D0 at *
        generalize dayI (y + 1) c.n (wkD (y + 1) c.n c.wk c.wd) = D1 at *
        generalize wkD y c.n c.wk c.wd = x0 at *
        generalize wkD (y + 1) c.n c.wk c.wd = x1 at *
        clear l0 l1 a
        by_cases q : c.wk ≤ 4
        · have := p0.1 q; have := p1.1 q; omega
        · have := p0.2 (by omega); have := p1.2 (by omega); omega
      · rw [if_neg h3] at hd; cases hd
theorem changeB_tm {c : Ch} (h : changeB c true = true) : -604799 ≤ c.tm ∧ c.tm ≤ 604799 := by
  unfold changeB timeB at h
  simp only [if_true, Bool.and_eq_true, inB, decide_eq_true_eq] at h
  exact h.2
theorem ru_parts {r : Ru} (h : rightB r true = true) : -89999 ≤ r.std.off ∧ r.std.off ≤ 89999 ∧ (r.both = true → changeB r.st true = true ∧ changeB r.en true = true ∧ -89999 ≤ r.dst.off ∧ r.dst.off ≤ 89999) := by
  unfold rightB at h
  rw [Bool.and_eq_true] at h
  obtain ⟨h1, h2⟩ := h
  unfold kindB at h1
  simp only [Bool.and_eq_true, inB, decide_eq_true_eq] at h1
  refine ⟨h1.2.1, h1.2.2, fun hb => ?_⟩
  rw [hb] at h2
  simp only [if_true, Bool.and_eq_true] at h2
  have h3 := h2.1.1
  unfold kindB at h3
  simp only [Bool.and_eq_true, inB, decide_eq_true_eq] at h3
  exact ⟨h2.1.2, h2.2, h3.2.1, h3.2.2⟩
theorem okT_parts {r : Ru} {y : Int} (h : okT r y = true) : rightB r true = true ∧ r.both = true ∧ yrB y = true := by
  unfold okT at h
  simp only [Bool.and_eq_true] at h
  exact ⟨h.1.1, h.1.2, h.2⟩
theorem yrB_parts {y : Int} (h : yrB y = true) : -2147483648 ≤ y ∧ y ≤ 2147483647 := by
  unfold yrB at h
  simpa [inB] using h
theorem tnS_bd {r : Ru} {y : Int} (h : okT r y = true) : -68000000000000000 ≤ tnS r y ∧ tnS r y ≤ 68000000000000000 := by
  obtain ⟨a, b, c⟩ := okT_parts h
  obtain ⟨o1, o2, z⟩ := ru_parts a
  obtain ⟨s, _, _, _⟩ := z b
  have t := changeB_tm s
  obtain ⟨y1, y2⟩ := yrB_parts c
  have := ny_rng y1 y2
  have := dayC_bd (y := y) s
  unfold tnS
  omega
theorem tnE_bd {r : Ru} {y : Int} (h : okT r y = true) : -68000000000000000 ≤ tnE r y ∧ tnE r y ≤ 68000000000000000 := by
  obtain ⟨a, b, c⟩ := okT_parts h
  obtain ⟨_, _, z⟩ := ru_parts a
  obtain ⟨_, s, o1, o2⟩ := z b
  have t := changeB_tm s
  obtain ⟨y1, y2⟩ := yrB_parts c
  have := ny_rng y1 y2
  have := dayC_bd (y := y) s
  unfold tnE
  omega
/-- A year's turns are within nine days of it. -/
theorem tn_near {r : Ru} {n : Int} (hr : rightB r true = true) (hb : r.both = true) : (ny n * 86400 - 694798 ≤ tnS r n ∧ tnS r n ≤ (ny n + 365 + lp n) * 86400 + 694798) ∧ (ny n * 86400 - 694798 ≤ tnE r n ∧ tnE r n ≤ (ny n + 365 + lp n) * 86400 + 694798) := by
  obtain ⟨o1, o2, z⟩ := ru_parts hr
  obtain ⟨s1, s2, o3, o4⟩ := z hb
  have t1 := changeB_tm s1
  have t2 := changeB_tm s2
  have d1 := dayC_bd (y := n) s1
  have d2 := dayC_bd (y := n) s2
  unfold tnS tnE
  omega
/-- A year later a turn is from 364 to 371 days later. -/
theorem tn_step {r : Ru} (n : Int) (hr : rightB r true = true) (hb : r.both = true) : (364 * 86400 ≤ tnS r (n + 1) - tnS r n ∧ tnS r (n + 1) - tnS r n ≤ 371 * 86400) ∧ (364 * 86400 ≤ tnE r (n + 1) - tnE r n ∧ tnE r (n + 1) - tnE r n ≤ 371 * 86400) := by
  obtain ⟨_, _, z⟩ := ru_parts hr
  obtain ⟨s1, s2, _, _⟩ := z hb
  have d1 := dayC_step n s1
  have d2 := dayC_step n s2
  unfold tnS tnE
  omega
end Go.Proofs.YtbneokgeochinaaDoor
