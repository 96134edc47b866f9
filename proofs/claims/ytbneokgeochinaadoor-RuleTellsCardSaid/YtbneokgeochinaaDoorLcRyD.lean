/-
  The document's own answer of layer 9: years, days.
-/
import Derived.Test.YtbneokgeochinaaDoorLcRy0
import Derived.Test.YtbneokgeochinaaDoorLcDa
import Derived.Test.YtbneokgeochinaaDoorLcCivS
import Derived.Test.YtbneokgeochinaaDoorLcCivV
import Derived.Test.YtbneokgeochinaaDoorLcQui
import Derived.Lib.QuietBelow
import Derived.Handy
namespace Go.Proofs.YtbneokgeochinaaDoor
open Go.ChangeShapes Go.WideShapes Go.ChangeAt Go.RowKit Go.Sort Lc

set_option maxRecDepth 100000 in
theorem dyear_any (y : Int) (w : World) : Calls Tryd.prog 28 #[.int .i64 y] w fun e w' => e = .returned (.bool (yrB y)) ∧ w = w' := by
  unfold yrB inB
  go_enter Tryd.func28, Tryd.ntmps28
  go_wp2_with fail
  all_goals go_ret
  all_goals exact ⟨ret_b (by first | rfl | (rw [Bool.eq_iff_iff]; simp; try omega)), rfl⟩

theorem ret_ib {a c : Int} {b d : Bool} (h : a = c) (g : b = d) : Ending.returned (.tuple #[.int .i64 a, .bool b]) = .returned (.tuple #[.int .i64 c, .bool d]) := by rw [h, g]
set_option maxRecDepth 100000 in
set_option maxHeartbeats 4000000 in
theorem dday_no (y : Int) (c : Ch) (w : World) (h : okY y c = false) : Calls Tryd.prog 13 #[.int .i64 y, .agg (cA c)] w fun e w' => e = .returned (.tuple #[.int .i64 0, .bool false]) ∧ Up w w' := by
  have B0 := Lib.hid (Cb.bk (Bk.new w (cA c) 25 (by decide)))
  have U0 := Lib.hid (Up.alloc w (.cells (cA c) 25))
  have C : ∀ w, _ := fun w => dchange_any c true w
  have Y : ∀ w, _ := fun w => dyear_any y w
  unfold okY at h
  generalize changeB c true = q at *
  generalize yrB y = z at *
  obtain ⟨h0, n, k, d, t⟩ := c
  unfold cA at *
  simp only at *
  obtain ⟨c0, c1, c2, c3, c4⟩ := B0.out
  simp only at c0 c1 c2 c3 c4
  go_enter Tryd.func13, Tryd.ntmps13
  go_wp2_with fail
  refine (C _).mono ?_; rintro e w1 ⟨rfl, u1⟩
  have U1 := U0.out.trans u1
  cases q
  · go_wp2_with fail
    exact bodyPost_ret (v := .tuple #[.int .i64 0, .bool false]) (by simp [results, Tryd.results13, go_sem]) rfl ⟨rfl, U1⟩
  · cases z
    · go_wp2_with fail
      refine (Y _).mono ?_; rintro e w2 ⟨rfl, rfl⟩
      go_wp2_with fail
      exact bodyPost_ret (v := .tuple #[.int .i64 0, .bool false]) (by simp [results, Tryd.results13, go_sem]) rfl ⟨rfl, U1⟩
    · cases h

theorem okY_parts {y : Int} {c : Ch} (h : okY y c = true) : changeB c true = true ∧ -2147483648 ≤ y ∧ y ≤ 2147483647 ∧ ((c.how = 1 ∧ 1 ≤ c.n ∧ c.n ≤ 365) ∨ (c.how = 2 ∧ 0 ≤ c.n ∧ c.n ≤ 365) ∨ (c.how = 3 ∧ 1 ≤ c.n ∧ c.n ≤ 12 ∧ 1 ≤ c.wk ∧ c.wk ≤ 5 ∧ 0 ≤ c.wd ∧ c.wd ≤ 6)) := by
  unfold okY at h
  rw [Bool.and_eq_true] at h
  have hc := h.1
  have hy := h.2
  unfold yrB at hy
  simp only [inB, Bool.and_eq_true, decide_eq_true_eq] at hy
  refine ⟨hc, hy.1, hy.2, ?_⟩
  unfold changeB at hc
  rw [Bool.and_eq_true] at hc
  have hd := hc.1
  unfold dayB at hd
  by_cases h1 : c.how = 1
  · rw [if_pos h1] at hd
    simp only [Bool.and_eq_true, inB, decide_eq_true_eq] at hd
    omega
  · rw [if_neg h1] at hd
    by_cases h2 : c.how = 2
    · rw [if_pos h2] at hd
      simp only [Bool.and_eq_true, inB, decide_eq_true_eq] at hd
      omega
    · rw [if_neg h2] at hd
      by_cases h3 : c.how = 3
      · rw [if_pos h3] at hd
        simp only [Bool.and_eq_true, inB, decide_eq_true_eq] at hd
        omega
      · rw [if_neg h3] at hd; cases hd
theorem dayC_1 {y n k d t : Int} : dayC y ⟨1, n, k, d, t⟩ = ny y + (n - 1) + (if leapB y = true ∧ 59 < n then 1 else 0) := rfl
theorem dayC_2 {y n k d t : Int} : dayC y ⟨2, n, k, d, t⟩ = ny y + n := rfl
theorem dayC_3 {y n k d t : Int} : dayC y ⟨3, n, k, d, t⟩ = dayI y n (wkD y n k d) := rfl
set_option maxRecDepth 100000 in
set_option maxHeartbeats 8000000 in
theorem dday_12 (y : Int) (c : Ch) (w : World) (h : okY y c = true) (hh : c.how = 1 ∨ c.how = 2) : Calls Tryd.prog 13 #[.int .i64 y, .agg (cA c)] w fun e w' => e = .returned (.tuple #[.int .i64 (dayC y c), .bool true]) ∧ Up w w' := by
  have B0 := Lib.hid (Cb.bk (Bk.new w (cA c) 25 (by decide)))
  have U0 := Lib.hid (Up.alloc w (.cells (cA c) 25))
  obtain ⟨hc, y1, y2, pp⟩ := okY_parts h
  have C : ∀ w, _ := fun w => dchange_any c true w
  rw [hc] at C
  have Y : ∀ w, _ := fun w => dyear_any y w
  have hy : yrB y = true := by unfold yrB inB; simp [y1, y2]
  rw [hy] at Y
  have F : ∀ w, _ := fun w => refDays_yes y 1 1 w (day_fits y1 y2 (by decide) (by have := len_pos y (m := 1) (by decide) (by decide); omega))
  rw [dayI_1] at F
  have L : ∀ w, _ := fun w => refLeap_any y w
  have nb := ny_rng y1 y2
  have lb := lp_01 y
  clear hy
  obtain ⟨h0, n, k, d, t⟩ := c
  have n0 : 0 ≤ n ∧ n ≤ 365 := by simp only at pp; omega
  clear pp hc h
  simp only at hh
  rcases hh with rfl | rfl
  · rw [dayC_1]
    unfold cA at *
    simp only at *
    by_cases hl : leapB y = true
    · rw [hl] at L
      by_cases h59 : 59 < n
      · rw [if_pos ⟨hl, h59⟩]
        generalize ny y = N at *
        have k1 : decide (59 < n) = true := by simpa using h59
        obtain ⟨c0, c1, c2, c3, c4⟩ := B0.out
        simp only at c0 c1 c2 c3 c4
        go_enter Tryd.func13, Tryd.ntmps13
        go_wp2_with fail
        refine (C _).mono ?_; rintro e w1 ⟨rfl, u1⟩
        clear c0 c1 c2 c3 c4
        obtain ⟨c0, c1, c2, c3, c4⟩ := B0.out.up u1
        simp only at c0 c1 c2 c3 c4
        have U1 := Lib.hid (U0.out.trans u1)
        clear u1
        go_wp2_with (first | (go_at_call 28; refine (Y _).mono ?_; rintro e w' ⟨rfl, rfl⟩) | (go_at_call 29; refine (F _).mono ?_; rintro e w' ⟨rfl, rfl⟩) | (go_at_call 30; refine (L _).mono ?_; rintro e w' ⟨rfl, rfl⟩))
        exact bodyPost_ret (v := .tuple #[.int .i64 (N + (n - 1 + 1)), .bool true]) (by simp [results, Tryd.results13, go_sem]) rfl ⟨ret_ib (by omega) rfl, U1.out⟩
      · rw [if_neg (fun z => h59 z.2)]
        generalize ny y = N at *
        have k1 : decide (59 < n) = false := by simpa using h59
        obtain ⟨c0, c1, c2, c3, c4⟩ := B0.out
        simp only at c0 c1 c2 c3 c4
        go_enter Tryd.func13, Tryd.ntmps13
        go_wp2_with fail
        refine (C _).mono ?_; rintro e w1 ⟨rfl, u1⟩
        clear c0 c1 c2 c3 c4
        obtain ⟨c0, c1, c2, c3, c4⟩ := B0.out.up u1
        simp only at c0 c1 c2 c3 c4
        have U1 := Lib.hid (U0.out.trans u1)
        clear u1
        go_wp2_with (first | (go_at_call 28; refine (Y _).mono ?_; rintro e w' ⟨rfl, rfl⟩) | (go_at_call 29; refine (F _).mono ?_; rintro e w' ⟨rfl, rfl⟩) | (go_at_call 30; refine (L _).mono ?_; rintro e w' ⟨rfl, rfl⟩))
        exact bodyPost_ret (v := .tuple #[.int .i64 (N + (n - 1)), .bool true]) (by simp [results, Tryd.results13, go_sem]) rfl ⟨ret_ib (by omega) rfl, U1.out⟩
    · rw [if_neg (fun z => hl z.1)]
      rw [Bool.not_eq_true] at hl
      rw [hl] at L
      generalize ny y = N at *
      obtain ⟨c0, c1, c2, c3, c4⟩ := B0.out
      simp only at c0 c1 c2 c3 c4
      go_enter Tryd.func13, Tryd.ntmps13
      go_wp2_with fail
      refine (C _).mono ?_; rintro e w1 ⟨rfl, u1⟩
      clear c0 c1 c2 c3 c4
      obtain ⟨c0, c1, c2, c3, c4⟩ := B0.out.up u1
      simp only at c0 c1 c2 c3 c4
      have U1 := Lib.hid (U0.out.trans u1)
      clear u1
      go_wp2_with (first | (go_at_call 28; refine (Y _).mono ?_; rintro e w' ⟨rfl, rfl⟩) | (go_at_call 29; refine (F _).mono ?_; rintro e w' ⟨rfl, rfl⟩) | (go_at_call 30; refine (L _).mono ?_; rintro e w' ⟨rfl, rfl⟩))
      exact bodyPost_ret (v := .tuple #[.int .i64 (N + (n - 1)), .bool true]) (by simp [results, Tryd.results13, go_sem]) rfl ⟨ret_ib (by omega) rfl, U1.out⟩
  · rw [dayC_2]
    unfold cA at *
    simp only at *
    generalize ny y = N at *
    obtain ⟨c0, c1, c2, c3, c4⟩ := B0.out
    simp only at c0 c1 c2 c3 c4
    go_enter Tryd.func13, Tryd.ntmps13
    go_wp2_with fail
    refine (C _).mono ?_; rintro e w1 ⟨rfl, u1⟩
    clear c0 c1 c2 c3 c4
    obtain ⟨c0, c1, c2, c3, c4⟩ := B0.out.up u1
    simp only at c0 c1 c2 c3 c4
    have U1 := Lib.hid (U0.out.trans u1)
    clear u1
    go_wp2_with (first | (go_at_call 28; refine (Y _).mono ?_; rintro e w' ⟨rfl, rfl⟩) | (go_at_call 29; refine (F _).mono ?_; rintro e w' ⟨rfl, rfl⟩) | (go_at_call 30; refine (L _).mono ?_; rintro e w' ⟨rfl, rfl⟩))
    exact bodyPost_ret (v := .tuple #[.int .i64 (N + n), .bool true]) (by simp [results, Tryd.results13, go_sem]) rfl ⟨rfl, U1.out⟩
end Go.Proofs.YtbneokgeochinaaDoor
