/-
  What the document's own dates do (longcaseref02), in the same plain words.
-/
import Derived.Test.YtbneokgeochinaaDoorLcCal2
import Derived.Test.YtbneokgeochinaaDoorLcDr
import Derived.Test.YtbneokgeochinaaDoorLcRDiv
namespace Go.Proofs.YtbneokgeochinaaDoor
open Go.ChangeShapes Go.WideShapes Go.ChangeAt Go.RowKit Lc

set_option maxHeartbeats 400000 in
theorem refLeap_any (y : Int) (w : World) : Calls Tryd.prog 30 #[.int .i64 y] w fun e w' => e = .returned (.bool (leapB y)) ∧ w = w' := by
  have h4 := tmod_zero y 4
  have h100 := tmod_nz y 100
  have h400 := tmod_zero y 400
  have e := Lib.hid (leap_mix y)
  rcases Decidable.em (y % 4 = 0) with c4 | c4 <;> rcases Decidable.em (y % 100 = 0) with c100 | c100 <;> rcases Decidable.em (y % 400 = 0) with c400 | c400
  all_goals
    have C4 := Lib.hid c4; have C100 := Lib.hid c100; have C400 := Lib.hid c400
    simp only [c4, c100, c400, decide_true, decide_false, Bool.not_true, Bool.not_false] at h4 h100 h400
    clear c4 c100 c400
    go_enter Tryd.func30, Tryd.ntmps30
    go_wp2
    go_ret
    refine ⟨ret_b ?_, rfl⟩
    rw [e.out]
    first | (simp [C4.out, C100.out, C400.out]; done) | (exfalso; have := C4.out; have := C400.out; omega)
theorem refLength_no (y m : Int) (w : World) (h : m < 1 ∨ 12 < m) : Calls Tryd.prog 31 #[.int .i64 y, .int .i64 m] w fun e w' => e = .returned (.int .i64 (lenI y m)) ∧ w = w' := by
  have E := Lib.hid (len_none (y := y) h)
  rcases h with h | h
  · go_enter Tryd.func31, Tryd.ntmps31
    go_wp2
    go_ret
    exact ⟨ret_i E.out.symm, rfl⟩
  · have h' : ¬ m < 1 := by omega
    go_enter Tryd.func31, Tryd.ntmps31
    go_wp2
    go_ret
    exact ⟨ret_i E.out.symm, rfl⟩
set_option maxHeartbeats 400000 in
theorem refLength_2 (y : Int) (w : World) : Calls Tryd.prog 31 #[.int .i64 y, .int .i64 2] w fun e w' => e = .returned (.int .i64 (lenI y 2)) ∧ w = w' := by
  cases l : leapB y
  · have E := Lib.hid (show lenI y 2 = 28 by simp [lenI, lp_false l])
    have L := Lib.hid l; clear l
    go_enter Tryd.func31, Tryd.ntmps31
    go_wp2_with fail
    refine (refLeap_any _ _).mono ?_; rintro e w' ⟨rfl, rfl⟩
    rw [L.out]
    go_wp2
    go_ret
    exact ⟨ret_i E.out.symm, rfl⟩
  · have E := Lib.hid (show lenI y 2 = 29 by simp [lenI, lp_true l])
    have L := Lib.hid l; clear l
    go_enter Tryd.func31, Tryd.ntmps31
    go_wp2_with fail
    refine (refLeap_any _ _).mono ?_; rintro e w' ⟨rfl, rfl⟩
    rw [L.out]
    go_wp2
    go_ret
    exact ⟨ret_i E.out.symm, rfl⟩
theorem len_30 {y m : Int} (h1 : 1 ≤ m) (h2 : m ≤ 12) (h : (m == 2) = false) : lenI y m = 30 ∨ lenI y m = 31 := by
  rcases month_12 h1 h2 with rfl | rfl | rfl | rfl | rfl | rfl | rfl | rfl | rfl | rfl | rfl | rfl <;> first | (left; simp [lenI]; done) | (right; simp [lenI]; done) | cases h
set_option maxHeartbeats 2000000 in
theorem refLength_in (y m : Int) (w : World) (h1 : 1 ≤ m) (h2 : m ≤ 12) (h : (m == 2) = false) : Calls Tryd.prog 31 #[.int .i64 y, .int .i64 m] w fun e w' => e = .returned (.int .i64 (lenI y m)) ∧ w = w' := by
  rcases month_12 h1 h2 with rfl | rfl | rfl | rfl | rfl | rfl | rfl | rfl | rfl | rfl | rfl | rfl
  all_goals first | (exfalso; cases h; done) | skip
  all_goals
    have E := Lib.hid (len_30 (y := y) h1 h2 h)
    clear h h1 h2
    go_enter Tryd.func31, Tryd.ntmps31
    go_wp2_with fail
    refine (refLeap_any _ _).mono ?_; rintro e w' ⟨rfl, rfl⟩
    go_wp2
    go_ret
    exact ⟨ret_i (by simp [lenI]), rfl⟩
theorem refLength_any (y m : Int) (w : World) : Calls Tryd.prog 31 #[.int .i64 y, .int .i64 m] w fun e w' => e = .returned (.int .i64 (lenI y m)) ∧ w = w' := by
  by_cases c : m < 1 ∨ 12 < m
  · exact refLength_no y m w c
  by_cases d : m = 2
  · subst d; exact refLength_2 y w
  · exact refLength_in y m w (by omega) (by omega) (by simpa using d)
set_option maxHeartbeats 400000 in
theorem refYearday_yes (y m d : Int) (w : World) (h : rdB y m d = true) : Calls Tryd.prog 51 #[.int .i64 y, .int .i64 m, .int .i64 d] w fun e w' => e = .returned (.int .i64 (ydI y m d)) ∧ w = w' := by
  obtain ⟨m1, m2⟩ := right_month h
  obtain ⟨_, _, d1, d2⟩ := rd_true.1 h
  have lb := (len_bd y m).2
  have d3 : d ≤ 31 := by omega
  clear h lb d2
  go_enter Tryd.func51, Tryd.ntmps51
  go_wp2_with fail
  go_loop [7, 8] (fun b i => ∃ k : Int, 1 ≤ k ∧ k ≤ m ∧ i = .int .i64 k ∧ b = .int .i64 (d - 1 + cum y k)) (fun _ i => (13 - intOf i).toNat)
  case atStart => exact ⟨1, by omega, by omega, rfl, by rw [cum_1]; simp⟩
  case round =>
    obtain ⟨k, k1, k2, rfl, rfl⟩ := hrel
    have cb := cum_bd y k1 (by omega)
    have lb := len_bd y k
    by_cases c : k < m
    · have cs := Lib.hid (cum_succ y k1 (by omega))
      go_wp2_with fail
      refine (refLength_any _ _ _).mono ?_; rintro e w' ⟨rfl, rfl⟩
      go_wp2
      go_round
      case rel => exact ⟨k + 1, by omega, by omega, rfl, by rw [cs.out]; go_num⟩
      case measure => simp [intOf]; omega
    · obtain rfl : k = m := by omega
      go_wp2
      go_ret
      exact ⟨ret_i rfl, rfl⟩
end Go.Proofs.YtbneokgeochinaaDoor
