/-
  What Leap, Length and Right of package civil do, in plain words.
-/
import Derived.Test.YtbneokgeochinaaDoorLcCal2
import Derived.Test.YtbneokgeochinaaDoorLcTab
import Derived.Test.YtbneokgeochinaaDoorLcCal
import Derived.LoopTactic
namespace Go.Proofs.YtbneokgeochinaaDoor
open Go.ChangeShapes Go.WideShapes Go.ChangeAt Go.RowKit Lc

set_option maxHeartbeats 400000 in
theorem leap_any (y : Int) (w : World) : Calls Tryd.prog 45 #[.int .i64 y] w fun e w' => e = .returned (.bool (leapB y)) ∧ w = w' := by
  have h4 := tmod_zero y 4
  have h100 := tmod_nz y 100
  have h400 := tmod_zero y 400
  have e := Lib.hid (leap_mix y)
  rcases Decidable.em (y % 4 = 0) with c4 | c4 <;> rcases Decidable.em (y % 100 = 0) with c100 | c100 <;> rcases Decidable.em (y % 400 = 0) with c400 | c400
  all_goals
    have C4 := Lib.hid c4; have C100 := Lib.hid c100; have C400 := Lib.hid c400
    simp only [c4, c100, c400, decide_true, decide_false, Bool.not_true, Bool.not_false] at h4 h100 h400
    clear c4 c100 c400
    go_enter Tryd.func45, Tryd.ntmps45
    go_wp2
    go_ret
    refine ⟨ret_b ?_, rfl⟩
    rw [e.out]; simp [C4.out, C100.out, C400.out]
theorem len_is (y : Int) (m : Int) (h1 : 1 ≤ m) (h2 : m ≤ 12) (h : m ≠ 2 ∨ leapB y = false) : lensL.getD (m.toNat - 1) 0 = lenI y m := by
  rcases month_12 h1 h2 with rfl | rfl | rfl | rfl | rfl | rfl | rfl | rfl | rfl | rfl | rfl | rfl
  all_goals first | (simp [lensL, lenI]; done) | skip
  rcases h with h | h
  · exact absurd rfl h
  · simp [lensL, lenI, lp_false h]
set_option maxHeartbeats 400000 in
theorem length_in (y m : Int) (w : World) (T : Tab w) (h1 : 1 ≤ m) (h2 : m ≤ 12) (h : (m == 2) = false) : Calls Tryd.prog 22 #[.int .i64 y, .int .i64 m] w fun e w' => e = .returned (.int .i64 (lenI y m)) ∧ w = w' := by
  have E := Lib.hid (len_is y m h1 h2 (.inl (by simpa using h)))
  have c := T (m.toNat - 1) (by omega)
  clear T
  go_enter Tryd.func22, Tryd.ntmps22
  go_wp2
  go_ret
  exact ⟨ret_i E.out, rfl⟩
theorem length_28 (y : Int) (w : World) (T : Tab w) (h : leapB y = false) : Calls Tryd.prog 22 #[.int .i64 y, .int .i64 2] w fun e w' => e = .returned (.int .i64 (lenI y 2)) ∧ w = w' := by
  have E := Lib.hid (len_is y 2 (by omega) (by omega) (.inr h))
  have c := T 1 (by omega)
  have L := Lib.hid h
  clear T h
  go_enter Tryd.func22, Tryd.ntmps22
  go_wp2_with fail
  refine (leap_any _ _).mono ?_; rintro e w' ⟨rfl, rfl⟩
  rw [L.out]
  go_wp2
  go_ret
  exact ⟨ret_i E.out, rfl⟩
theorem length_29 (y : Int) (w : World) (h : leapB y = true) : Calls Tryd.prog 22 #[.int .i64 y, .int .i64 2] w fun e w' => e = .returned (.int .i64 (lenI y 2)) ∧ w = w' := by
  have E := Lib.hid (len_29 y h)
  have L := Lib.hid h
  clear h
  go_enter Tryd.func22, Tryd.ntmps22
  go_wp2_with fail
  refine (leap_any _ _).mono ?_; rintro e w' ⟨rfl, rfl⟩
  rw [L.out]
  go_wp2
  go_ret
  exact ⟨ret_i E.out.symm, rfl⟩
theorem length_no (y m : Int) (w : World) (h : m < 1 ∨ 12 < m) : Calls Tryd.prog 22 #[.int .i64 y, .int .i64 m] w fun e w' => e = .returned (.int .i64 (lenI y m)) ∧ w = w' := by
  have E := Lib.hid (len_none (y := y) h)
  rcases h with h | h
  · go_enter Tryd.func22, Tryd.ntmps22
    go_wp2
    go_ret
    exact ⟨ret_i E.out.symm, rfl⟩
  · have h' : ¬ m < 1 := by omega
    go_enter Tryd.func22, Tryd.ntmps22
    go_wp2
    go_ret
    exact ⟨ret_i E.out.symm, rfl⟩
theorem length_any (y m : Int) (w : World) (T : Tab w) : Calls Tryd.prog 22 #[.int .i64 y, .int .i64 m] w fun e w' => e = .returned (.int .i64 (lenI y m)) ∧ w = w' := by
  by_cases c : m < 1 ∨ 12 < m
  · exact length_no y m w c
  by_cases d : m = 2
  · subst d
    cases l : leapB y
    · exact length_28 y w T l
    · exact length_29 y w l
  · exact length_in y m w T (by omega) (by omega) (by simpa using d)

/-! Right. -/
set_option maxHeartbeats 400000 in
theorem rd_any (y m d : Int) (w : World) (T : Tab w) : Calls Tryd.prog 47 #[.int .i64 y, .int .i64 m, .int .i64 d] w fun e w' => e = .returned (.bool (rdB y m d)) ∧ w = w' := by
  have t := Lib.hid T; clear T
  by_cases c1 : y < -2147483648
  · have E := Lib.hid (rd_false (y := y) (m := m) (d := d) |>.2 (by omega))
    go_enter Tryd.func47, Tryd.ntmps47
    go_wp2
    go_ret
    exact ⟨ret_b E.out.symm, rfl⟩
  by_cases c2 : 2147483647 < y
  · have E := Lib.hid (rd_false (y := y) (m := m) (d := d) |>.2 (by omega))
    go_enter Tryd.func47, Tryd.ntmps47
    go_wp2
    go_ret
    exact ⟨ret_b E.out.symm, rfl⟩
  by_cases c3 : d < 1
  · have E := Lib.hid (rd_false (y := y) (m := m) (d := d) |>.2 (by omega))
    have h : decide (1 ≤ d) = false := by simp; omega
    clear c3
    go_enter Tryd.func47, Tryd.ntmps47
    go_wp2
    go_ret
    exact ⟨ret_b E.out.symm, rfl⟩
  have E : Hid (rdB y m d = decide (d ≤ lenI y m)) := by
    refine Lib.hid ?_
    unfold rdB; rw [Bool.eq_iff_iff]; simp; omega
  have h : decide (1 ≤ d) = true := by simp; omega
  clear c3
  go_enter Tryd.func47, Tryd.ntmps47
  go_wp2_with fail
  refine (length_any _ _ _ t.out).mono ?_; rintro e w' ⟨rfl, rfl⟩
  go_wp2
  go_ret
  exact ⟨ret_b E.out.symm, rfl⟩
end Go.Proofs.YtbneokgeochinaaDoor
