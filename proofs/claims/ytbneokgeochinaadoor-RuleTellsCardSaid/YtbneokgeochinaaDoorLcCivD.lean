/-
  What Yearday, newYear and Days of package civil do, in plain words.
-/
import Derived.Test.YtbneokgeochinaaDoorLcCivL
import Derived.Test.YtbneokgeochinaaDoorLcNDiv
namespace Go.Proofs.YtbneokgeochinaaDoor
open Go.ChangeShapes Go.WideShapes Go.ChangeAt Go.RowKit Lc

theorem yearday_no (y m d : Int) (w : World) (T : Tab w) (h : rdB y m d = false) : Calls Tryd.prog 46 #[.int .i64 y, .int .i64 m, .int .i64 d] w fun e w' => e = .returned (.tuple #[.int .i64 0, .int .i64 1]) ∧ w = w' := by
  have t := Lib.hid T; have H := Lib.hid h; clear T h
  go_enter Tryd.func46, Tryd.ntmps46
  go_wp2_with fail
  refine (rd_any _ _ _ _ t.out).mono ?_; rintro e w' ⟨rfl, rfl⟩
  rw [H.out]
  go_wp2
  go_ret2
  exact ⟨rfl, rfl⟩
set_option maxHeartbeats 400000 in
theorem yearday_yes (y m d : Int) (w : World) (T : Tab w) (h : rdB y m d = true) : Calls Tryd.prog 46 #[.int .i64 y, .int .i64 m, .int .i64 d] w fun e w' => e = .returned (.tuple #[.int .i64 (ydI y m d), .int .i64 0]) ∧ w = w' := by
  have t := Lib.hid T; have H := Lib.hid h
  obtain ⟨m1, m2⟩ := right_month h
  obtain ⟨_, _, d1, d2⟩ := rd_true.1 h
  have lb := (len_bd y m).2
  have d3 : d ≤ 31 := by omega
  clear T h lb d2
  go_enter Tryd.func46, Tryd.ntmps46
  go_wp2_with fail
  refine (rd_any _ _ _ _ t.out).mono ?_; rintro e w' ⟨rfl, rfl⟩
  rw [H.out]
  go_wp2_with fail
  go_loop [8, 9] (fun b i => ∃ k : Int, 1 ≤ k ∧ k ≤ m ∧ i = .int .i64 k ∧ b = .int .i64 (d - 1 + cum y k)) (fun _ i => (13 - intOf i).toNat)
  case atStart => exact ⟨1, by omega, by omega, rfl, by rw [cum_1]; simp⟩
  case round =>
    obtain ⟨k, k1, k2, rfl, rfl⟩ := hrel
    have cb := cum_bd y k1 (by omega)
    have lb := len_bd y k
    by_cases c : k < m
    · have cs := Lib.hid (cum_succ y k1 (by omega))
      go_wp2_with fail
      refine (length_any _ _ _ t.out).mono ?_; rintro e w' ⟨rfl, rfl⟩
      go_wp2
      go_round
      case rel => exact ⟨k + 1, by omega, by omega, rfl, by rw [cs.out]; go_num⟩
      case measure => simp [intOf]; omega
    · obtain rfl : k = m := by omega
      go_wp2
      go_ret2
      exact ⟨ret_ii rfl rfl, rfl⟩
set_option maxHeartbeats 400000 in
theorem leaps_any (y : Int) (w : World) (h1 : -4000000000 ≤ y) (h2 : y ≤ 4000000000) : Calls Tryd.prog 60 #[.int .i64 y] w fun e w' => e = .returned (.int .i64 (la y)) ∧ Dr w w' := by
  have e1 := Lib.hid (show la y = (y - 1) / 4 - (y - 1) / 100 + (y - 1) / 400 + 1 from rfl)
  have F := Lib.hid (fit_small (x := y - 1) (by omega) (by omega))
  have b1 : -1000000001 ≤ (y - 1) / 4 := by omega
  have b2 : (y - 1) / 4 ≤ 1000000000 := by omega
  have b3 : -40000001 ≤ (y - 1) / 100 := by omega
  have b4 : (y - 1) / 100 ≤ 40000000 := by omega
  have b5 : -10000001 ≤ (y - 1) / 400 := by omega
  have b6 : (y - 1) / 400 ≤ 10000000 := by omega
  go_enter Tryd.func60, Tryd.ntmps60
  go_wp2_with fail
  refine (div_yes _ _ _ (by decide) F.out (by decide)).mono ?_; rintro e w' ⟨rfl, n1, rfl⟩
  go_wp2_with fail
  refine (div_yes _ _ _ (by decide) F.out (by decide)).mono ?_; rintro e w' ⟨rfl, n2, rfl⟩
  go_wp2_with fail
  refine (div_yes _ _ _ (by decide) F.out (by decide)).mono ?_; rintro e w' ⟨rfl, n3, rfl⟩
  generalize hA : (y - 1) / 4 = A at *
  generalize hB : (y - 1) / 100 = B at *
  generalize hC : (y - 1) / 400 = C at *
  clear hA hB hC
  go_wp2
  go_ret
  exact ⟨ret_i e1.out.symm, Dr.drewN _ _⟩
set_option maxHeartbeats 400000 in
theorem newYear_any (y : Int) (w : World) (h1 : -4000000000 ≤ y) (h2 : y ≤ 4000000000) : Calls Tryd.prog 42 #[.int .i64 y] w fun e w' => e = .returned (.int .i64 (ny y)) ∧ Dr w w' := by
  have e1 := Lib.hid (ny_is y)
  obtain ⟨b1, b2⟩ := la_bd y h1 h2
  have LA := fun w => leaps_any y w h1 h2
  go_enter Tryd.func42, Tryd.ntmps42
  go_wp2_with fail
  refine (LA _).mono ?_; rintro e w' ⟨rfl, n1, rfl⟩
  clear LA
  go_wp2
  go_ret
  exact ⟨ret_i e1.out.symm, Dr.drewN _ _⟩
theorem days_no (y m d : Int) (w : World) (T : Tab w) (h : rdB y m d = false) : Calls Tryd.prog 24 #[.int .i64 y, .int .i64 m, .int .i64 d] w fun e w' => e = .returned (.tuple #[.int .i64 0, .int .i64 1]) ∧ w = w' := by
  have t := Lib.hid T; have H := Lib.hid h; clear T h
  go_enter Tryd.func24, Tryd.ntmps24
  go_wp2_with fail
  refine (yearday_no _ _ _ _ t.out H.out).mono ?_; rintro e w' ⟨rfl, rfl⟩
  go_wp2
  go_ret2
  exact ⟨rfl, rfl⟩
set_option maxHeartbeats 400000 in
theorem days_yes (y m d : Int) (w : World) (T : Tab w) (h : rdB y m d = true) : Calls Tryd.prog 24 #[.int .i64 y, .int .i64 m, .int .i64 d] w fun e w' => e = .returned (.tuple #[.int .i64 (dayI y m d), .int .i64 0]) ∧ Dr w w' := by
  have t := Lib.hid T; have H := Lib.hid h
  obtain ⟨y1, y2, _⟩ := rd_true.1 h
  obtain ⟨b1, b2⟩ := ny_bd y (by omega) (by omega)
  obtain ⟨b3, b4⟩ := yd_bd h
  have b5 := (lp_01 y).2
  have b6 : ydI y m d ≤ 366 := by omega
  have E := Lib.hid (show dayI y m d = ny y + ydI y m d from rfl)
  have NY := fun w => newYear_any y w (by omega) (by omega)
  clear T h b4 b5
  go_enter Tryd.func24, Tryd.ntmps24
  go_wp2_with fail
  refine (yearday_yes _ _ _ _ t.out H.out).mono ?_; rintro e w' ⟨rfl, rfl⟩
  go_wp2_with fail
  refine (NY _).mono ?_; rintro e w' ⟨rfl, n1, rfl⟩
  clear NY
  go_wp2
  go_ret2
  exact ⟨ret_ii E.out.symm rfl, Dr.drewN _ _⟩
end Go.Proofs.YtbneokgeochinaaDoor
