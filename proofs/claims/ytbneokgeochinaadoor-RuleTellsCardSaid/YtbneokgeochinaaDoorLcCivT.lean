/-
  What Date of package civil does, in plain words.
-/
import Derived.Test.YtbneokgeochinaaDoorLcCivD
namespace Go.Proofs.YtbneokgeochinaaDoor
open Go.ChangeShapes Go.WideShapes Go.ChangeAt Go.RowKit Lc

set_option maxHeartbeats 400000 in
theorem yearOf_any (n y : Int) (w : World) (b1 : -1000000000000 ≤ n) (b2 : n ≤ 1000000000000) (h1 : ny y ≤ n) (h2 : n < ny (y + 1)) :
    Calls Tryd.prog 43 #[.int .i64 n] w fun e w' => e = .returned (.int .i64 y) ∧ Dr w w' := by
  obtain ⟨g1, g2⟩ := guess_bd n b1 b2
  have G1 := Lib.hid (fun c => guess_1 h1 h2 c)
  have G2 := Lib.hid (fun c => guess_2 h1 h2 c)
  have G3 := Lib.hid (fun c1 c => guess_3 h1 h2 c1 c)
  have F := Lib.hid (fit_small (x := (n + 719528) * 400) (by omega) (by omega))
  clear h1 h2
  have DV := fun w => div_yes ((n + 719528) * 400) 146097 w (by decide) F.out (by decide)
  go_enter Tryd.func43, Tryd.ntmps43
  go_wp2_with fail
  refine (DV _).mono ?_; rintro e w' ⟨rfl, n1, rfl⟩
  clear DV F
  generalize hg : (n + 719528) * 400 / 146097 = g at *
  clear hg
  have N1 := fun w => newYear_any g w (by omega) (by omega)
  have N2 := fun w => newYear_any (g + 1) w (by omega) (by omega)
  go_wp2_with fail
  refine (N1 _).mono ?_; rintro e w' ⟨rfl, n2, rfl⟩
  clear N1
  by_cases c1 : n < ny g
  · have e := Lib.hid (G1.out c1)
    go_wp2_with fail
    go_ret
    exact ⟨ret_i e.out, Dr.drewN _ _⟩
  · have c1' : ny g ≤ n := by omega
    go_wp2_with fail
    refine (N2 _).mono ?_; rintro e w' ⟨rfl, n3, rfl⟩
    clear N2
    by_cases c2 : ny (g + 1) ≤ n
    · have e := Lib.hid (G2.out c2)
      go_wp2_with fail
      go_ret
      exact ⟨ret_i e.out, Dr.drewN _ _⟩
    · have e := Lib.hid (G3.out c1' (by omega))
      have c2' : decide (ny (g + 1) ≤ n) = false := by simpa using c2
      clear c2
      go_wp2_with fail
      go_ret
      exact ⟨ret_i e.out, Dr.drewN _ _⟩
set_option maxHeartbeats 800000 in
theorem monthAndDay_any (y m i : Int) (w : World) (T : Tab w) (m1 : 1 ≤ m) (m2 : m ≤ 12) (i1 : 0 ≤ i) (i2 : i < lenI y m) :
    Calls Tryd.prog 44 #[.int .i64 y, .int .i64 (cum y m + i)] w fun e w' => e = .returned (.tuple #[.int .i64 m, .int .i64 (i + 1)]) ∧ w = w' := by
  have t := Lib.hid T; clear T
  obtain ⟨cm1, cm2⟩ := cum_bd y m1 (by omega)
  have lm := (len_bd y m).2
  go_enter Tryd.func44, Tryd.ntmps44
  go_wp2_with fail
  go_loop [1, 6] (fun b j => ∃ k : Int, 1 ≤ k ∧ k ≤ m ∧ j = .int .i64 k ∧ b = .int .i64 (cum y m + i - cum y k)) (fun _ j => (13 - intOf j).toNat)
  case atStart => exact ⟨1, by omega, by omega, rfl, by rw [cum_1]; simp⟩
  case round =>
    obtain ⟨k, k1, k2, rfl, rfl⟩ := hrel
    obtain ⟨ck1, ck2⟩ := cum_bd y k1 (by omega)
    obtain ⟨lk1, lk2⟩ := len_bd y k
    have cs := Lib.hid (cum_succ y k1 (by omega))
    by_cases c : k < m
    · have cm := cum_mono y k1 c (by omega)
      have k12 : k < 12 := by omega
      have d : decide (lenI y k ≤ cum y m + i - cum y k) = true := by simp; omega
      go_wp2_with fail
      refine (length_any _ _ _ t.out).mono ?_; rintro e w' ⟨rfl, rfl⟩
      go_wp2_with fail
      refine (length_any _ _ _ t.out).mono ?_; rintro e w' ⟨rfl, rfl⟩
      go_wp2_with fail
      go_round
      case rel => exact ⟨k + 1, by omega, by omega, rfl, by rw [cs.out]; go_num⟩
      case measure => simp [intOf]; omega
    · obtain rfl : k = m := by omega
      have d : decide (lenI y k ≤ cum y k + i - cum y k) = false := by simp; omega
      have d2 : decide (lenI y k ≤ i) = false := by simp; omega
      have r : Hid (cum y k + i - cum y k + 1 = i + 1) := Lib.hid (by omega)
      by_cases k12 : k < 12
      · go_wp2_with fail
        refine (length_any _ _ _ t.out).mono ?_; rintro e w' ⟨rfl, rfl⟩
        go_wp2_with fail
        go_ret2
        exact ⟨ret_ii rfl r.out, rfl⟩
      · go_wp2_with fail
        go_ret2
        exact ⟨ret_ii rfl r.out, rfl⟩
theorem date_no (n : Int) (w : World) (h : n < ny (-2147483648) ∨ ny 2147483648 ≤ n) :
    Calls Tryd.prog 21 #[.int .i64 n] w fun e w' => e = .returned (.tuple #[.int .i64 0, .int .i64 0, .int .i64 0, .int .i64 2]) ∧ Dr w w' := by
  have N1 := fun w => newYear_any (-2147483648) w (by omega) (by omega)
  have N2 := fun w => newYear_any 2147483648 w (by omega) (by omega)
  generalize ny (-2147483648) = A at *
  generalize ny 2147483648 = B at *
  by_cases c : n < A
  · go_enter Tryd.func21, Tryd.ntmps21
    go_wp2_with fail
    refine (N1 _).mono ?_; rintro e w' ⟨rfl, n1, rfl⟩
    go_wp2_with fail
    (try simp only [Exit.inBlock, Exit.then]); refine bodyPost_ret (results_tmp4 rfl _ _ _) rfl ?_
    exact ⟨rfl, Dr.drewN _ _⟩
  · have d : B ≤ n := by omega
    clear h
    go_enter Tryd.func21, Tryd.ntmps21
    go_wp2_with fail
    refine (N1 _).mono ?_; rintro e w' ⟨rfl, n1, rfl⟩
    go_wp2_with fail
    refine (N2 _).mono ?_; rintro e w' ⟨rfl, n2, rfl⟩
    go_wp2_with fail
    (try simp only [Exit.inBlock, Exit.then]); refine bodyPost_ret (results_tmp4 rfl _ _ _) rfl ?_
    exact ⟨rfl, Dr.drewN _ _⟩
set_option maxHeartbeats 400000 in
theorem date_yes (n y m d : Int) (w : World) (T : Tab w) (h : rdB y m d = true) (hn : dayI y m d = n) :
    Calls Tryd.prog 21 #[.int .i64 n] w fun e w' => e = .returned (.tuple #[.int .i64 y, .int .i64 m, .int .i64 d, .int .i64 0]) ∧ Dr w w' := by
  have N1 := fun w => newYear_any (-2147483648) w (by omega) (by omega)
  have N2 := fun w => newYear_any 2147483648 w (by omega) (by omega)
  obtain ⟨r1, r2⟩ := day_range h
  obtain ⟨y1, y2⟩ := day_year h
  obtain ⟨q1, q2⟩ := date_bd
  rw [hn] at r1 r2 y1 y2
  obtain ⟨yy1, yy2, d1, d2⟩ := rd_true.1 h
  obtain ⟨m1, m2⟩ := right_month h
  obtain ⟨nb1, nb2⟩ := ny_bd y (by omega) (by omega)
  have YO := fun w => yearOf_any n y w (by omega) (by omega) y1 y2
  have NY := fun w => newYear_any y w (by omega) (by omega)
  have MD : ∀ w, Tab w → _ := fun w T => monthAndDay_any y m (d - 1) w T m1 m2 (by omega) (by omega)
  have e1 : cum y m + (d - 1) = n - ny y := by unfold dayI ydI at hn; omega
  rw [e1] at MD
  have t := Lib.hid T
  clear T h hn y1 y2 d1 d2 e1
  generalize ny (-2147483648) = A at *
  generalize ny 2147483648 = B at *
  go_enter Tryd.func21, Tryd.ntmps21
  go_wp2_with fail
  refine (N1 _).mono ?_; rintro e w' ⟨rfl, n1, rfl⟩
  go_wp2_with fail
  refine (N2 _).mono ?_; rintro e w' ⟨rfl, n2, rfl⟩
  go_wp2_with fail
  refine (YO _).mono ?_; rintro e w' ⟨rfl, n3, rfl⟩
  go_wp2_with fail
  refine (NY _).mono ?_; rintro e w' ⟨rfl, n4, rfl⟩
  go_wp2_with fail
  refine (MD _ (t.out.drewN _)).mono ?_; rintro e w' ⟨rfl, rfl⟩
  go_wp2_with fail
  (try simp only [Exit.inBlock, Exit.then]); refine bodyPost_ret (results_tmp4 rfl _ _ _) rfl ?_
  exact ⟨rfl, Dr.drewN _ _⟩
end Go.Proofs.YtbneokgeochinaaDoor
