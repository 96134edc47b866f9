/-
  What the document's own Days, Date and Weekday do (longcaseref02), in the same plain words.
-/
import Derived.Test.YtbneokgeochinaaDoorLcCivR
namespace Go.Proofs.YtbneokgeochinaaDoor
open Go.ChangeShapes Go.WideShapes Go.ChangeAt Go.RowKit Lc

theorem ny_q (y : Int) : ny y = y / 400 * 146097 + ny (y % 400) := by
  have := ny_400 (y / 400) (y % 400)
  rw [show 400 * (y / 400) + y % 400 = y by omega] at this
  omega
theorem ny_up {k : Int} (h : 0 ≤ k) (g : k ≤ 400) : -719528 ≤ ny k ∧ ny k ≤ -573431 := by
  have h1 := ny_le h; have h2 := ny_le g
  rw [ny_0] at h1
  have : ny 400 = -573431 := by decide
  omega
set_option maxHeartbeats 800000 in
theorem refDays_yes (y m d : Int) (w : World) (h : rdB y m d = true) : Calls Tryd.prog 29 #[.int .i64 y, .int .i64 m, .int .i64 d] w fun e w' => e = .returned (.int .i64 (dayI y m d)) ∧ w = w' := by
  have H := Lib.hid h
  obtain ⟨y1, y2, _⟩ := rd_true.1 h
  obtain ⟨b3, b4⟩ := yd_bd h
  have b5 := (lp_01 y).2
  have b6 : ydI y m d ≤ 366 := by omega
  have E := Lib.hid (show dayI y m d = y / 400 * 146097 + ny (y % 400) + ydI y m d by unfold dayI; rw [ny_q])
  have DV := fun w => refDiv_yes y 400 w (by decide) (fit_small (by omega) (by omega)) (by decide)
  have q1 : -6000000 ≤ y / 400 := by omega
  have q2 : y / 400 ≤ 6000000 := by omega
  have r1 : 0 ≤ y % 400 := by omega
  have r2 : y % 400 < 400 := by omega
  clear h b4 b5
  go_enter Tryd.func29, Tryd.ntmps29
  go_wp2_with fail
  refine (DV _).mono ?_; rintro e w' ⟨rfl, rfl⟩
  clear DV
  generalize y / 400 = q at *
  generalize y % 400 = r at *
  go_wp2_with fail
  go_loop [10, 11] (fun b i => ∃ k : Int, 0 ≤ k ∧ k ≤ r ∧ i = .int .i64 k ∧ b = .int .i64 (q * 146097 + ny k)) (fun _ i => (400 - intOf i).toNat)
  case atStart => exact ⟨0, by omega, by omega, rfl, by rw [ny_0]; rfl⟩
  case round =>
    obtain ⟨k, k1, k2, rfl, rfl⟩ := hrel
    obtain ⟨u1, u2⟩ := ny_up k1 (by omega)
    by_cases c : k < r
    · have ns := Lib.hid (ny_succ k)
      cases l : leapB k
      · have L := Lib.hid l; have P := Lib.hid (lp_false l); clear l
        go_wp2_with fail
        refine (refLeap_any _ _).mono ?_; rintro e w' ⟨rfl, rfl⟩
        rw [L.out]
        go_wp2
        go_round
        case rel => exact ⟨k + 1, by omega, by omega, rfl, by rw [ns.out, P.out]; go_num⟩
        case measure => simp [intOf]; omega
      · have L := Lib.hid l; have P := Lib.hid (lp_true l); clear l
        go_wp2_with fail
        refine (refLeap_any _ _).mono ?_; rintro e w' ⟨rfl, rfl⟩
        rw [L.out]
        go_wp2
        go_round
        case rel => exact ⟨k + 1, by omega, by omega, rfl, by rw [ns.out, P.out]; go_num⟩
        case measure => simp [intOf]; omega
    · obtain rfl : k = r := by omega
      go_wp2_with fail
      refine (refYearday_yes _ _ _ _ H.out).mono ?_; rintro e w' ⟨rfl, rfl⟩
      go_wp2
      go_ret
      exact ⟨ret_i E.out.symm, rfl⟩
theorem cyc (n y : Int) (h1 : ny y ≤ n) (h2 : n < ny (y + 1)) : ∃ Y, y = (n + 719528) / 146097 * 400 + Y ∧ 0 ≤ Y ∧ Y ≤ 399 ∧ ny Y + 719528 ≤ (n + 719528) % 146097 ∧ (n + 719528) % 146097 < ny (Y + 1) + 719528 ∧ n - ny y = (n + 719528) % 146097 - (ny Y + 719528) := by
  refine ⟨y - (n + 719528) / 146097 * 400, by omega, ?_⟩
  generalize hq : (n + 719528) / 146097 = q
  generalize hr : (n + 719528) % 146097 = r
  have e : n + 719528 = 146097 * q + r := by omega
  have r1 : 0 ≤ r := by omega
  have r2 : r < 146097 := by omega
  have e1 := ny_400 q (y - q * 400)
  rw [show 400 * q + (y - q * 400) = y by omega] at e1
  have e2 := ny_400 q (y - q * 400 + 1)
  rw [show 400 * q + (y - q * 400 + 1) = y + 1 by omega] at e2
  have z0 := ny_0
  have z4 : ny 400 = -573431 := by decide
  have c1 : 0 ≤ y - q * 400 := by
    by_cases c : 0 ≤ y - q * 400
    · exact c
    · have := ny_le (show y - q * 400 + 1 ≤ 0 by omega); omega
  have c2 : y - q * 400 ≤ 399 := by
    by_cases c : y - q * 400 ≤ 399
    · exact c
    · have := ny_le (show 400 ≤ y - q * 400 by omega); omega
  omega
def nz (y : Int) : Int := ny y + 719528
theorem nz_0 : nz 0 = 0 := by decide
theorem nz_succ (y : Int) : nz (y + 1) = nz y + 365 + lp y := by unfold nz; have := ny_succ y; omega
theorem nz_le {a b : Int} (h : a ≤ b) : nz a ≤ nz b := by unfold nz; have := ny_le h; omega
theorem refDate_far (n : Int) (w : World) (h : n < -800000000000 ∨ 800000000000 < n) :
    Calls Tryd.prog 39 #[.int .i64 n] w fun e w' => e = .returned (.tuple #[.int .i64 0, .int .i64 0, .int .i64 0, .bool false]) ∧ w = w' := by
  rcases h with h | h
  · go_enter Tryd.func39, Tryd.ntmps39
    go_wp2
    (try simp only [Exit.inBlock, Exit.then]); refine bodyPost_ret (results_tmp4 rfl _ _ _) rfl ?_
    exact ⟨rfl, rfl⟩
  · have h' : ¬ n < -800000000000 := by omega
    go_enter Tryd.func39, Tryd.ntmps39
    go_wp2
    (try simp only [Exit.inBlock, Exit.then]); refine bodyPost_ret (results_tmp4 rfl _ _ _) rfl ?_
    exact ⟨rfl, rfl⟩
set_option maxHeartbeats 2000000 in
set_option maxRecDepth 100000 in
theorem refDate_out (n y : Int) (w : World) (b1 : -800000000000 ≤ n) (b2 : n ≤ 800000000000) (h1 : ny y ≤ n) (h2 : n < ny (y + 1)) (h : y < -2147483648 ∨ 2147483647 < y) :
    Calls Tryd.prog 39 #[.int .i64 n] w fun e w' => e = .returned (.tuple #[.int .i64 0, .int .i64 0, .int .i64 0, .bool false]) ∧ w = w' := by
  obtain ⟨Y, hy, Y1, Y2, k1, k2, _⟩ := cyc n y h1 h2
  have k1 : nz Y ≤ (n + 719528) % 146097 := k1
  have k2 : (n + 719528) % 146097 < nz (Y + 1) := k2
  subst hy
  have DV := fun w => refDiv_yes (n + 719528) 146097 w (by decide) (fit_small (by omega) (by omega)) (by decide)
  have q1 : -6000000 ≤ (n + 719528) / 146097 := by omega
  have q2 : (n + 719528) / 146097 ≤ 6000000 := by omega
  have r1 : 0 ≤ (n + 719528) % 146097 := by omega
  have r2 : (n + 719528) % 146097 < 146097 := by omega
  clear h1 h2
  go_enter Tryd.func39, Tryd.ntmps39
  go_wp2_with fail
  refine (DV _).mono ?_; rintro e w' ⟨rfl, rfl⟩
  clear DV
  generalize (n + 719528) / 146097 = q at *
  generalize (n + 719528) % 146097 = r at *
  go_wp2_with fail
  go_loop [9, 10] (fun j b => ∃ k : Int, 0 ≤ k ∧ k ≤ Y ∧ j = .int .i64 k ∧ b = .int .i64 (r - nz k)) (fun j _ => (400 - intOf j).toNat)
  case atStart => exact ⟨0, by omega, by omega, rfl, by rw [nz_0]; simp⟩
  case round =>
    obtain ⟨k, g1, g2, rfl, rfl⟩ := hrel
    have u1 := nz_le g1
    have u2 := nz_le g2
    rw [nz_0] at u1
    have ns := Lib.hid (nz_succ k)
    cases l : leapB k
    · have L := Lib.hid l; have P := Lib.hid (lp_false l); clear l
      by_cases c : k < Y
      · have u3 := nz_le (show k + 1 ≤ Y by omega)
        rw [ns.out, P.out] at u3
        have d : decide (r - nz k < 365) = false := by simp; omega
        go_wp2_with fail
        refine (refLeap_any _ _).mono ?_; rintro e w' ⟨rfl, rfl⟩
        rw [L.out]
        go_wp2_with fail
        go_round
        case rel => exact ⟨k + 1, by omega, by omega, rfl, by rw [ns.out, P.out]; go_num⟩
        case measure => simp [intOf]; omega
      · obtain rfl : k = Y := by omega
        rw [ns.out, P.out] at k2
        have d : decide (r - nz k < 365) = true := by simp; omega
        clear c
        go_wp2_with fail
        refine (refLeap_any _ _).mono ?_; rintro e w' ⟨rfl, rfl⟩
        rw [L.out]
        rcases h with h | h
        · go_wp2_with fail
          (try simp only [Exit.inBlock, Exit.then]); refine bodyPost_ret (results_tmp4 rfl _ _ _) rfl ?_
          exact ⟨rfl, rfl⟩
        · have h' : ¬ (q * 400 + k < -2147483648) := by omega
          go_wp2_with fail
          (try simp only [Exit.inBlock, Exit.then]); refine bodyPost_ret (results_tmp4 rfl _ _ _) rfl ?_
          exact ⟨rfl, rfl⟩
    · have L := Lib.hid l; have P := Lib.hid (lp_true l); clear l
      by_cases c : k < Y
      · have u3 := nz_le (show k + 1 ≤ Y by omega)
        rw [ns.out, P.out] at u3
        have d : decide (r - nz k < 366) = false := by simp; omega
        go_wp2_with fail
        refine (refLeap_any _ _).mono ?_; rintro e w' ⟨rfl, rfl⟩
        rw [L.out]
        go_wp2_with fail
        go_round
        case rel => exact ⟨k + 1, by omega, by omega, rfl, by rw [ns.out, P.out]; go_num⟩
        case measure => simp [intOf]; omega
      · obtain rfl : k = Y := by omega
        rw [ns.out, P.out] at k2
        have d : decide (r - nz k < 366) = true := by simp; omega
        clear c
        go_wp2_with fail
        refine (refLeap_any _ _).mono ?_; rintro e w' ⟨rfl, rfl⟩
        rw [L.out]
        rcases h with h | h
        · go_wp2_with fail
          (try simp only [Exit.inBlock, Exit.then]); refine bodyPost_ret (results_tmp4 rfl _ _ _) rfl ?_
          exact ⟨rfl, rfl⟩
        · have h' : ¬ (q * 400 + k < -2147483648) := by omega
          go_wp2_with fail
          (try simp only [Exit.inBlock, Exit.then]); refine bodyPost_ret (results_tmp4 rfl _ _ _) rfl ?_
          exact ⟨rfl, rfl⟩
theorem ret_iiib {a b c a' b' c' : Int} {d d' : Bool} (h1 : a = a') (h2 : b = b') (h3 : c = c') (h4 : d = d') : Ending.returned (.tuple #[.int .i64 a, .int .i64 b, .int .i64 c, .bool d]) = .returned (.tuple #[.int .i64 a', .int .i64 b', .int .i64 c', .bool d']) := by rw [h1, h2, h3, h4]
set_option maxHeartbeats 4000000 in
set_option maxRecDepth 100000 in
theorem refDate_in (n y m i : Int) (w : World) (b1 : -800000000000 ≤ n) (b2 : n ≤ 800000000000) (h1 : ny y ≤ n) (h2 : n < ny (y + 1)) (y1 : -2147483648 ≤ y) (y2 : y ≤ 2147483647)
    (m1 : 1 ≤ m) (m2 : m ≤ 12) (i1 : 0 ≤ i) (i2 : i < lenI y m) (hn : n - ny y = cum y m + i) :
    Calls Tryd.prog 39 #[.int .i64 n] w fun e w' => e = .returned (.tuple #[.int .i64 y, .int .i64 m, .int .i64 (i + 1), .bool true]) ∧ w = w' := by
  obtain ⟨Y, hy, Y1, Y2, k1, k2, hr⟩ := cyc n y h1 h2
  have k1 : nz Y ≤ (n + 719528) % 146097 := k1
  have k2 : (n + 719528) % 146097 < nz (Y + 1) := k2
  subst hy
  have X0 : Hid ((n + 719528) % 146097 - nz Y = cum ((n + 719528) / 146097 * 400 + Y) m + i) := Lib.hid (by rw [← hn, hr]; rfl)
  have DV := fun w => refDiv_yes (n + 719528) 146097 w (by decide) (fit_small (by omega) (by omega)) (by decide)
  have q1 : -6000000 ≤ (n + 719528) / 146097 := by omega
  have q2 : (n + 719528) / 146097 ≤ 6000000 := by omega
  have r1 : 0 ≤ (n + 719528) % 146097 := by omega
  have r2 : (n + 719528) % 146097 < 146097 := by omega
  clear h1 h2 hn hr
  go_enter Tryd.func39, Tryd.ntmps39
  go_wp2_with fail
  refine (DV _).mono ?_; rintro e w' ⟨rfl, rfl⟩
  clear DV
  generalize hq : (n + 719528) / 146097 = q at *
  have HQ := Lib.hid hq; clear hq
  generalize (n + 719528) % 146097 = r at *
  go_wp2_with fail
  go_loop [9, 10] (fun j b => ∃ k : Int, 0 ≤ k ∧ k ≤ Y ∧ j = .int .i64 k ∧ b = .int .i64 (r - nz k)) (fun j _ => (400 - intOf j).toNat)
  case atStart => exact ⟨0, by omega, by omega, rfl, by rw [nz_0]; simp⟩
  case round =>
    obtain ⟨k, g1, g2, rfl, rfl⟩ := hrel
    have u1 := nz_le g1
    have u2 := nz_le g2
    rw [nz_0] at u1
    have ns := Lib.hid (nz_succ k)
    cases l : leapB k
    · have L := Lib.hid l; have P := Lib.hid (lp_false l); clear l
      by_cases c : k < Y
      · have u3 := nz_le (show k + 1 ≤ Y by omega)
        rw [ns.out, P.out] at u3
        have d : decide (r - nz k < 365) = false := by simp; omega
        go_wp2_with fail
        refine (refLeap_any _ _).mono ?_; rintro e w' ⟨rfl, rfl⟩
        rw [L.out]
        go_wp2_with fail
        go_round
        case rel => exact ⟨k + 1, by omega, by omega, rfl, by rw [ns.out, P.out]; go_num⟩
        case measure => simp [intOf]; omega
      · obtain rfl : k = Y := by omega
        rw [ns.out, P.out] at k2
        have dd : decide (r - nz k < 365) = true := by simp; omega
        clear c
        go_wp2_with fail
        refine (refLeap_any _ _).mono ?_; rintro e w' ⟨rfl, rfl⟩
        rw [L.out]
        go_wp2_with fail
        clear dd u1 u2
        go_loop [10, 14] (fun b j => ∃ a : Int, 1 ≤ a ∧ a ≤ m ∧ j = .int .i64 a ∧ b = .int .i64 (r - nz k - cum (q * 400 + k) a)) (fun _ j => (13 - intOf j).toNat)
        case atStart => exact ⟨1, by omega, by omega, rfl, by rw [cum_1]; simp⟩
        case round =>
          obtain ⟨a, a1, a2, rfl, rfl⟩ := hrel
          obtain ⟨ca1, ca2⟩ := cum_bd (q * 400 + k) a1 (by omega)
          obtain ⟨la1, la2⟩ := len_bd (q * 400 + k) a
          have cs := Lib.hid (cum_succ (q * 400 + k) a1 (by omega))
          by_cases c : a < m
          · have cm := cum_mono (q * 400 + k) a1 c (by omega)
            have X := X0.out
            have x : decide (lenI (q * 400 + k) a ≤ r - nz k - cum (q * 400 + k) a) = true := by simp; omega
            clear X
            go_wp2_with fail
            refine (refLength_any _ _ _).mono ?_; rintro e w' ⟨rfl, rfl⟩
            go_wp2_with fail
            refine (refLength_any _ _ _).mono ?_; rintro e w' ⟨rfl, rfl⟩
            go_wp2_with fail
            go_round
            case rel => exact ⟨a + 1, by omega, by omega, rfl, by rw [cs.out]; go_num⟩
            case measure => simp [intOf]; omega
          · obtain rfl : a = m := by omega
            have X := X0.out
            have x : decide (lenI (q * 400 + k) a ≤ r - nz k - cum (q * 400 + k) a) = false := by simp; omega
            have xx : Hid (r - nz k - cum (q * 400 + k) a + 1 = i + 1) := Lib.hid (by omega)
            clear X
            go_wp2_with fail
            refine (refLength_any _ _ _).mono ?_; rintro e w' ⟨rfl, rfl⟩
            go_wp2_with fail
            (try simp only [Exit.inBlock, Exit.then]); refine bodyPost_ret (results_tmp4 rfl _ _ _) rfl ?_
            exact ⟨ret_iiib (by rw [HQ.out]) rfl xx.out rfl, rfl⟩
    · have L := Lib.hid l; have P := Lib.hid (lp_true l); clear l
      by_cases c : k < Y
      · have u3 := nz_le (show k + 1 ≤ Y by omega)
        rw [ns.out, P.out] at u3
        have d : decide (r - nz k < 366) = false := by simp; omega
        go_wp2_with fail
        refine (refLeap_any _ _).mono ?_; rintro e w' ⟨rfl, rfl⟩
        rw [L.out]
        go_wp2_with fail
        go_round
        case rel => exact ⟨k + 1, by omega, by omega, rfl, by rw [ns.out, P.out]; go_num⟩
        case measure => simp [intOf]; omega
      · obtain rfl : k = Y := by omega
        rw [ns.out, P.out] at k2
        have dd : decide (r - nz k < 366) = true := by simp; omega
        clear c
        go_wp2_with fail
        refine (refLeap_any _ _).mono ?_; rintro e w' ⟨rfl, rfl⟩
        rw [L.out]
        go_wp2_with fail
        clear dd u1 u2
        go_loop [10, 14] (fun b j => ∃ a : Int, 1 ≤ a ∧ a ≤ m ∧ j = .int .i64 a ∧ b = .int .i64 (r - nz k - cum (q * 400 + k) a)) (fun _ j => (13 - intOf j).toNat)
        case atStart => exact ⟨1, by omega, by omega, rfl, by rw [cum_1]; simp⟩
        case round =>
          obtain ⟨a, a1, a2, rfl, rfl⟩ := hrel
          obtain ⟨ca1, ca2⟩ := cum_bd (q * 400 + k) a1 (by omega)
          obtain ⟨la1, la2⟩ := len_bd (q * 400 + k) a
          have cs := Lib.hid (cum_succ (q * 400 + k) a1 (by omega))
          by_cases c : a < m
          · have cm := cum_mono (q * 400 + k) a1 c (by omega)
            have X := X0.out
            have x : decide (lenI (q * 400 + k) a ≤ r - nz k - cum (q * 400 + k) a) = true := by simp; omega
            clear X
            go_wp2_with fail
            refine (refLength_any _ _ _).mono ?_; rintro e w' ⟨rfl, rfl⟩
            go_wp2_with fail
            refine (refLength_any _ _ _).mono ?_; rintro e w' ⟨rfl, rfl⟩
            go_wp2_with fail
            go_round
            case rel => exact ⟨a + 1, by omega, by omega, rfl, by rw [cs.out]; go_num⟩
            case measure => simp [intOf]; omega
          · obtain rfl : a = m := by omega
            have X := X0.out
            have x : decide (lenI (q * 400 + k) a ≤ r - nz k - cum (q * 400 + k) a) = false := by simp; omega
            have xx : Hid (r - nz k - cum (q * 400 + k) a + 1 = i + 1) := Lib.hid (by omega)
            clear X
            go_wp2_with fail
            refine (refLength_any _ _ _).mono ?_; rintro e w' ⟨rfl, rfl⟩
            go_wp2_with fail
            (try simp only [Exit.inBlock, Exit.then]); refine bodyPost_ret (results_tmp4 rfl _ _ _) rfl ?_
            exact ⟨ret_iiib (by rw [HQ.out]) rfl xx.out rfl, rfl⟩
theorem refDate_yes (n y m d : Int) (w : World) (h : rdB y m d = true) (hn : dayI y m d = n) :
    Calls Tryd.prog 39 #[.int .i64 n] w fun e w' => e = .returned (.tuple #[.int .i64 y, .int .i64 m, .int .i64 d, .bool true]) ∧ w = w' := by
  obtain ⟨r1, r2⟩ := day_range h
  obtain ⟨y1, y2⟩ := day_year h
  obtain ⟨q1, q2⟩ := date_bd
  rw [hn] at r1 r2 y1 y2
  obtain ⟨yy1, yy2, d1, d2⟩ := rd_true.1 h
  obtain ⟨m1, m2⟩ := right_month h
  have := refDate_in n y m (d - 1) w (by omega) (by omega) y1 y2 yy1 yy2 m1 m2 (by omega) (by omega) (by unfold dayI ydI at hn; omega)
  rw [show d - 1 + 1 = d by omega] at this
  exact this
theorem refDate_no (n : Int) (w : World) (h : n < ny (-2147483648) ∨ ny 2147483648 ≤ n) :
    Calls Tryd.prog 39 #[.int .i64 n] w fun e w' => e = .returned (.tuple #[.int .i64 0, .int .i64 0, .int .i64 0, .bool false]) ∧ w = w' := by
  by_cases c : n < -800000000000 ∨ 800000000000 < n
  · exact refDate_far n w c
  · obtain ⟨y, y1, y2⟩ := year_ex n
    exact refDate_out n y w (by omega) (by omega) y1 y2 (year_out y1 y2 h)
end Go.Proofs.YtbneokgeochinaaDoor
