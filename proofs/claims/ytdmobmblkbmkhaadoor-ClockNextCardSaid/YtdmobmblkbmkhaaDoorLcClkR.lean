/-
  What Right and Seconds of package clock do, in plain words.
-/
import Derived.Test.YtdmobmblkbmkhaaDoorLcTab3
import Derived.Test.YtdmobmblkbmkhaaDoorLcCivD
namespace Go.Proofs.YtdmobmblkbmkhaaDoor
open Go.ChangeShapes Go.WideShapes Go.ChangeAt Go.RowKit Lc

theorem ny_bds : -784353015833 ≤ ny (-2147483648) ∧ ny 2147483648 ≤ 784351576777 := by rw [ny_first, ny_last]; omega

theorem below_any (n b : Int) (w : World) : Calls Tryd.prog 26 #[.int .i64 n, .int .i64 b] w fun e w' => e = .returned (.bool (decide (0 ≤ n) && decide (n < b))) ∧ w = w' := by
  by_cases h : 0 ≤ n
  · go_enter Tryd.func26, Tryd.ntmps26
    go_wp2
    go_ret
    exact ⟨ret_b (by simp [h]), rfl⟩
  · have g : decide (0 ≤ n) = false := by simpa using h
    go_enter Tryd.func26, Tryd.ntmps26
    go_wp2
    go_ret
    exact ⟨ret_b (by simp), rfl⟩

set_option maxHeartbeats 400000 in
theorem clockRight_any (y m d h i s : Int) (w : World) (T : Tabs w) : Calls Tryd.prog 14 #[.agg #[.int .i64 y, .int .i64 m, .int .i64 d, .int .i64 h, .int .i64 i, .int .i64 s]] w fun e w' => e = .returned (.bool (rightC y m d h i s)) ∧ Up w w' := by
  have t := Lib.hid T.1; clear T
  have R : ∀ w, Tab w → _ := fun w T => right_any y m d w T
  have B1 := fun w => below_any h 24 w
  have B2 := fun w => below_any i 60 w
  have B3 := fun w => below_any s 60 w
  have E := Lib.hid (show rightC y m d h i s = (rightB y m d && (decide (0 ≤ h) && decide (h < 24)) && (decide (0 ≤ i) && decide (i < 60)) && (decide (0 ≤ s) && decide (s < 60))) from rfl)
  generalize rightB y m d = r at *
  generalize (decide (0 ≤ h) && decide (h < 24)) = b1 at *
  generalize (decide (0 ≤ i) && decide (i < 60)) = b2 at *
  generalize (decide (0 ≤ s) && decide (s < 60)) = b3 at *
  cases r
  · go_enter Tryd.func14, Tryd.ntmps14
    go_wp2_with fail
    refine (R _ (Tab.up t.out (Up.alloc _ _))).mono ?_; rintro e w' ⟨rfl, rfl⟩
    go_wp2_with fail
    go_ret
    exact ⟨ret_b (by rw [E.out]; rfl), Up.alloc _ _⟩
  cases b1
  · go_enter Tryd.func14, Tryd.ntmps14
    go_wp2_with fail
    refine (R _ (Tab.up t.out (Up.alloc _ _))).mono ?_; rintro e w' ⟨rfl, rfl⟩
    go_wp2_with fail
    refine (B1 _).mono ?_; rintro e w' ⟨rfl, rfl⟩
    go_wp2_with fail
    go_ret
    exact ⟨ret_b (by rw [E.out]; rfl), Up.alloc _ _⟩
  cases b2
  · go_enter Tryd.func14, Tryd.ntmps14
    go_wp2_with fail
    refine (R _ (Tab.up t.out (Up.alloc _ _))).mono ?_; rintro e w' ⟨rfl, rfl⟩
    go_wp2_with fail
    refine (B1 _).mono ?_; rintro e w' ⟨rfl, rfl⟩
    go_wp2_with fail
    refine (B2 _).mono ?_; rintro e w' ⟨rfl, rfl⟩
    go_wp2_with fail
    go_ret
    exact ⟨ret_b (by rw [E.out]; rfl), Up.alloc _ _⟩
  · go_enter Tryd.func14, Tryd.ntmps14
    go_wp2_with fail
    refine (R _ (Tab.up t.out (Up.alloc _ _))).mono ?_; rintro e w' ⟨rfl, rfl⟩
    go_wp2_with fail
    refine (B1 _).mono ?_; rintro e w' ⟨rfl, rfl⟩
    go_wp2_with fail
    refine (B2 _).mono ?_; rintro e w' ⟨rfl, rfl⟩
    go_wp2_with fail
    refine (B3 _).mono ?_; rintro e w' ⟨rfl, rfl⟩
    go_wp2_with fail
    go_ret
    exact ⟨ret_b (by rw [E.out]; simp), Up.alloc _ _⟩

theorem rightC_true {y m d h i s : Int} : rightC y m d h i s = true ↔ (rightB y m d = true ∧ 0 ≤ h ∧ h < 24 ∧ 0 ≤ i ∧ i < 60 ∧ 0 ≤ s ∧ s < 60) := by
  unfold rightC; simp only [Bool.and_eq_true, decide_eq_true_eq]; constructor
  · rintro ⟨⟨⟨a, b, c⟩, e, f⟩, g, k⟩; exact ⟨a, b, c, e, f, g, k⟩
  · rintro ⟨a, b, c, e, f, g, k⟩; exact ⟨⟨⟨a, b, c⟩, e, f⟩, g, k⟩

set_option maxHeartbeats 400000 in
theorem seconds_no (y m d h i s : Int) (w : World) (T : Tabs w) (r : rightC y m d h i s = false) : Calls Tryd.prog 12 #[.agg #[.int .i64 y, .int .i64 m, .int .i64 d, .int .i64 h, .int .i64 i, .int .i64 s]] w fun e w' => e = .returned (.tuple #[.int .i64 0, .int .i64 1]) ∧ Up w w' := by
  have t := Lib.hid T; clear T
  have R : ∀ w, Tabs w → _ := fun w T => clockRight_any y m d h i s w T
  rw [r] at R; clear r
  go_enter Tryd.func12, Tryd.ntmps12
  go_wp2_with fail
  refine (R _ (Tabs.up t.out (Up.alloc _ _))).mono ?_; rintro e w1 ⟨rfl, u1⟩
  go_wp2_with fail
  go_ret2
  exact ⟨rfl, (Up.alloc _ _).trans u1⟩

set_option maxHeartbeats 400000 in
theorem seconds_yes (y m d h i s : Int) (w : World) (T : Tabs w) (r : rightC y m d h i s = true) : Calls Tryd.prog 12 #[.agg #[.int .i64 y, .int .i64 m, .int .i64 d, .int .i64 h, .int .i64 i, .int .i64 s]] w fun e w' => e = .returned (.tuple #[.int .i64 (secI y m d h i s), .int .i64 0]) ∧ Up w w' := by
  have t := Lib.hid T; clear T
  obtain ⟨rb, h1, h2, i1, i2, s1, s2⟩ := rightC_true.1 r
  obtain ⟨q1, q2⟩ := day_range rb
  obtain ⟨q3, q4⟩ := ny_bds
  have R : ∀ w, Tabs w → _ := fun w T => clockRight_any y m d h i s w T
  have D : ∀ w, Tab w → _ := fun w T => days_yes y m d w T rb
  rw [r] at R
  have E := Lib.hid (show secI y m d h i s = dayI y m d * 86400 + (h * 3600 + i * 60 + s) from rfl)
  have b1 : -1000000000000 ≤ dayI y m d := by omega
  have b2 : dayI y m d ≤ 1000000000000 := by omega
  clear r rb q1 q2 q3 q4
  generalize dayI y m d = n at *
  go_enter Tryd.func12, Tryd.ntmps12
  go_wp2_with fail
  have x0 := Lib.hid (Box.new w y m d h i s 23)
  refine (R _ (Tabs.up t.out (Up.alloc _ _))).mono ?_; rintro e w1 ⟨rfl, u1⟩
  have t1 := Lib.hid (Tabs.up t.out ((Up.alloc _ _).trans u1))
  obtain ⟨c0, c1, c2, c3, c4, c5⟩ := Box.up x0.out u1
  go_wp2_with fail
  refine (D _ t1.out.1).mono ?_; rintro e w' ⟨rfl, n1, rfl⟩
  go_wp2_with fail
  go_ret2
  exact ⟨ret_ii (by rw [E.out]) rfl, ((Up.alloc _ _).trans u1).drewN' _⟩
end Go.Proofs.YtdmobmblkbmkhaaDoor
