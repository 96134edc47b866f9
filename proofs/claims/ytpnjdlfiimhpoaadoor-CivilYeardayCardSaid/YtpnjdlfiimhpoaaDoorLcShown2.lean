/-
  That what must be in any case of dates is: the law's own opening look answers true.
-/
import Derived.Test.YtpnjdlfiimhpoaaDoorLcCivT
namespace Go.Proofs.YtpnjdlfiimhpoaaDoor
open Go.ChangeShapes Go.WideShapes Go.ChangeAt Go.RowKit Lc

theorem far_no : (1125899906842624 : Int) < ny (-2147483648) ∨ ny 2147483648 ≤ 1125899906842624 := by rw [ny_first, ny_last]; omega

set_option maxHeartbeats 2000000 in
set_option maxRecDepth 100000 in
theorem shown_any (w : World) (T : Tab w) : Calls Tryd.prog 11 #[] w fun e w' => e = .returned (.bool true) ∧ Dr w w' := by
  have t := Lib.hid T; clear T
  have c1 : ∀ w, Tab w → _ := fun w T => days_yes 2000 3 1 w T (by decide)
  have c2 : ∀ w, Tab w → _ := fun w T => date_yes (-1) 1969 12 31 w T (by decide) (by decide)
  have c3 : ∀ w, Tab w → _ := fun w T => days_no 1900 2 29 w T (by decide)
  have c4 := fun w => date_no 1125899906842624 w far_no
  have c5 : ∀ w, Tab w → _ := fun w T => yearday_yes 2024 12 31 w T (by decide)
  have c6 := fun w => weekday_any (-1) w (by decide)
  have c7 := fun w => leap_any 2000 w
  have c8 := fun w => leap_any 1900 w
  have c9 : ∀ w, Tab w → _ := fun w T => length_any 2023 2 w T
  have c10 : ∀ w, Tab w → _ := fun w T => right_any (-4) 2 29 w T
  rw [show dayI 2000 3 1 = 11017 by decide] at c1
  rw [show ydI 2024 12 31 = 365 by decide] at c5
  rw [show wdI (-1) = 3 by decide] at c6
  rw [show leapB 2000 = true by decide] at c7
  rw [show leapB 1900 = false by decide] at c8
  rw [show lenI 2023 2 = 28 by decide] at c9
  rw [show rightB (-4) 2 29 = true by decide] at c10
  go_enter Tryd.func11, Tryd.ntmps11
  go_wp2_with fail
  refine (c1 _ t.out).mono ?_; rintro e w' ⟨rfl, n1, rfl⟩
  go_wp2_with fail
  refine (c2 _ (t.out.drewN _)).mono ?_; rintro e w' ⟨rfl, n2, rfl⟩
  go_wp2_with fail
  refine (c3 _ (t.out.drewN _)).mono ?_; rintro e w' ⟨rfl, rfl⟩
  go_wp2_with fail
  refine (c4 _).mono ?_; rintro e w' ⟨rfl, n3, rfl⟩
  go_wp2_with fail
  refine (c5 _ (t.out.drewN _)).mono ?_; rintro e w' ⟨rfl, rfl⟩
  go_wp2_with fail
  refine (c6 _).mono ?_; rintro e w' ⟨rfl, n4, rfl⟩
  go_wp2_with fail
  refine (c7 _).mono ?_; rintro e w' ⟨rfl, rfl⟩
  go_wp2_with fail
  refine (c8 _).mono ?_; rintro e w' ⟨rfl, rfl⟩
  go_wp2_with fail
  refine (c9 _ (t.out.drewN _)).mono ?_; rintro e w' ⟨rfl, rfl⟩
  go_wp2_with fail
  refine (c10 _ (t.out.drewN _)).mono ?_; rintro e w' ⟨rfl, rfl⟩
  go_wp2_with fail
  go_ret
  exact ⟨rfl, Dr.drewN _ _⟩
end Go.Proofs.YtpnjdlfiimhpoaaDoor
