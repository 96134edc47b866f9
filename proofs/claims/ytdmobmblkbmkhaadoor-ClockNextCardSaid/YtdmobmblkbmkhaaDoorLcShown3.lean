/-
  That what must be in any case of civil times is: the law's own opening look answers true.
-/
import Derived.Test.YtdmobmblkbmkhaaDoorLcClkT
import Derived.Test.YtdmobmblkbmkhaaDoorLcClkO
import Derived.Test.YtdmobmblkbmkhaaDoorLcCmp
namespace Go.Proofs.YtdmobmblkbmkhaaDoor
open Go.ChangeShapes Go.WideShapes Go.ChangeAt Go.RowKit Lc

theorem dec_1969 : Lib.decDigits 1969 = [49, 57, 54, 57] := by
  rw [dec_big (by decide), dec_big (by decide), dec_big (by decide), Lib.decDigits_one (by decide)]; rfl
theorem dg_2 {n : Nat} (x : Int) (e : (n : Int) = x) (h1 : ¬ n < 10) (h2 : n < 100) : dgB x 2 = ⟨#[UInt8.ofNat (48 + n / 10), UInt8.ofNat (48 + n % 10)]⟩ := by
  subst e
  rw [dgB_pos (by omega), show ((n : Nat) : Int).toNat = n from rfl]
  unfold dgU dig
  rw [Lib.decDigits_two h1 h2]; rfl
theorem text_shown : textB 1969 12 31 23 59 59 = ⟨#[49, 57, 54, 57, 45, 49, 50, 45, 51, 49, 32, 50, 51, 58, 53, 57, 58, 53, 57]⟩ := by
  have e : dgB 1969 4 = ⟨#[49, 57, 54, 57]⟩ := by
    rw [dgB_pos (by omega), show (1969 : Int).toNat = 1969 from rfl]
    unfold dgU dig
    rw [dec_1969]; rfl
  unfold textB
  rw [e, dg_2 (n := 12) 12 rfl (by decide) (by decide), dg_2 (n := 31) 31 rfl (by decide) (by decide), dg_2 (n := 23) 23 rfl (by decide) (by decide), dg_2 (n := 59) 59 rfl (by decide) (by decide)]
  rfl
theorem far_shown : farB 4611686018427387904 = true := by
  have : ny 2147483648 ≤ 4611686018427387904 / 86400 := by rw [ny_last]; omega
  exact decide_eq_true (.inr this)

set_option maxHeartbeats 2000000 in
set_option maxRecDepth 100000 in
theorem shown_any (w : World) (T : Tabs w) : Calls Tryd.prog 10 #[] w fun e w' => e = .returned (.bool true) ∧ Up w w' := by
  have t := Lib.hid T; clear T
  have C1 : ∀ w, Tabs w → _ := fun w T => of_yes (-1) 1969 12 31 23 59 59 w T (by decide) (by decide)
  have C2 : ∀ w, Tabs w → _ := fun w T => seconds_yes 1970 1 2 1 0 0 w T (by decide)
  rw [show secI 1970 1 2 1 0 0 = 90000 by decide] at C2
  have C3 : ∀ w, Tabs w → _ := fun w T => seconds_no 0 0 0 0 0 0 w T (by decide)
  have C4 := fun w => of_no 4611686018427387904 w (by decide) far_shown
  have C5 : ∀ w, Tabs w → _ := fun w T => text_yes 1969 12 31 23 59 59 w T (by decide)
  rw [text_shown] at C5
  have C6 : ∀ w, Tabs w → _ := fun w T => clockRight_any 1969 12 31 23 59 59 w T
  rw [show rightC 1969 12 31 23 59 59 = true by decide] at C6
  have C7 := fun w => compare_any 1969 12 31 23 59 59 1970 0 0 0 0 0 w
  rw [show compC 1969 12 31 23 59 59 1970 0 0 0 0 0 = -1 by decide] at C7
  have C8 : ∀ w, Tabs w → _ := fun w T => text_no 0 0 0 0 0 0 w T (by decide)
  go_enter Tryd.func10, Tryd.ntmps10
  go_wp2_with fail
  refine (C1 _ t.out).mono ?_; rintro e w1 ⟨rfl, u1⟩
  replace u1 := Lib.hid u1
  go_wp2_with fail
  refine (C2 _ (t.out.up (u1.out.alloc' _))).mono ?_; rintro e w2 ⟨rfl, u2⟩
  have b := Lib.hid ((Box.new w1 1969 12 31 23 59 59 23).up u2)
  replace u2 := Lib.hid ((u1.out.alloc' _).trans u2)
  go_wp2_with fail
  refine (C3 _ (t.out.up u2.out)).mono ?_; rintro e w3 ⟨rfl, u3⟩
  replace b := Lib.hid (b.out.up u3)
  replace u3 := Lib.hid (u2.out.trans u3)
  go_wp2_with fail
  refine (C4 _).mono ?_; rintro e w4 ⟨rfl, u4⟩
  replace b := Lib.hid (b.out.up u4)
  replace u4 := Lib.hid (u3.out.trans u4)
  obtain ⟨c0, c1, c2, c3, c4, c5⟩ := b.out
  have lt := cell_lt c0
  go_wp2_with fail
  clear c0 c1 c2 c3 c4 c5 lt
  refine (C5 _ (t.out.up (u4.out.alloc' _))).mono ?_; rintro e w5 ⟨rfl, u5⟩
  replace b := Lib.hid (b.out.up ((Up.alloc _ _).trans u5))
  replace u5 := Lib.hid ((u4.out.alloc' _).trans u5)
  obtain ⟨c0, c1, c2, c3, c4, c5⟩ := b.out
  go_wp2_with fail
  clear c0 c1 c2 c3 c4 c5
  refine (C6 _ (t.out.up u5.out)).mono ?_; rintro e w6 ⟨rfl, u6⟩
  replace b := Lib.hid (b.out.up u6)
  replace u6 := Lib.hid (u5.out.trans u6)
  obtain ⟨c0, c1, c2, c3, c4, c5⟩ := b.out
  go_wp2_with fail
  clear c0 c1 c2 c3 c4 c5
  refine (C7 _).mono ?_; rintro e w7 ⟨rfl, u7⟩
  replace u7 := Lib.hid (u6.out.trans u7)
  go_wp2_with fail
  refine (C8 _ (t.out.up u7.out)).mono ?_; rintro e w8 ⟨rfl, u8⟩
  replace u8 := Lib.hid (u7.out.trans u8)
  go_wp2_with fail
  go_ret
  exact ⟨rfl, u8.out⟩
end Go.Proofs.YtdmobmblkbmkhaaDoor
