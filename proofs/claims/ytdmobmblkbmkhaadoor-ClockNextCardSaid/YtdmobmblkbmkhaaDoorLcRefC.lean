/-
  What the document's own Right, Seconds, Of, Compare and Text do (longcaseref03), in the same plain words.
-/
import Derived.Test.YtdmobmblkbmkhaaDoorLcClkT
import Derived.Test.YtdmobmblkbmkhaaDoorLcClkO
import Derived.Test.YtdmobmblkbmkhaaDoorLcCmp
import Derived.Test.YtdmobmblkbmkhaaDoorLcCivS
namespace Go.Proofs.YtdmobmblkbmkhaaDoor
open Go.ChangeShapes Go.WideShapes Go.ChangeAt Go.RowKit Go.Sort Lc

theorem decf {p : Prop} [Decidable p] (h : ¬ p) : decide p = false := by simpa using h

set_option maxHeartbeats 1000000 in
theorem refRightC_any (y m d h i s : Int) (w : World) : Calls Tryd.prog 11 #[.agg #[.int .i64 y, .int .i64 m, .int .i64 d, .int .i64 h, .int .i64 i, .int .i64 s]] w fun e w' => e = .returned (.bool (rightC y m d h i s)) ∧ Up w w' := by
  have R := fun w => refRight_any y m d w
  have E := Lib.hid (show rightC y m d h i s = (rightB y m d && (decide (0 ≤ h) && decide (h < 24)) && (decide (0 ≤ i) && decide (i < 60)) && (decide (0 ≤ s) && decide (s < 60))) from rfl)
  generalize rightB y m d = r at *
  cases r
  · go_enter Tryd.func11, Tryd.ntmps11
    go_wp2_with fail
    refine (R _).mono ?_; rintro e w' ⟨rfl, rfl⟩
    go_wp2_with fail
    go_ret
    exact ⟨ret_b (by rw [E.out]; rfl), Up.alloc _ _⟩
  by_cases t0 : 0 ≤ h
  case neg =>
    have d0 := decf t0
    have D := Lib.hid d0
    clear t0
    go_enter Tryd.func11, Tryd.ntmps11
    go_wp2_with fail
    refine (R _).mono ?_; rintro e w' ⟨rfl, rfl⟩
    go_wp2_with fail
    go_ret
    exact ⟨ret_b (by rw [E.out, D.out]; simp), Up.alloc _ _⟩
  by_cases t1 : h < 24
  case neg =>
    have d1 := decf t1
    have D := Lib.hid d1
    clear t1
    go_enter Tryd.func11, Tryd.ntmps11
    go_wp2_with fail
    refine (R _).mono ?_; rintro e w' ⟨rfl, rfl⟩
    go_wp2_with fail
    go_ret
    exact ⟨ret_b (by rw [E.out, D.out]; simp), Up.alloc _ _⟩
  by_cases t2 : 0 ≤ i
  case neg =>
    have d2 := decf t2
    have D := Lib.hid d2
    clear t2
    go_enter Tryd.func11, Tryd.ntmps11
    go_wp2_with fail
    refine (R _).mono ?_; rintro e w' ⟨rfl, rfl⟩
    go_wp2_with fail
    go_ret
    exact ⟨ret_b (by rw [E.out, D.out]; simp), Up.alloc _ _⟩
  by_cases t3 : i < 60
  case neg =>
    have d3 := decf t3
    have D := Lib.hid d3
    clear t3
    go_enter Tryd.func11, Tryd.ntmps11
    go_wp2_with fail
    refine (R _).mono ?_; rintro e w' ⟨rfl, rfl⟩
    go_wp2_with fail
    go_ret
    exact ⟨ret_b (by rw [E.out, D.out]; simp), Up.alloc _ _⟩
  by_cases t4 : 0 ≤ s
  case neg =>
    have d4 := decf t4
    have D := Lib.hid d4
    clear t4
    go_enter Tryd.func11, Tryd.ntmps11
    go_wp2_with fail
    refine (R _).mono ?_; rintro e w' ⟨rfl, rfl⟩
    go_wp2_with fail
    go_ret
    exact ⟨ret_b (by rw [E.out, D.out]; simp), Up.alloc _ _⟩
  by_cases t5 : s < 60
  case neg =>
    have d5 := decf t5
    have D := Lib.hid d5
    clear t5
    go_enter Tryd.func11, Tryd.ntmps11
    go_wp2_with fail
    refine (R _).mono ?_; rintro e w' ⟨rfl, rfl⟩
    go_wp2_with fail
    go_ret
    exact ⟨ret_b (by rw [E.out, D.out]; simp), Up.alloc _ _⟩
  go_enter Tryd.func11, Tryd.ntmps11
  go_wp2_with fail
  refine (R _).mono ?_; rintro e w' ⟨rfl, rfl⟩
  go_wp2_with fail
  go_ret
  exact ⟨ret_b (by rw [E.out]; simp; omega), Up.alloc _ _⟩

set_option maxHeartbeats 1000000 in
theorem refSeconds_yes (y m d h i s : Int) (w : World) (r : rightC y m d h i s = true) : Calls Tryd.prog 15 #[.agg #[.int .i64 y, .int .i64 m, .int .i64 d, .int .i64 h, .int .i64 i, .int .i64 s]] w fun e w' => e = .returned (.int .i64 (secI y m d h i s)) ∧ Up w w' := by
  obtain ⟨rb, h1, h2, i1, i2, s1, s2⟩ := rightC_true.1 r
  obtain ⟨q1, q2⟩ := day_range rb
  obtain ⟨q3, q4⟩ := ny_bds
  have D := fun w => refDays_yes y m d w rb
  have E := Lib.hid (show secI y m d h i s = dayI y m d * 86400 + (h * 3600 + i * 60 + s) from rfl)
  have b1 : -1000000000000 ≤ dayI y m d := by omega
  have b2 : dayI y m d ≤ 1000000000000 := by omega
  clear r rb q1 q2 q3 q4
  generalize dayI y m d = n at *
  have e1 : IntKind.i64.wrap (n * 86400) = n * 86400 := IntWalk.i64_in _ (by omega)
  have e2 : IntKind.i64.wrap (h * 3600) = h * 3600 := IntWalk.i64_in _ (by omega)
  have e3 : IntKind.i64.wrap (i * 60) = i * 60 := IntWalk.i64_in _ (by omega)
  have e4 : IntKind.i64.wrap (h * 3600 + i * 60) = h * 3600 + i * 60 := IntWalk.i64_in _ (by omega)
  have e5 : IntKind.i64.wrap (h * 3600 + i * 60 + s) = h * 3600 + i * 60 + s := IntWalk.i64_in _ (by omega)
  have e6 : IntKind.i64.wrap (n * 86400 + (h * 3600 + i * 60 + s)) = n * 86400 + (h * 3600 + i * 60 + s) := IntWalk.i64_in _ (by omega)
  go_enter Tryd.func15, Tryd.ntmps15
  go_wp2_with fail
  go_quiet ((exact Calls.quiet_of_same (flip_same (D _))))
  go_wp2_with fail
  go_ret
  exact ⟨ret_i E.out.symm, (Up.alloc _ _).drewN' _⟩
end Go.Proofs.YtdmobmblkbmkhaaDoor
