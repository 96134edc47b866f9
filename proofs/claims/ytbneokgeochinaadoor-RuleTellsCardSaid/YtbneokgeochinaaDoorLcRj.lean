/-
  What is right, in the program: kinds, days, changes, rules.
-/
import Derived.Test.YtbneokgeochinaaDoorLcRj0
import Derived.Test.YtbneokgeochinaaDoorLcRiP
namespace Go.Proofs.YtbneokgeochinaaDoor
open Go.ChangeShapes Go.WideShapes Go.ChangeAt Go.RowKit Lc

set_option maxRecDepth 100000 in
set_option maxHeartbeats 2000000 in
theorem rightKind_any (k : Kd) (d : Bool) (w : World) (hl : k.name.length ≤ maxLen) : Calls Tryd.prog 52 #[.agg (kA k), .bool d] w fun e w' => e = .returned (.bool (kindB k d)) ∧ Up w w' := by
  obtain ⟨o, b, n⟩ := k
  have N : ∀ w, _ := fun w => rightName_any n w hl
  have W : ∀ w, _ := fun w => within_any o (-89999) 89999 w
  unfold kindB kA
  simp only
  generalize inB o (-89999) 89999 = r2 at *
  generalize nameB n = r1 at *
  generalize tx n = s at *
  clear hl
  go_enter Tryd.func52, Tryd.ntmps52
  go_wp2_with (first | (go_at_call 61; refine (N _).mono ?_; rintro e w' ⟨rfl, rfl⟩) | (go_at_call 62; refine (W _).mono ?_; rintro e w' ⟨rfl, rfl⟩))
  all_goals go_ret
  all_goals exact ⟨ret_b (by simp [*]), Up.alloc _ _⟩
set_option maxRecDepth 100000 in
set_option maxHeartbeats 2000000 in
theorem rightDay_any (c : Ch) (w : World) : Calls Tryd.prog 63 #[.agg (cA c)] w fun e w' => e = .returned (.bool (dayB c)) ∧ Up w w' := by
  obtain ⟨h, n, k, d, t⟩ := c
  have W : ∀ n a b w, _ := fun n a b w => within_any n a b w
  unfold dayB cA
  simp only
  by_cases h1 : h = 1
  · subst h1
    rw [if_pos rfl]
    go_enter Tryd.func63, Tryd.ntmps63
    go_wp2_with (go_at_call 62; refine (W _ _ _ _).mono ?_; rintro e w' ⟨rfl, rfl⟩)
    all_goals go_ret
    all_goals exact ⟨ret_b (by simp [*]), Up.alloc _ _⟩
  rw [if_neg h1]
  by_cases h2 : h = 2
  · subst h2
    rw [if_pos rfl]
    clear h1
    go_enter Tryd.func63, Tryd.ntmps63
    go_wp2_with (go_at_call 62; refine (W _ _ _ _).mono ?_; rintro e w' ⟨rfl, rfl⟩)
    all_goals go_ret
    all_goals exact ⟨ret_b (by simp [*]), Up.alloc _ _⟩
  rw [if_neg h2]
  by_cases h3 : h = 3
  · subst h3
    rw [if_pos rfl]
    clear h1 h2
    go_enter Tryd.func63, Tryd.ntmps63
    go_wp2_with (go_at_call 62; refine (W _ _ _ _).mono ?_; rintro e w' ⟨rfl, rfl⟩)
    all_goals go_ret
    all_goals exact ⟨ret_b (by simp [*]), Up.alloc _ _⟩
  rw [if_neg h3]
  go_enter Tryd.func63, Tryd.ntmps63
  go_wp2_with (go_at_call 62; refine (W _ _ _ _).mono ?_; rintro e w' ⟨rfl, rfl⟩)
  all_goals go_ret
  all_goals exact ⟨ret_b (by simp [*]), Up.alloc _ _⟩
set_option maxRecDepth 100000 in
set_option maxHeartbeats 2000000 in
theorem rightChange_any (c : Ch) (wide : Bool) (w : World) : Calls Tryd.prog 53 #[.agg (cA c), .bool wide] w fun e w' => e = .returned (.bool (changeB c wide)) ∧ Up w w' := by
  have B0 := Lib.hid (Cb.bk (Bk.new w (cA c) 25 (by decide)))
  have U0 := Lib.hid (Up.alloc w (.cells (cA c) 25))
  have D : ∀ w, _ := fun w => rightDay_any c w
  have W : ∀ n a b w, _ := fun n a b w => within_any n a b w
  unfold changeB timeB
  obtain ⟨h, n, k, d, t⟩ := c
  unfold cA at *
  simp only at *
  generalize dayB ⟨h, n, k, d, t⟩ = r1 at *
  cases wide
  all_goals
    go_enter Tryd.func53, Tryd.ntmps53
    go_wp2_with fail
    refine (D _).mono ?_
    rintro e w1 ⟨rfl, u1⟩
    obtain ⟨c0, c1, c2, c3, c4⟩ := B0.out.up u1
    have U1 := Lib.hid (U0.out.trans u1)
    clear D u1
    simp only at c0 c1 c2 c3 c4
    go_wp2_with (go_at_call 62; refine (W _ _ _ _).mono ?_; rintro e w' ⟨rfl, rfl⟩)
    all_goals go_ret
    all_goals exact ⟨ret_b (by simp [*]), U1.out⟩
end Go.Proofs.YtbneokgeochinaaDoor
