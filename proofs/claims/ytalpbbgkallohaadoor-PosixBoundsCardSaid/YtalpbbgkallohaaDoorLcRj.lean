/-
  What is right, in the program: kinds, days, changes, rules.
-/
import Derived.Test.YtalpbbgkallohaaDoorLcRi
import Derived.Test.YtalpbbgkallohaaDoorLcWrB
namespace Go.Proofs.YtalpbbgkallohaaDoor
open Go.ChangeShapes Go.WideShapes Go.ChangeAt Go.RowKit Lc

set_option maxRecDepth 100000 in
set_option maxHeartbeats 2000000 in
theorem rightKind_any (k : Kd) (d : Bool) (w : World) (hl : k.name.length ≤ maxLen) : Calls Tryd.prog 27 #[.agg (kA k), .bool d] w fun e w' => e = .returned (.bool (kindB k d)) ∧ Up w w' := by
  obtain ⟨o, b, n⟩ := k
  have N : ∀ w, _ := fun w => rightName_any n w hl
  have W : ∀ w, _ := fun w => within_any o (-89999) 89999 w
  unfold kindB kA
  simp only
  generalize inB o (-89999) 89999 = r2 at *
  generalize nameB n = r1 at *
  generalize tx n = s at *
  clear hl
  go_enter Tryd.func27, Tryd.ntmps27
  go_wp2_with (first | (go_at_call 42; refine (N _).mono ?_; rintro e w' ⟨rfl, rfl⟩) | (go_at_call 43; refine (W _).mono ?_; rintro e w' ⟨rfl, rfl⟩))
  all_goals go_ret
  all_goals exact ⟨ret_b (by simp [*]), Up.alloc _ _⟩

set_option maxRecDepth 100000 in
set_option maxHeartbeats 2000000 in
theorem rightDay_any (c : Ch) (w : World) : Calls Tryd.prog 44 #[.agg (cA c)] w fun e w' => e = .returned (.bool (dayB c)) ∧ Up w w' := by
  obtain ⟨h, n, k, d, t⟩ := c
  have W : ∀ n a b w, _ := fun n a b w => within_any n a b w
  unfold dayB cA
  simp only
  by_cases h1 : h = 1
  · subst h1
    rw [if_pos rfl]
    go_enter Tryd.func44, Tryd.ntmps44
    go_wp2_with (go_at_call 43; refine (W _ _ _ _).mono ?_; rintro e w' ⟨rfl, rfl⟩)
    all_goals go_ret
    all_goals exact ⟨ret_b (by simp [*]), Up.alloc _ _⟩
  rw [if_neg h1]
  by_cases h2 : h = 2
  · subst h2
    rw [if_pos rfl]
    clear h1
    go_enter Tryd.func44, Tryd.ntmps44
    go_wp2_with (go_at_call 43; refine (W _ _ _ _).mono ?_; rintro e w' ⟨rfl, rfl⟩)
    all_goals go_ret
    all_goals exact ⟨ret_b (by simp [*]), Up.alloc _ _⟩
  rw [if_neg h2]
  by_cases h3 : h = 3
  · subst h3
    rw [if_pos rfl]
    clear h1 h2
    go_enter Tryd.func44, Tryd.ntmps44
    go_wp2_with (go_at_call 43; refine (W _ _ _ _).mono ?_; rintro e w' ⟨rfl, rfl⟩)
    all_goals go_ret
    all_goals exact ⟨ret_b (by simp [*]), Up.alloc _ _⟩
  rw [if_neg h3]
  go_enter Tryd.func44, Tryd.ntmps44
  go_wp2_with (go_at_call 43; refine (W _ _ _ _).mono ?_; rintro e w' ⟨rfl, rfl⟩)
  all_goals go_ret
  all_goals exact ⟨ret_b (by simp [*]), Up.alloc _ _⟩

/-- A change's block. -/
def Cb (w : World) (b : Nat) (c : Ch) : Prop :=
  w.cell? ⟨b, 0, none⟩ = some (.int .i64 c.how) ∧ w.cell? ⟨b, 1, none⟩ = some (.int .i64 c.n) ∧ w.cell? ⟨b, 2, none⟩ = some (.int .i64 c.wk) ∧ w.cell? ⟨b, 3, none⟩ = some (.int .i64 c.wd) ∧ w.cell? ⟨b, 4, none⟩ = some (.int .i64 c.tm)
theorem Cb.up {w w' : World} {b : Nat} {c : Ch} (h : Cb w b c) (u : Up w w') : Cb w' b c := ⟨u.cell h.1, u.cell h.2.1, u.cell h.2.2.1, u.cell h.2.2.2.1, u.cell h.2.2.2.2⟩
theorem Cb.bk {w : World} {b : Nat} {c : Ch} {T : TypeId} (h : Bk w b (cA c) T) : Cb w b c := ⟨h.cell 0, h.cell 1, h.cell 2, h.cell 3, h.cell 4⟩
/-- A rule's block. -/
def Rb (w : World) (b : Nat) (r : Ru) : Prop :=
  (w.cell? ⟨b, 0, none⟩ = some (.int .i64 r.std.off) ∧ w.cell? ⟨b, 1, none⟩ = some (.bool r.std.dst) ∧ w.cell? ⟨b, 2, none⟩ = some (.string (tx r.std.name))) ∧
  (w.cell? ⟨b, 3, none⟩ = some (.int .i64 r.dst.off) ∧ w.cell? ⟨b, 4, none⟩ = some (.bool r.dst.dst) ∧ w.cell? ⟨b, 5, none⟩ = some (.string (tx r.dst.name))) ∧
  w.cell? ⟨b, 6, none⟩ = some (.bool r.both) ∧
  (w.cell? ⟨b, 7, none⟩ = some (.int .i64 r.st.how) ∧ w.cell? ⟨b, 8, none⟩ = some (.int .i64 r.st.n) ∧ w.cell? ⟨b, 9, none⟩ = some (.int .i64 r.st.wk) ∧ w.cell? ⟨b, 10, none⟩ = some (.int .i64 r.st.wd) ∧ w.cell? ⟨b, 11, none⟩ = some (.int .i64 r.st.tm)) ∧
  w.cell? ⟨b, 12, none⟩ = some (.int .i64 r.en.how) ∧ w.cell? ⟨b, 13, none⟩ = some (.int .i64 r.en.n) ∧ w.cell? ⟨b, 14, none⟩ = some (.int .i64 r.en.wk) ∧ w.cell? ⟨b, 15, none⟩ = some (.int .i64 r.en.wd) ∧ w.cell? ⟨b, 16, none⟩ = some (.int .i64 r.en.tm)
theorem Rb.up {w w' : World} {b : Nat} {r : Ru} (h : Rb w b r) (u : Up w w') : Rb w' b r := by
  obtain ⟨⟨a0, a1, a2⟩, ⟨a3, a4, a5⟩, a6, ⟨a7, a8, a9, b0, b1⟩, b2, b3, b4, b5, b6⟩ := h
  exact ⟨⟨u.cell a0, u.cell a1, u.cell a2⟩, ⟨u.cell a3, u.cell a4, u.cell a5⟩, u.cell a6, ⟨u.cell a7, u.cell a8, u.cell a9, u.cell b0, u.cell b1⟩, u.cell b2, u.cell b3, u.cell b4, u.cell b5, u.cell b6⟩
theorem Rb.bk {w : World} {b : Nat} {r : Ru} {T : TypeId} (h : Bk w b (rA r) T) : Rb w b r :=
  ⟨⟨h.cell 0, h.cell 1, h.cell 2⟩, ⟨h.cell 3, h.cell 4, h.cell 5⟩, h.cell 6, ⟨h.cell 7, h.cell 8, h.cell 9, h.cell 10, h.cell 11⟩, h.cell 12, h.cell 13, h.cell 14, h.cell 15, h.cell 16⟩

set_option maxRecDepth 100000 in
set_option maxHeartbeats 2000000 in
theorem rightChange_any (c : Ch) (wide : Bool) (w : World) : Calls Tryd.prog 28 #[.agg (cA c), .bool wide] w fun e w' => e = .returned (.bool (changeB c wide)) ∧ Up w w' := by
  have B0 := Lib.hid (Cb.bk (Bk.new w (cA c) 25 (by decide)))
  have U0 := Lib.hid (Up.alloc w (.cells (cA c) 25))
  have D : ∀ w, _ := fun w => rightDay_any c w
  have W : ∀ n a b w, _ := fun n a b w => within_any n a b w
  unfold changeB timeB
  obtain ⟨h, n, k, d, t⟩ := c
  unfold cA at *
  simp only at *
  generalize dayB ⟨h, n, k, d, t⟩ = r1 at *
  cases wide
  all_goals
    go_enter Tryd.func28, Tryd.ntmps28
    go_wp2_with fail
    refine (D _).mono ?_
    rintro e w1 ⟨rfl, u1⟩
    obtain ⟨c0, c1, c2, c3, c4⟩ := B0.out.up u1
    have U1 := Lib.hid (U0.out.trans u1)
    clear D u1
    simp only at c0 c1 c2 c3 c4
    go_wp2_with (go_at_call 43; refine (W _ _ _ _).mono ?_; rintro e w' ⟨rfl, rfl⟩)
    all_goals go_ret
    all_goals exact ⟨ret_b (by simp [*]), U1.out⟩

theorem ru_one (r : Ru) : (decide (r = ⟨r.std, kd0, false, ch0, ch0⟩)) = (!r.both && (r.dst == kd0 && r.st == ch0 && r.en == ch0)) := by
  rw [Bool.eq_iff_iff]
  simp only [decide_eq_true_eq, Bool.and_eq_true, Bool.not_eq_true', beq_iff_eq]
  constructor
  · intro h
    rw [h]; exact ⟨rfl, ⟨rfl, rfl⟩, rfl⟩
  · intro h
    exact ru_ext rfl h.2.1.1 h.1 h.2.1.2 h.2.2
end Go.Proofs.YtalpbbgkallohaaDoor
