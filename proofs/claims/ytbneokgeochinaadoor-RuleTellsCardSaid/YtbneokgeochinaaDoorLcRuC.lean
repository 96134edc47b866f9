/-
  Package rule: a year's turns (turns, Turns), the day of a change (Day), the last of some moments (last).
-/
import Derived.Test.YtbneokgeochinaaDoorLcRuB
import Derived.Test.YtbneokgeochinaaDoorLcRy6
namespace Go.Proofs.YtbneokgeochinaaDoor
open Go.ChangeShapes Go.WideShapes Go.ChangeAt Go.RowKit Go.Sort Lc

set_option maxRecDepth 100000 in
set_option maxHeartbeats 8000000 in
theorem turns_any (r : Ru) (y : Int) (w : World) (T : Tab w) (h : okT r y = true) :
    Calls Tryd.prog 34 #[.agg (rA r), .int .i64 y] w fun e w' => e = .returned (.tuple #[.int .i64 (tnS r y), .int .i64 (tnE r y)]) ∧ Up w w' := by
  have B0 := Lib.hid (Rb.bk (Bk.new w (rA r) 27 (by decide)))
  have U0 := Lib.hid (Up.alloc w (.cells (rA r) 27))
  obtain ⟨hr, hb, hy⟩ := okT_parts h
  obtain ⟨o1, o2, z⟩ := ru_parts hr
  obtain ⟨sc, ec, o3, o4⟩ := z hb
  have t0 := Lib.hid (T.up U0.out)
  have MS : Hid (∀ V, Up (w.alloc (.cells (rA r) 27)) V → Calls Tryd.prog 54 #[.int .i64 y, .agg #[.int .i64 r.st.how, .int .i64 r.st.n, .int .i64 r.st.wk, .int .i64 r.st.wd, .int .i64 r.st.tm], .agg #[.int .i64 r.std.off, .bool r.std.dst, .string (tx r.std.name)]] V fun e w' => e = .returned (.int .i64 (tnS r y)) ∧ Up V w') :=
    Lib.hid (fun V u => moment_any y r.st r.std V (t0.out.up u) (by unfold okY; rw [sc, hy]; rfl) o1 o2)
  have ME : Hid (∀ V, Up (w.alloc (.cells (rA r) 27)) V → Calls Tryd.prog 54 #[.int .i64 y, .agg #[.int .i64 r.en.how, .int .i64 r.en.n, .int .i64 r.en.wk, .int .i64 r.en.wd, .int .i64 r.en.tm], .agg #[.int .i64 r.dst.off, .bool r.dst.dst, .string (tx r.dst.name)]] V fun e w' => e = .returned (.int .i64 (tnE r y)) ∧ Up V w') :=
    Lib.hid (fun V u => moment_any y r.en r.dst V (t0.out.up u) (by unfold okY; rw [ec, hy]; rfl) o3 o4)
  clear hr hb hy z sc ec o1 o2 o3 o4 T h t0
  generalize tnS r y = A at *
  generalize tnE r y = E at *
  go_enter Tryd.func34, Tryd.ntmps34
  go_wp2_with fail
  generalize hW : w.alloc _ = W at *
  clear hW
  obtain ⟨⟨c0, c1, c2⟩, ⟨c3, c4, c5⟩, _, ⟨c7, c8, c9, d0, d1⟩, d2, d3, d4, d5, d6⟩ := B0.out
  have k0 := cell_regrown c0; have k1 := cell_regrown c1; have k2 := cell_regrown c2; have k3 := cell_regrown c3; have k4 := cell_regrown c4; have k5 := cell_regrown c5
  have k7 := cell_regrown c7; have k8 := cell_regrown c8; have k9 := cell_regrown c9; have j0 := cell_regrown d0; have j1 := cell_regrown d1
  have j2 := cell_regrown d2; have j3 := cell_regrown d3; have j4 := cell_regrown d4; have j5 := cell_regrown d5; have j6 := cell_regrown d6
  have Q1 := quiet_up (w := W) MS.out
  have Q2 := quiet_up (w := W) ME.out
  refine wp_region_quiet_below (by kernel_rfl) (by kernel_rfl) ?_
  repeat (quiet_step (first | (with_reducible exact Q1 _ _) | (with_reducible exact Q2 _ _)))
  refine wpQuiet_nil ?_
  rintro _ ⟨⟨dq, osq⟩, rfl⟩
  have UG := Lib.hid (U0.out.trans (up_grown W dq osq))
  clear k0 k1 k2 k3 k4 k5 k7 k8 k9 j0 j1 j2 j3 j4 j5 j6 c0 c1 c2 c3 c4 c5 c7 c8 c9 d0 d1 d2 d3 d4 d5 d6 Q1 Q2 MS ME
  generalize grow (redrawn W dq) osq = w2 at *
  go_wp2_with fail
  go_ret2
  exact ⟨rfl, UG.out⟩
theorem okY_no {y : Int} {c : Ch} (h : okY y c = false) : yrB y = false ∨ (yrB y = true ∧ changeB c true = false) := by
  unfold okY at h
  cases a : yrB y
  · exact .inl rfl
  · rw [a, Bool.and_true] at h; exact .inr ⟨rfl, h⟩
set_option maxRecDepth 100000 in
set_option maxHeartbeats 4000000 in
theorem day_any (y : Int) (c : Ch) (w : World) (T : Tab w) :
    Calls Tryd.prog 12 #[.int .i64 y, .agg (cA c)] w fun e w' => e = .returned (.tuple #[.int .i64 (if okY y c = true then dayC y c else 0), .int .i64 (if okY y c = true then 0 else 1)]) ∧ Up w w' := by
  have B0 := Lib.hid (Cb.bk (Bk.new w (cA c) 25 (by decide)))
  have U0 := Lib.hid (Up.alloc w (.cells (cA c) 25))
  have t0 := Lib.hid (T.up U0.out)
  have Y := isYear_any y _ t0.out
  have M : ∀ w, Calls Tryd.prog 26 #[.agg #[.int .i64 c.how, .int .i64 c.n, .int .i64 c.wk, .int .i64 c.wd, .int .i64 c.tm]] w _ := fun w => mayBe_any c w
  have D : Hid (okY y c = true → ∀ V, Tab V → Calls Tryd.prog 27 #[.int .i64 y, .agg #[.int .i64 c.how, .int .i64 c.n, .int .i64 c.wk, .int .i64 c.wd, .int .i64 c.tm]] V _) := Lib.hid (fun h V T => dayOf_any y c V T h)
  clear T
  cases hok : okY y c
  · rw [if_neg (by decide), if_neg (by decide)]
    rcases okY_no hok with hy | ⟨hy, hc⟩
    · rw [hy] at Y
      clear D hok
      obtain ⟨h0, n, k, d, t⟩ := c
      unfold cA at *
      simp only at *
      obtain ⟨c0, c1, c2, c3, c4⟩ := B0.out
      simp only at c0 c1 c2 c3 c4
      go_enter Tryd.func12, Tryd.ntmps12
      go_wp2_with fail
      refine Y.mono ?_; rintro e w1 ⟨rfl, rfl⟩
      go_wp2_with fail
      go_ret2
      exact ⟨rfl, U0.out⟩
    · rw [hy] at Y
      rw [hc] at M
      clear D hok
      obtain ⟨h0, n, k, d, t⟩ := c
      unfold cA at *
      simp only at *
      obtain ⟨c0, c1, c2, c3, c4⟩ := B0.out
      simp only at c0 c1 c2 c3 c4
      go_enter Tryd.func12, Tryd.ntmps12
      go_wp2_with fail
      refine Y.mono ?_; rintro e w1 ⟨rfl, rfl⟩
      go_wp2_with fail
      refine (M _).mono ?_; rintro e w1 ⟨rfl, u1⟩
      go_wp2_with fail
      go_ret2
      exact ⟨rfl, U0.out.trans u1⟩
  · rw [if_pos rfl, if_pos rfl]
    have D' := Lib.hid (D.out hok)
    obtain ⟨hc, _⟩ := okY_parts hok
    have hy : yrB y = true := by unfold okY at hok; rw [hc] at hok; exact hok
    rw [hy] at Y
    rw [hc] at M
    clear D hok hc hy
    generalize dayC y c = A at *
    obtain ⟨h0, n, k, d, t⟩ := c
    unfold cA at *
    simp only at *
    obtain ⟨c0, c1, c2, c3, c4⟩ := B0.out
    simp only at c0 c1 c2 c3 c4
    go_enter Tryd.func12, Tryd.ntmps12
    go_wp2_with fail
    refine Y.mono ?_; rintro e w1 ⟨rfl, rfl⟩
    go_wp2_with fail
    refine (M _).mono ?_; rintro e w1 ⟨rfl, u1⟩
    clear c0 c1 c2 c3 c4
    obtain ⟨c0, c1, c2, c3, c4⟩ := B0.out.up u1
    simp only at c0 c1 c2 c3 c4
    have U1 := Lib.hid (U0.out.trans u1)
    have t1 := t0.out.up u1
    go_wp2_with fail
    refine (D'.out _ t1).mono ?_; rintro e w2 ⟨rfl, u2⟩
    go_wp2_with fail
    go_ret2
    exact ⟨rfl, U1.out.trans u2⟩
end Go.Proofs.YtbneokgeochinaaDoor
