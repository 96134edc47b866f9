/-
  What Text of package clock does, in plain words.
-/
import Derived.Test.YtdmobmblkbmkhaaDoorLcClkR
import Derived.Test.YtdmobmblkbmkhaaDoorLcDig
import Derived.Lib.QuietBelow
import Derived.Lib.Walk
namespace Go.Proofs.YtdmobmblkbmkhaaDoor
open Go.ChangeShapes Go.WideShapes Go.ChangeAt Go.RowKit Go.Sort Lc

set_option maxHeartbeats 400000 in
theorem text_no (y m d h i s : Int) (w : World) (T : Tabs w) (r : rightC y m d h i s = false) : Calls Tryd.prog 13 #[.agg #[.int .i64 y, .int .i64 m, .int .i64 d, .int .i64 h, .int .i64 i, .int .i64 s]] w fun e w' => e = .returned (.string ⟨#[]⟩) ∧ Up w w' := by
  have t := Lib.hid T; clear T
  have R : ∀ w, Tabs w → _ := fun w T => clockRight_any y m d h i s w T
  rw [r] at R; clear r
  go_enter Tryd.func13, Tryd.ntmps13
  go_wp2_with fail
  refine (R _ (Tabs.up t.out (Up.alloc _ _))).mono ?_; rintro e w1 ⟨rfl, u1⟩
  go_wp2_with fail
  go_ret
  exact ⟨rfl, (Up.alloc _ _).trans u1⟩

theorem quiet_up {f : FuncId} {args : Array Value} {w : World} {v : Value} (h : ∀ W, Up w W → Calls Tryd.prog f args W fun e w' => e = .returned v ∧ Up W w') (d : Nat) (os : Array Obj) :
    Calls Tryd.prog f args (grow (redrawn w d) os) fun e w'' => e = .returned v ∧ ∃ p : Regrown, w'' = grow (redrawn w p.d) p.os :=
  Calls.regrown_of (h _ (below_regrown w d os))
theorem same_up {f : FuncId} {args : Array Value} {w : World} {v : Value} (h : Calls Tryd.prog f args w fun e w' => e = .returned v ∧ w = w') : Calls Tryd.prog f args w fun e w' => e = .returned v ∧ Up w w' :=
  h.mono fun _ _ ⟨he, hw⟩ => ⟨he, hw ▸ Up.refl _⟩

set_option maxHeartbeats 1000000 in
theorem text_yes (y m d h i s : Int) (w : World) (T : Tabs w) (r : rightC y m d h i s = true) : Calls Tryd.prog 13 #[.agg #[.int .i64 y, .int .i64 m, .int .i64 d, .int .i64 h, .int .i64 i, .int .i64 s]] w fun e w' => e = .returned (.string (textB y m d h i s)) ∧ Up w w' := by
  have t := Lib.hid T; clear T
  obtain ⟨rb, h1, h2, i1, i2, s1, s2⟩ := rightC_true.1 r
  obtain ⟨y1, y2, d1, d2⟩ := right_true.1 rb
  obtain ⟨m1, m2⟩ := right_month rb
  have ld := (len_bd y m).2
  have R : ∀ w, Tabs w → _ := fun w T => clockRight_any y m d h i s w T
  rw [r] at R
  have z0 := dgB_size (n := y) 4 (by omega) (by omega) (by omega)
  have z1 := dgB_2 (n := m) (by omega) (by omega)
  have z2 := dgB_2 (n := d) (by omega) (by omega)
  have z3 := dgB_2 (n := h) (by omega) (by omega)
  have z4 := dgB_2 (n := i) (by omega) (by omega)
  have z5 := dgB_2 (n := s) (by omega) (by omega)
  have D0 : ∀ w, Tabs w → _ := fun w T => digits_4 y w T (by omega) (by omega)
  have D1 := fun w => same_up (digits_2 m w (by omega) (by omega))
  have D2 := fun w => same_up (digits_2 d w (by omega) (by omega))
  have D3 := fun w => same_up (digits_2 h w (by omega) (by omega))
  have D4 := fun w => same_up (digits_2 i w (by omega) (by omega))
  have D5 := fun w => same_up (digits_2 s w (by omega) (by omega))
  have E := Lib.hid (show textB y m d h i s = dgB y 4 ++ ⟨#[45]⟩ ++ dgB m 2 ++ ⟨#[45]⟩ ++ dgB d 2 ++ ⟨#[32]⟩ ++ dgB h 2 ++ ⟨#[58]⟩ ++ dgB i 2 ++ ⟨#[58]⟩ ++ dgB s 2 from rfl)
  clear r rb d2 ld
  generalize dgB y 4 = x0 at *
  generalize dgB m 2 = x1 at *
  generalize dgB d 2 = x2 at *
  generalize dgB h 2 = x3 at *
  generalize dgB i 2 = x4 at *
  generalize dgB s 2 = x5 at *
  go_enter Tryd.func13, Tryd.ntmps13
  go_wp2_with fail
  have x0' := Lib.hid (Box.new w y m d h i s 23)
  refine (R _ (Tabs.up t.out (Up.alloc _ _))).mono ?_; rintro e w1 ⟨rfl, u1⟩
  have t1 := Lib.hid (Tabs.up t.out ((Up.alloc _ _).trans u1))
  obtain ⟨c0, c1, c2, c3, c4, c5⟩ := Box.up x0'.out u1
  have U1 := Lib.hid ((Up.alloc w _).trans u1)
  clear R t x0' u1
  have k0 := cell_regrown c0; have k1 := cell_regrown c1; have k2 := cell_regrown c2; have k3 := cell_regrown c3; have k4 := cell_regrown c4; have k5 := cell_regrown c5
  have Q0 := quiet_up (w := w1) (fun W u => D0 W (Tabs.up t1.out u))
  have Q1 := quiet_up (w := w1) (fun W _ => D1 W)
  have Q2 := quiet_up (w := w1) (fun W _ => D2 W)
  have Q3 := quiet_up (w := w1) (fun W _ => D3 W)
  have Q4 := quiet_up (w := w1) (fun W _ => D4 W)
  have Q5 := quiet_up (w := w1) (fun W _ => D5 W)
  clear D0 D1 D2 D3 D4 D5 c0 c1 c2 c3 c4 c5
  have f0 : ¬ 9223372036854775807 < x0.size + 1 := by omega
  have g0 : ¬ 9223372036854775807 < x0.size + 1 := by omega
  have f1 : ¬ 9223372036854775807 < x0.size + 1 + 2 := by omega
  have g1 : ¬ 9223372036854775807 < x0.size + 3 := by omega
  have f2 : ¬ 9223372036854775807 < x0.size + 1 + 2 + 1 := by omega
  have g2 : ¬ 9223372036854775807 < x0.size + 4 := by omega
  have f3 : ¬ 9223372036854775807 < x0.size + 1 + 2 + 1 + 2 := by omega
  have g3 : ¬ 9223372036854775807 < x0.size + 6 := by omega
  have f4 : ¬ 9223372036854775807 < x0.size + 1 + 2 + 1 + 2 + 1 := by omega
  have g4 : ¬ 9223372036854775807 < x0.size + 7 := by omega
  have f5 : ¬ 9223372036854775807 < x0.size + 1 + 2 + 1 + 2 + 1 + 2 := by omega
  have g5 : ¬ 9223372036854775807 < x0.size + 9 := by omega
  have f6 : ¬ 9223372036854775807 < x0.size + 1 + 2 + 1 + 2 + 1 + 2 + 1 := by omega
  have g6 : ¬ 9223372036854775807 < x0.size + 10 := by omega
  have f7 : ¬ 9223372036854775807 < x0.size + 1 + 2 + 1 + 2 + 1 + 2 + 1 + 2 := by omega
  have g7 : ¬ 9223372036854775807 < x0.size + 12 := by omega
  have f8 : ¬ 9223372036854775807 < x0.size + 1 + 2 + 1 + 2 + 1 + 2 + 1 + 2 + 1 := by omega
  have g8 : ¬ 9223372036854775807 < x0.size + 13 := by omega
  have f9 : ¬ 9223372036854775807 < x0.size + 1 + 2 + 1 + 2 + 1 + 2 + 1 + 2 + 1 + 2 := by omega
  have g9 : ¬ 9223372036854775807 < x0.size + 15 := by omega
  go_wp2_with fail
  refine wp_region_quiet_below (by kernel_rfl) (by kernel_rfl) ?_
  repeat (quiet_step (first | (with_reducible exact Q0 _ _) | (with_reducible exact Q1 _ _) | (with_reducible exact Q2 _ _) | (with_reducible exact Q3 _ _) | (with_reducible exact Q4 _ _) | (with_reducible exact Q5 _ _)))
  refine wpQuiet_nil ?_
  intro _ hw'
  obtain ⟨⟨dq, osq⟩, hw''⟩ := hw'
  subst hw''
  clear k0 k1 k2 k3 k4 k5 Q0 Q1 Q2 Q3 Q4 Q5
  go_wp2_with fail
  go_ret
  exact ⟨ret_s E.out.symm, U1.out.trans (below_regrown w1 dq osq)⟩
end Go.Proofs.YtdmobmblkbmkhaaDoor
