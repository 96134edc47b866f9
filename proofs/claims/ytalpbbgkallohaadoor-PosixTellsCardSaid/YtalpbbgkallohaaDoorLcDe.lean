/-
  The document's own answer of layer 8: changes and rules as texts.
-/
import Derived.Test.YtalpbbgkallohaaDoorLcDc
import Derived.Test.YtalpbbgkallohaaDoorLcQui
namespace Go.Proofs.YtalpbbgkallohaaDoor
open Go.ChangeShapes Go.WideShapes Go.ChangeAt Go.RowKit Go.Sort Lc

theorem num_days {c : Ch} (h : dayB c = true) : 0 ≤ c.n ∧ c.n ≤ 365 ∧ 0 ≤ c.wk ∧ c.wk ≤ 5 ∧ 0 ≤ c.wd ∧ c.wd ≤ 6 := by
  rcases dayB_cases h with ⟨_, e1, e2, h1, h2⟩ | ⟨_, e1, e2, h1, h2⟩ | ⟨_, ⟨h1, h2⟩, ⟨h3, h4⟩, h5, h6⟩ <;> omega
theorem lit_tx (a : UInt8) : (⟨#[a]⟩ : ByteArray) = tx [a] := rfl
set_option maxRecDepth 100000 in
set_option maxHeartbeats 4000000 in
theorem dchT_any (c : Ch) (w : World) (hd : dayB c = true) (ht : -1000000 < c.tm ∧ c.tm < 1000000) : Calls Tryd.prog 31 #[.agg (cA c)] w fun e w' => e = .returned (.string (tx (changeT c))) ∧ Up w w' := by
  have B0 := Lib.hid (Cb.bk (Bk.new w (cA c) 25 (by decide)))
  have U0 := Lib.hid (Up.alloc w (.cells (cA c) 25))
  have nb := num_days hd
  have N0 := fun w => dnum_int c.n w (by omega) (by omega)
  have N1 := fun w => dnum_int c.wk w (by omega) (by omega)
  have N2 := fun w => dnum_int c.wd w (by omega) (by omega)
  have H0 := fun w => dhours_any c.tm w ht.1 ht.2
  have z0 : (tx (dec c.n)).size ≤ 3 := by rw [tx_size]; exact dec_le (n := c.n) (k := 3) (by decide) (by omega)
  have z1 := tx_size (dec c.wk)
  have y1 : (dec c.wk).length = 1 := by have := dec_le (n := c.wk) (k := 1) (by decide) (by omega); have := dec_pos c.wk; omega
  have z2 := tx_size (dec c.wd)
  have y2 : (dec c.wd).length = 1 := by have := dec_le (n := c.wd) (k := 1) (by decide) (by omega); have := dec_pos c.wd; omega
  have z3 : (tx (clockT c.tm)).size ≤ 10 := by rw [tx_size]; exact clockT_le (n := c.tm) (k := 3) (by decide) (by omega)
  rw [y1] at z1
  rw [y2] at z2
  have hc := dayB_cases hd
  obtain ⟨h, n, k, d, t⟩ := c
  unfold changeT dayT timeT
  simp only at *
  have E3 : tx (77 :: (dec n ++ 46 :: (dec k ++ 46 :: dec d))) = ⟨#[77]⟩ ++ tx (dec n) ++ ⟨#[46]⟩ ++ tx (dec k) ++ ⟨#[46]⟩ ++ tx (dec d) := by
    rw [lit_tx, lit_tx]; simp only [tx_append]; simp
  have E1 : tx (74 :: dec n) = ⟨#[74]⟩ ++ tx (dec n) := by rw [lit_tx, tx_append]; rfl
  have E4 : tx (47 :: clockT t) = ⟨#[47]⟩ ++ tx (clockT t) := by rw [lit_tx, tx_append]; rfl
  have A4 : ∀ a b c : ByteArray, a ++ b ++ c = a ++ (b ++ c) := fun a b c => ByteArray.append_assoc
  have hh : h = 1 ∨ h = 2 ∨ h = 3 := by rcases hc with q | q | q <;> omega
  clear hc nb hd ht y1 y2
  rw [← tx_append]
  by_cases ct : t = 7200
  · subst ct
    rw [if_pos rfl, show tx ([] : List UInt8) = ByteArray.empty from rfl, ByteArray.append_empty]
    clear H0 E4 z3
    rcases hh with rfl | rfl | rfl
    · rw [if_pos rfl, E1]
      clear E1 E3 A4
      generalize tx (dec n) = x0 at *
      clear N1 N2 z1 z2
      have f0 : ¬ 9223372036854775807 < 1 + x0.size := by omega
      obtain ⟨c0, c1, c2, c3, c4⟩ := B0.out
      simp only at c0 c1 c2 c3 c4
      go_enter Tryd.func31, Tryd.ntmps31
      go_wp2_with fail
      refine (N0 _).mono ?_; rintro e w1 ⟨rfl, u1⟩
      clear c0 c1 c2 c3 c4
      obtain ⟨c0, c1, c2, c3, c4⟩ := B0.out.up u1
      have U1 := Lib.hid (U0.out.trans u1)
      simp only at c0 c1 c2 c3 c4
      have u1' := u1
      clear u1
      go_wp2_with fail
      go_ret
      exact ⟨rfl, U1.out⟩
    · rw [if_neg (by decide), if_neg (by decide)]
      clear E1 E3 A4
      generalize tx (dec n) = x0 at *
      clear N1 N2 z1 z2
      have f0 : ¬ 9223372036854775807 < x0.size := by omega
      obtain ⟨c0, c1, c2, c3, c4⟩ := B0.out
      simp only at c0 c1 c2 c3 c4
      go_enter Tryd.func31, Tryd.ntmps31
      go_wp2_with fail
      refine (N0 _).mono ?_; rintro e w1 ⟨rfl, u1⟩
      clear c0 c1 c2 c3 c4
      obtain ⟨c0, c1, c2, c3, c4⟩ := B0.out.up u1
      have U1 := Lib.hid (U0.out.trans u1)
      simp only at c0 c1 c2 c3 c4
      have u1' := u1
      clear u1
      go_wp2_with fail
      go_ret
      exact ⟨rfl, U1.out⟩
    · rw [if_neg (by decide), if_pos rfl, E3]
      clear E1 E3 A4
      generalize tx (dec n) = x0 at *
      generalize tx (dec k) = x1 at *
      generalize tx (dec d) = x2 at *
      have f0 : ¬ 9223372036854775807 < 1 + x0.size := by omega
      have f1 : ¬ 9223372036854775807 < 1 + x0.size + 1 := by omega
      have f2 : ¬ 9223372036854775807 < 1 + x0.size + 1 + 1 := by omega
      have f3 : ¬ 9223372036854775807 < 1 + x0.size + 2 := by omega
      have f4 : ¬ 9223372036854775807 < 1 + x0.size + 1 + 1 + 1 := by omega
      have f5 : ¬ 9223372036854775807 < 1 + x0.size + 3 := by omega
      have f6 : ¬ 9223372036854775807 < 1 + x0.size + 1 + 1 + 1 + 1 := by omega
      have f7 : ¬ 9223372036854775807 < 1 + x0.size + 4 := by omega
      obtain ⟨c0, c1, c2, c3, c4⟩ := B0.out
      simp only at c0 c1 c2 c3 c4
      go_enter Tryd.func31, Tryd.ntmps31
      go_wp2_with fail
      refine (N0 _).mono ?_; rintro e w1 ⟨rfl, u1⟩
      clear c0 c1 c2 c3 c4
      obtain ⟨c0, c1, c2, c3, c4⟩ := B0.out.up u1
      have U1 := Lib.hid (U0.out.trans u1)
      simp only at c0 c1 c2 c3 c4
      have u1' := u1
      clear u1
      go_wp2_with fail
      have k2 := cell_regrown c2; have k3 := cell_regrown c3
      have Q1 := quiet_up (w := w1) (fun V _ => N1 V)
      have Q2 := quiet_up (w := w1) (fun V _ => N2 V)
      refine wp_region_quiet_below (by kernel_rfl) (by kernel_rfl) ?_
      repeat (quiet_step (first | (with_reducible exact Q1 _ _) | (with_reducible exact Q2 _ _)))
      refine wpQuiet_nil ?_
      rintro _ ⟨⟨dq, osq⟩, rfl⟩
      clear k2 k3 Q1 Q2 N1 N2
      have UG := up_grown w1 dq osq
      clear c0 c1 c2 c3 c4
      obtain ⟨c0, c1, c2, c3, c4⟩ := (B0.out.up u1').up UG
      simp only at c0 c1 c2 c3 c4
      have U2 := Lib.hid (U1.out.trans UG)
      clear UG
      generalize grow (redrawn w1 dq) osq = w2 at *
      go_wp2_with fail
      go_ret
      exact ⟨rfl, U2.out⟩
  · rw [if_neg ct, E4, ← A4]
    rcases hh with rfl | rfl | rfl
    · rw [if_pos rfl, E1]
      clear E1 E3 A4 E4
      generalize tx (dec n) = x0 at *
      clear N1 N2 z1 z2
      generalize tx (clockT t) = x3 at *
      have f0 : ¬ 9223372036854775807 < 1 + x0.size := by omega
      have f1 : ¬ 9223372036854775807 < 1 + x0.size + 1 := by omega
      have f2 : ¬ 9223372036854775807 < 1 + x0.size + 1 + x3.size := by omega
      obtain ⟨c0, c1, c2, c3, c4⟩ := B0.out
      simp only at c0 c1 c2 c3 c4
      go_enter Tryd.func31, Tryd.ntmps31
      go_wp2_with fail
      refine (N0 _).mono ?_; rintro e w1 ⟨rfl, u1⟩
      clear c0 c1 c2 c3 c4
      obtain ⟨c0, c1, c2, c3, c4⟩ := B0.out.up u1
      have U1 := Lib.hid (U0.out.trans u1)
      simp only at c0 c1 c2 c3 c4
      have u1' := u1
      clear u1
      go_wp2_with fail
      refine (H0 _).mono ?_; rintro e w4 ⟨rfl, u4⟩
      go_wp2_with fail
      go_ret
      exact ⟨rfl, U1.out.trans u4⟩
    · rw [if_neg (by decide), if_neg (by decide)]
      clear E1 E3 A4 E4
      generalize tx (dec n) = x0 at *
      clear N1 N2 z1 z2
      generalize tx (clockT t) = x3 at *
      have f0 : ¬ 9223372036854775807 < x0.size := by omega
      have f1 : ¬ 9223372036854775807 < x0.size + 1 := by omega
      have f2 : ¬ 9223372036854775807 < x0.size + 1 + x3.size := by omega
      obtain ⟨c0, c1, c2, c3, c4⟩ := B0.out
      simp only at c0 c1 c2 c3 c4
      go_enter Tryd.func31, Tryd.ntmps31
      go_wp2_with fail
      refine (N0 _).mono ?_; rintro e w1 ⟨rfl, u1⟩
      clear c0 c1 c2 c3 c4
      obtain ⟨c0, c1, c2, c3, c4⟩ := B0.out.up u1
      have U1 := Lib.hid (U0.out.trans u1)
      simp only at c0 c1 c2 c3 c4
      have u1' := u1
      clear u1
      go_wp2_with fail
      refine (H0 _).mono ?_; rintro e w4 ⟨rfl, u4⟩
      go_wp2_with fail
      go_ret
      exact ⟨rfl, U1.out.trans u4⟩
    · rw [if_neg (by decide), if_pos rfl, E3]
      clear E1 E3 A4 E4
      generalize tx (dec n) = x0 at *
      generalize tx (dec k) = x1 at *
      generalize tx (dec d) = x2 at *
      generalize tx (clockT t) = x3 at *
      have f0 : ¬ 9223372036854775807 < 1 + x0.size := by omega
      have f1 : ¬ 9223372036854775807 < 1 + x0.size + 1 := by omega
      have f2 : ¬ 9223372036854775807 < 1 + x0.size + 1 + 1 := by omega
      have f3 : ¬ 9223372036854775807 < 1 + x0.size + 2 := by omega
      have f4 : ¬ 9223372036854775807 < 1 + x0.size + 1 + 1 + 1 := by omega
      have f5 : ¬ 9223372036854775807 < 1 + x0.size + 3 := by omega
      have f6 : ¬ 9223372036854775807 < 1 + x0.size + 1 + 1 + 1 + 1 := by omega
      have f7 : ¬ 9223372036854775807 < 1 + x0.size + 4 := by omega
      have f8 : ¬ 9223372036854775807 < 1 + x0.size + 1 + 1 + 1 + 1 + 1 := by omega
      have f9 : ¬ 9223372036854775807 < 1 + x0.size + 1 + 1 + 1 + 1 + 1 + x3.size := by omega
      have f10 : ¬ 9223372036854775807 < 1 + x0.size + 4 + 1 := by omega
      have f11 : ¬ 9223372036854775807 < 1 + x0.size + 4 + 1 + x3.size := by omega
      have f12 : ¬ 9223372036854775807 < 1 + x0.size + 5 := by omega
      have f13 : ¬ 9223372036854775807 < 1 + x0.size + 5 + x3.size := by omega
      obtain ⟨c0, c1, c2, c3, c4⟩ := B0.out
      simp only at c0 c1 c2 c3 c4
      go_enter Tryd.func31, Tryd.ntmps31
      go_wp2_with fail
      refine (N0 _).mono ?_; rintro e w1 ⟨rfl, u1⟩
      clear c0 c1 c2 c3 c4
      obtain ⟨c0, c1, c2, c3, c4⟩ := B0.out.up u1
      have U1 := Lib.hid (U0.out.trans u1)
      simp only at c0 c1 c2 c3 c4
      have u1' := u1
      clear u1
      go_wp2_with fail
      have k2 := cell_regrown c2; have k3 := cell_regrown c3
      have Q1 := quiet_up (w := w1) (fun V _ => N1 V)
      have Q2 := quiet_up (w := w1) (fun V _ => N2 V)
      refine wp_region_quiet_below (by kernel_rfl) (by kernel_rfl) ?_
      repeat (quiet_step (first | (with_reducible exact Q1 _ _) | (with_reducible exact Q2 _ _)))
      refine wpQuiet_nil ?_
      rintro _ ⟨⟨dq, osq⟩, rfl⟩
      clear k2 k3 Q1 Q2 N1 N2
      have UG := up_grown w1 dq osq
      clear c0 c1 c2 c3 c4
      obtain ⟨c0, c1, c2, c3, c4⟩ := (B0.out.up u1').up UG
      simp only at c0 c1 c2 c3 c4
      have U2 := Lib.hid (U1.out.trans UG)
      clear UG
      generalize grow (redrawn w1 dq) osq = w2 at *
      go_wp2_with fail
      refine (H0 _).mono ?_; rintro e w4 ⟨rfl, u4⟩
      go_wp2_with fail
      go_ret
      exact ⟨rfl, U2.out.trans u4⟩
end Go.Proofs.YtalpbbgkallohaaDoor
