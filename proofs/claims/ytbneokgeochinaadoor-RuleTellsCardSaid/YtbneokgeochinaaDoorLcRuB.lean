/-
  Package rule: the day of a change (weekly, dayOf), and its moment (moment, turns).
-/
import Derived.Test.YtbneokgeochinaaDoorLcRuA
import Derived.Test.YtbneokgeochinaaDoorLcPu0
import Derived.Test.YtbneokgeochinaaDoorLcRyD
namespace Go.Proofs.YtbneokgeochinaaDoor
open Go.ChangeShapes Go.WideShapes Go.ChangeAt Go.RowKit Go.Sort Lc

theorem wk_behind (y m wd : Int) (h0 : 0 ≤ wd) (h1 : wd ≤ 6) : (wd - wdI (dayI y m 1) + 7).tmod 7 = wkF y m wd - 1 := by
  have w0 : 0 ≤ wdI (dayI y m 1) ∧ wdI (dayI y m 1) ≤ 6 := by unfold wdI; omega
  unfold wkF
  rw [Int.tmod_eq_emod_of_nonneg (by omega)]
  omega
theorem dayI_bd {y m : Int} (h1 : -2147483648 ≤ y) (h2 : y ≤ 2147483647) (m1 : 1 ≤ m) (m2 : m ≤ 12) : -784353015833 ≤ dayI y m 1 ∧ dayI y m 1 ≤ 784351576777 := by
  have r := day_range (day_fits (m := m) (d := 1) h1 h2 (by decide) (by have := len_pos y m1 m2; omega))
  rw [ny_first, ny_last] at r
  omega
set_option maxRecDepth 100000 in
set_option maxHeartbeats 4000000 in
theorem weekly_any (y n wk wd t : Int) (w : World) (T : Tab w) (h1 : -2147483648 ≤ y) (h2 : y ≤ 2147483647) (n1 : 1 ≤ n) (n2 : n ≤ 12) (k1 : 1 ≤ wk) (k2 : wk ≤ 5) (d1 : 0 ≤ wd) (d2 : wd ≤ 6) :
    Calls Tryd.prog 49 #[.int .i64 y, .agg (cA ⟨3, n, wk, wd, t⟩)] w fun e w' => e = .returned (.int .i64 (dayI y n (wkD y n wk wd))) ∧ Up w w' := by
  have B0 := Lib.hid (Cb.bk (Bk.new w (cA ⟨3, n, wk, wd, t⟩) 25 (by decide)))
  have U0 := Lib.hid (Up.alloc w (.cells (cA ⟨3, n, wk, wd, t⟩) 25))
  have db := dayI_bd h1 h2 n1 n2
  have D := days_yes y n 1 _ (T.up U0.out) (day_fits h1 h2 (by decide) (by have := len_pos y n1 n2; omega))
  have W : Hid (∀ w, Calls Tryd.prog 23 #[.int .i64 (dayI y n 1)] w _) := Lib.hid (fun w => weekday_any (dayI y n 1) w (fitB_true.2 (by omega)))
  have L := Lib.hid (fun w T => length_any y n w T)
  have wb := wk_behind y n wd d1 d2
  have fb := wkF_bd y n wd
  have lb := len_bd y n
  have ll := len_pos y n1 n2
  have e1 := Lib.hid (dayI_add y n (wkD y n wk wd))
  have e2 : Hid (wkD y n wk wd = if wkF y n wd + 7 * (wk - 1) ≤ lenI y n then wkF y n wd + 7 * (wk - 1) else wkF y n wd + 7 * (wk - 1) - 7) := Lib.hid rfl
  have w0 : 0 ≤ wdI (dayI y n 1) ∧ wdI (dayI y n 1) ≤ 6 := by unfold wdI; omega
  have t0 := Lib.hid T
  clear T
  obtain ⟨R, hR⟩ : ∃ R, dayI y n (wkD y n wk wd) = R := ⟨_, rfl⟩
  rw [hR] at e1
  rw [hR]
  clear hR
  generalize wkD y n wk wd = K at *
  generalize wdI (dayI y n 1) = WD at *
  generalize dayI y n 1 = F at *
  generalize wkF y n wd = f at *
  generalize lenI y n = len at *
  unfold cA at *
  simp only at *
  obtain ⟨c0, c1, c2, c3, c4⟩ := B0.out
  simp only at c0 c1 c2 c3 c4
  go_enter Tryd.func49, Tryd.ntmps49
  go_wp2_with fail
  refine D.mono ?_; rintro e w1 ⟨rfl, du⟩
  have u1 := Up.of_dr du
  clear du D c0 c1 c2 c3 c4
  have B1 := Lib.hid (B0.out.up u1)
  have U1 := Lib.hid (U0.out.trans u1)
  clear u1 B0 U0
  obtain ⟨c0, c1, c2, c3, c4⟩ := B1.out
  simp only at c0 c1 c2 c3 c4
  go_wp2_with fail
  have x1 : IntKind.i64.wrap (wd - WD) = wd - WD := IntWalk.i64_in _ (by omega)
  have x2 : IntKind.i64.wrap (wd - WD + 7) = wd - WD + 7 := IntWalk.i64_in _ (by omega)
  have k3 := cell_regrown c3
  have Q1 := quiet_up (w := w1) (fun V _ => (W.out V).mono fun e w' h => ⟨h.1, Up.of_dr h.2⟩)
  refine wp_region_quiet_below (by kernel_rfl) (by kernel_rfl) ?_
  repeat (quiet_step (first | (with_reducible exact Q1 _ _)))
  refine wpQuiet_nil ?_
  rintro _ ⟨⟨dq, osq⟩, rfl⟩
  have UG := up_grown w1 dq osq
  clear k3 Q1 c0 c1 c2 c3 c4
  have B2 := Lib.hid (B1.out.up UG)
  have U2 := Lib.hid (U1.out.trans UG)
  clear UG B1 U1
  generalize grow (redrawn w1 dq) osq = w2 at *
  obtain ⟨c0, c1, c2, c3, c4⟩ := B2.out
  simp only at c0 c1 c2 c3 c4
  go_wp2_with fail
  refine (L.out _ (t0.out.up U2.out)).mono ?_; rintro e w3 ⟨rfl, rfl⟩
  by_cases g : f + 7 * (wk - 1) ≤ len
  · rw [if_pos g] at e2
    have EE := e1.out
    rw [e2.out] at EE
    have EH := Lib.hid EE
    have g2 : decide (len ≤ f - 1 + (wk - 1) * 7) = false := by simp; omega
    clear e1 e2 EE
    go_wp2_with fail
    go_ret
    exact ⟨ret_i (by have := EH.out; omega), U2.out⟩
  · rw [if_neg g] at e2
    have EE := e1.out
    rw [e2.out] at EE
    have EH := Lib.hid EE
    have g2 : decide (len ≤ f - 1 + (wk - 1) * 7) = true := by simp; omega
    clear e1 e2 EE
    go_wp2_with fail
    go_ret
    exact ⟨ret_i (by have := EH.out; omega), U2.out⟩
set_option maxRecDepth 100000 in
set_option maxHeartbeats 4000000 in
theorem dayOf_any (y : Int) (c : Ch) (w : World) (T : Tab w) (h : okY y c = true) : Calls Tryd.prog 27 #[.int .i64 y, .agg (cA c)] w fun e w' => e = .returned (.int .i64 (dayC y c)) ∧ Up w w' := by
  have B0 := Lib.hid (Cb.bk (Bk.new w (cA c) 25 (by decide)))
  have U0 := Lib.hid (Up.alloc w (.cells (cA c) 25))
  obtain ⟨hc, y1, y2, pp⟩ := okY_parts h
  have T0 := T.up U0.out
  have t0 := Lib.hid T0
  have nb := ny_rng y1 y2
  have lb := lp_01 y
  clear hc h T
  obtain ⟨h0, n, k, d, t⟩ := c
  simp only at pp
  rcases pp with ⟨rfl, n1, n2⟩ | ⟨rfl, n1, n2⟩ | ⟨rfl, n1, n2, k1, k2, d1, d2⟩
  · have J := Lib.hid (julian_any y n _ T0 y1 y2 n1 n2)
    rw [dayC_1]
    clear T0
    obtain ⟨R, hR⟩ : ∃ R, ny y + (n - 1) + (if leapB y = true ∧ 59 < n then 1 else 0) = R := ⟨_, rfl⟩
    rw [hR] at J ⊢
    clear hR
    unfold cA at *
    simp only at *
    obtain ⟨c0, c1, c2, c3, c4⟩ := B0.out
    simp only at c0 c1 c2 c3 c4
    go_enter Tryd.func27, Tryd.ntmps27
    go_wp2_with fail
    refine J.out.mono ?_; rintro e w1 ⟨rfl, u1⟩
    go_wp2_with fail
    go_ret
    exact ⟨rfl, U0.out.trans u1⟩
  · have N : Hid (∀ V, Up _ V → _) := Lib.hid (fun V u => rnewYear_any y V (t0.out.up u) y1 y2)
    rw [dayC_2]
    clear T0
    generalize ny y = NY at *
    unfold cA at *
    simp only at *
    obtain ⟨c0, c1, c2, c3, c4⟩ := B0.out
    simp only at c0 c1 c2 c3 c4
    go_enter Tryd.func27, Tryd.ntmps27
    go_wp2_with fail
    generalize w.alloc _ = W at *
    have k1 := cell_regrown c1
    have x1 : IntKind.i64.wrap (NY + n) = NY + n := IntWalk.i64_in _ (by omega)
    have Q1 := quiet_up (w := W) N.out
    refine wp_region_quiet_below (by kernel_rfl) (by kernel_rfl) ?_
    repeat (quiet_step (first | (with_reducible exact Q1 _ _)))
    refine wpQuiet_nil ?_
    rintro _ ⟨⟨dq, osq⟩, rfl⟩
    have UG := Lib.hid (U0.out.trans (up_grown W dq osq))
    clear k1 Q1 N c0 c1 c2 c3 c4
    generalize grow (redrawn W dq) osq = w2 at *
    go_wp2_with fail
    go_ret
    exact ⟨rfl, UG.out⟩
  · have J := Lib.hid (weekly_any y n k d t _ T0 y1 y2 n1 n2 k1 k2 d1 d2)
    rw [dayC_3]
    clear T0
    generalize dayI y n (wkD y n k d) = R at *
    unfold cA at *
    simp only at *
    obtain ⟨c0, c1, c2, c3, c4⟩ := B0.out
    simp only at c0 c1 c2 c3 c4
    go_enter Tryd.func27, Tryd.ntmps27
    go_wp2_with fail
    refine J.out.mono ?_; rintro e w1 ⟨rfl, u1⟩
    go_wp2_with fail
    go_ret
    exact ⟨rfl, U0.out.trans u1⟩
set_option maxRecDepth 100000 in
set_option maxHeartbeats 4000000 in
theorem moment_any (y : Int) (c : Ch) (k : Kd) (w : World) (T : Tab w) (h : okY y c = true) (o1 : -89999 ≤ k.off) (o2 : k.off ≤ 89999) :
    Calls Tryd.prog 54 #[.int .i64 y, .agg (cA c), .agg (kA k)] w fun e w' => e = .returned (.int .i64 (dayC y c * 86400 + c.tm - k.off)) ∧ Up w w' := by
  have B0 := Lib.hid ((Cb.bk (Bk.new w (cA c) 25 (by decide))).up (Up.alloc _ (.cells (kA k) 23)))
  have K0 := Lib.hid (Bk.new (w.alloc (.cells (cA c) 25)) (kA k) 23 (by decide))
  have U0 := Lib.hid ((Up.alloc w (.cells (cA c) 25)).trans (Up.alloc _ (.cells (kA k) 23)))
  obtain ⟨hc, y1, y2, pp⟩ := okY_parts h
  have tm := changeB_tm hc
  have db := dayC_bd (y := y) hc
  have nb := ny_rng y1 y2
  have t0 := Lib.hid (T.up U0.out)
  have D : Hid (∀ V, Up ((w.alloc (.cells (cA c) 25)).alloc (.cells (kA k) 23)) V → Calls Tryd.prog 27 #[.int .i64 y, .agg #[.int .i64 c.how, .int .i64 c.n, .int .i64 c.wk, .int .i64 c.wd, .int .i64 c.tm]] V _) := Lib.hid (fun V u => dayOf_any y c V (t0.out.up u) h)
  have k0 : ((w.alloc (.cells (cA c) 25)).alloc (.cells (kA k) 23)).cell? ⟨w.heap.size + 1, 0, none⟩ = some (.int .i64 k.off) := by
    have := K0.out.cell 0
    rw [World.size_alloc] at this
    exact this
  clear K0 hc h T pp
  have DB : -784353015833 ≤ dayC y c ∧ dayC y c ≤ 784351576777 := by omega
  clear db nb
  generalize dayC y c = A at *
  obtain ⟨h0, n, k', d, t⟩ := c
  obtain ⟨o, ds, nm⟩ := k
  simp only at o1 o2 tm
  unfold cA kA at *
  simp only at *
  go_enter Tryd.func54, Tryd.ntmps54
  go_wp2_with fail
  generalize World.alloc (World.alloc w _) _ = W at *
  obtain ⟨c0, c1, c2, c3, c4⟩ := B0.out
  simp only at c0 c1 c2 c3 c4
  have r0 := cell_regrown c0
  have r1 := cell_regrown c1
  have r2 := cell_regrown c2
  have r3 := cell_regrown c3
  have r4 := cell_regrown c4
  have r5 := cell_regrown k0
  have Q1 := quiet_up (w := W) D.out
  have x1 : IntKind.i64.wrap (A * 86400) = A * 86400 := IntWalk.i64_in _ (by omega)
  have x2 : IntKind.i64.wrap (t - o) = t - o := IntWalk.i64_in _ (by omega)
  have x3 : IntKind.i64.wrap (A * 86400 + (t - o)) = A * 86400 + (t - o) := IntWalk.i64_in _ (by omega)
  refine wp_region_quiet_below (by kernel_rfl) (by kernel_rfl) ?_
  repeat (quiet_step (first | (with_reducible exact Q1 _ _)))
  refine wpQuiet_nil ?_
  rintro _ ⟨⟨dq, osq⟩, rfl⟩
  have UG := Lib.hid (U0.out.trans (up_grown W dq osq))
  clear r0 r1 r2 r3 r4 r5 Q1 D c0 c1 c2 c3 c4
  generalize grow (redrawn W dq) osq = w2 at *
  go_wp2_with fail
  go_ret
  exact ⟨ret_i (by omega), UG.out⟩
end Go.Proofs.YtbneokgeochinaaDoor
