/-
  RuleDays is proved: for every change and year the statement answers true: a day that a change tells is in its year, or the first of the next one; a weekday is that weekday, of that month, and within that week. Conditions: the tied card's own (the listed variable, the lengths of months, as the text of the program lays it).
-/
import Derived.Test.YtbneokgeochinaaDoorLcShown9
import Derived.Test.YtbneokgeochinaaDoorLcPs8
import Derived.Test.YtbneokgeochinaaDoorLcOpC
import Derived.Test.YtbneokgeochinaaDoorLcDa
import Derived.Test.YtbneokgeochinaaDoorLcRyD
import Derived.Test.YtbneokgeochinaaDoorTie
import Derived.Test.YtbneokgeochinaaDoorCards
import Derived.WalkKit
import Derived.ProofKit
import Derived.OpenShut
import Derived.LaidMore
import Derived.Stop.Joined
import Derived.SevenTiedAt
namespace Go.Proofs.YtbneokgeochinaaDoor.ruleDays
open Go.ChangeShapes Go.WideShapes Go.ChangeAt Go.RowKit Lc
set_option linter.unusedVariables false

theorem own : ownKnob Tryd.prog.godebug = none := by kernel_rfl

theorem tmod_4001 (a : Int) : -4000 ≤ a.tmod 4001 ∧ a.tmod 4001 ≤ 4000 := by
  have h := tmod_lt a 4001 (by decide)
  omega
theorem okY_near {y : Int} (c : Ch) (h1 : -5000 ≤ y) (h2 : y ≤ 5000) : okY y c = changeB c true := by
  have : yrB y = true := by unfold yrB inB; simp; omega
  unfold okY; rw [this, Bool.and_true]
theorem year_of {y Y n : Int} (h1 : ny Y ≤ n) (h2 : n < ny (Y + 1)) (g1 : ny y ≤ n) (g2 : n < ny (y + 1)) : Y = y := by
  rcases Int.lt_or_le Y y with c | c
  · have := ny_le (show Y + 1 ≤ y by omega); omega
  · rcases Int.lt_or_le y Y with d | d
    · have := ny_le (show y + 1 ≤ Y by omega); omega
    · omega
/-- A day by its number, February 29 not counted. -/
theorem one_date {y n : Int} (y1 : -5000 ≤ y) (y2 : y ≤ 5000) (n1 : 1 ≤ n) (n2 : n ≤ 365) :
    ∃ m d D, ny y + (n - 1) + (if leapB y = true ∧ 59 < n then 1 else 0) = D ∧ rdB y m d = true ∧ dayI y m d = D ∧ n - 1 ≤ D - ny y ∧ D - ny y ≤ n ∧ ((m == 2) = false ∨ (m == 2) = true ∧ (d == 29) = false) := by
  have s := ny_succ y
  have l := lp_01 y
  have nb := ny_rng (y := y) (by omega) (by omega)
  obtain ⟨D, hD⟩ : ∃ D, ny y + (n - 1) + (if leapB y = true ∧ 59 < n then 1 else 0) = D := ⟨_, rfl⟩
  have hq : (leapB y = true ∧ 59 < n ∧ D = ny y + n) ∨ (D = ny y + (n - 1) ∧ (leapB y = true → n ≤ 59)) := by
    by_cases q : leapB y = true ∧ 59 < n
    · rw [if_pos q] at hD; exact .inl ⟨q.1, q.2, by omega⟩
    · rw [if_neg q] at hD
      exact .inr ⟨by omega, fun c => by
        rcases Int.lt_or_le 59 n with e | e
        · exact absurd ⟨c, e⟩ q
        · exact e⟩
  have lt : D < ny (y + 1) := by
    rcases hq with ⟨a, _, e⟩ | ⟨e, _⟩
    · have := lp_true a; omega
    · omega
  have ge : ny y ≤ D := by rcases hq with ⟨_, _, e⟩ | ⟨e, _⟩ <;> omega
  obtain ⟨Y, m, d, hr, hd⟩ := date_ex D (by rw [ny_first]; omega) (by rw [ny_last]; omega)
  obtain ⟨a, b⟩ := day_year hr
  rw [hd] at a b
  have e := year_of a b ge lt
  subst e
  refine ⟨m, d, D, hD, hr, hd, ?_, ?_, ?_⟩
  · rcases hq with ⟨_, _, e⟩ | ⟨e, _⟩ <;> omega
  · rcases hq with ⟨_, _, e⟩ | ⟨e, _⟩ <;> omega
  · by_cases hm : m = 2
    · right
      subst hm
      refine ⟨by simp, ?_⟩
      have : d ≠ 29 := fun c => by
        subst c
        obtain ⟨_, _, _, dl⟩ := rd_true.1 hr
        have c2 : cum Y 2 = 31 := rfl
        have l2 : lenI Y 2 = 28 + lp Y := by simp [lenI]
        unfold dayI ydI at hd
        cases q : leapB Y
        · have := lp_false q; omega
        · rcases hq with ⟨_, _, e⟩ | ⟨e, f⟩
          · omega
          · have := f q; omega
      simpa using this
    · left; simpa using hm
/-- A day by how many are ahead of it. -/
theorem two_date {y n : Int} (y1 : -5000 ≤ y) (y2 : y ≤ 5000) (n1 : 0 ≤ n) (n2 : n ≤ 365) :
    ∃ Y m d, rdB Y m d = true ∧ dayI Y m d = ny y + n ∧ (Y = y ∨ (Y = y + 1 ∧ m = 1 ∧ d = 1)) := by
  have s := ny_succ y
  have l := lp_01 y
  have nb := ny_rng (y := y) (by omega) (by omega)
  have nc := ny_rng (y := y + 1) (by omega) (by omega)
  by_cases c : ny y + n < ny (y + 1)
  · obtain ⟨Y, m, d, hr, hd⟩ := date_ex (ny y + n) (by rw [ny_first]; omega) (by rw [ny_last]; omega)
    obtain ⟨a, b⟩ := day_year hr
    rw [hd] at a b
    exact ⟨Y, m, d, hr, hd, .inl (year_of a b (by omega) c)⟩
  · refine ⟨y + 1, 1, 1, day_fits (by omega) (by omega) (by decide) (by have := len_pos (y + 1) (m := 1) (by decide) (by decide); omega), ?_, .inr ⟨rfl, rfl, rfl⟩⟩
    rw [dayI_1]; omega
theorem week_place (y m wk wd : Int) (m1 : 1 ≤ m) (m2 : m ≤ 12) (k1 : 1 ≤ wk) (k2 : wk ≤ 5) :
    ((wkD y m wk wd - 1).tdiv 7 = wk - 1) ∨ (wk = 5 ∧ (wkD y m wk wd - 1).tdiv 7 = 3 ∧ decide (lenI y m < wkD y m wk wd + 7) = true) := by
  have f := wkF_bd y m wd
  have l := len_pos y m1 m2
  have l2 := len_bd y m
  have l3 : 28 ≤ lenI y m := by omega
  by_cases c : wkF y m wd + 7 * (wk - 1) ≤ lenI y m
  · left
    have e : wkD y m wk wd = wkF y m wd + 7 * (wk - 1) := by unfold wkD; rw [if_pos c]
    rw [e, Int.tdiv_eq_ediv_of_nonneg (by omega)]
    omega
  · right
    have e : wkD y m wk wd = wkF y m wd + 7 * (wk - 1) - 7 := by unfold wkD; rw [if_neg c]
    have k : wk = 5 := by omega
    subst k
    refine ⟨rfl, ?_, by simp; omega⟩
    rw [e, Int.tdiv_eq_ediv_of_nonneg (by omega)]
    omega

set_option maxHeartbeats 8000000 in
set_option maxRecDepth 100000 in
theorem walk (x0 : Ch) (a1 : Int) (fh0 : fitB x0.how = true) (fn0 : fitB x0.n = true) (fk0 : fitB x0.wk = true) (fw0 : fitB x0.wd = true) (fm0 : fitB x0.tm = true) (w1 : (Lit.int .i64 a1).wf = true) (w : World) (T : Tab w) :
    Calls Tryd.prog 5 #[.agg (cA x0), .int .i64 a1] w fun e w' => e = .returned (.bool true) ∧ Up w w' := by
  have SH := Lib.hid (fun w T => shown_any w T)
  have B0 := Lib.hid (Bk.new w (cA x0) 25 (by decide))
  have U0 := Lib.hid (Up.alloc w (.cells (cA x0) 25))
  have TT := Lib.hid T
  clear T
  have tb := tmod_4001 a1
  obtain ⟨y, hy⟩ : ∃ y, a1.tmod 4001 = y := ⟨_, rfl⟩
  rw [hy] at tb
  have D1 := Lib.hid (fun w T => day_any y x0 w T)
  rw [okY_near x0 (by omega) (by omega)] at D1
  have DC := Lib.hid (fun w => dchange_any x0 true w)
  have OP : changeB x0 true = true → _ := fun h => okY_parts (y := y) (c := x0) (by rw [okY_near x0 (by omega) (by omega)]; exact h)
  have nb := ny_rng (y := y) (by omega) (by omega)
  have lb := lp_01 y
  cases hc : changeB x0 true
  · skip
    rw [hc] at D1 DC
    rw [if_neg (by decide), if_neg (by decide)] at D1
    clear OP
    obtain ⟨h, n, k, d, t⟩ := x0
    unfold cA at *
    simp only at *
    go_enter Tryd.func5, Tryd.ntmps5
    go_wp2_with fail
    refine (SH.out _ (Tab.up TT.out U0.out)).mono ?_; rintro e w1 ⟨rfl, u1⟩
    have B1 := Lib.hid (B0.out.up u1)
    have U1 := Lib.hid (U0.out.trans u1)
    clear u1 B0 U0 SH
    have k0 : w1.cell? ⟨w.heap.size, 0, none⟩ = some (.int .i64 h) := B1.out.cell 0
    have k1 : w1.cell? ⟨w.heap.size, 1, none⟩ = some (.int .i64 n) := B1.out.cell 1
    have k2 : w1.cell? ⟨w.heap.size, 2, none⟩ = some (.int .i64 k) := B1.out.cell 2
    have k3 : w1.cell? ⟨w.heap.size, 3, none⟩ = some (.int .i64 d) := B1.out.cell 3
    have k4 : w1.cell? ⟨w.heap.size, 4, none⟩ = some (.int .i64 t) := B1.out.cell 4
    go_wp2_with fail
    refine (D1.out _ (Tab.up TT.out U1.out)).mono ?_; rintro e w2 ⟨rfl, u2⟩
    clear k0 k1 k2 k3 k4
    have B2 := Lib.hid (B1.out.up u2)
    have U2 := Lib.hid (U1.out.trans u2)
    clear u2 B1 U1 D1
    have k0 : w2.cell? ⟨w.heap.size, 0, none⟩ = some (.int .i64 h) := B2.out.cell 0
    have k1 : w2.cell? ⟨w.heap.size, 1, none⟩ = some (.int .i64 n) := B2.out.cell 1
    have k2 : w2.cell? ⟨w.heap.size, 2, none⟩ = some (.int .i64 k) := B2.out.cell 2
    have k3 : w2.cell? ⟨w.heap.size, 3, none⟩ = some (.int .i64 d) := B2.out.cell 3
    have k4 : w2.cell? ⟨w.heap.size, 4, none⟩ = some (.int .i64 t) := B2.out.cell 4
    go_wp2_with fail
    refine (DC.out _).mono ?_; rintro e w3 ⟨rfl, u3⟩
    clear k0 k1 k2 k3 k4
    have B3 := Lib.hid (B2.out.up u3)
    have U3 := Lib.hid (U2.out.trans u3)
    clear u3 B2 U2 DC
    have k0 : w3.cell? ⟨w.heap.size, 0, none⟩ = some (.int .i64 h) := B3.out.cell 0
    have k1 : w3.cell? ⟨w.heap.size, 1, none⟩ = some (.int .i64 n) := B3.out.cell 1
    have k2 : w3.cell? ⟨w.heap.size, 2, none⟩ = some (.int .i64 k) := B3.out.cell 2
    have k3 : w3.cell? ⟨w.heap.size, 3, none⟩ = some (.int .i64 d) := B3.out.cell 3
    have k4 : w3.cell? ⟨w.heap.size, 4, none⟩ = some (.int .i64 t) := B3.out.cell 4
    go_wp2_with fail
    go_ret
    exact ⟨rfl, U3.out⟩
  · skip
    rw [hc] at D1 DC
    rw [if_pos rfl, if_pos rfl] at D1
    obtain ⟨_, y1, y2, pp⟩ := OP hc
    clear OP
    have DF := Lib.hid (fun w T => days_yes y 1 1 w T (day_fits y1 y2 (by decide) (by have := len_pos y (m := 1) (by decide) (by decide); omega)))
    rw [dayI_1] at DF
    obtain ⟨h, n, k, d, t⟩ := x0
    simp only at pp
    rcases pp with ⟨rfl, n1, n2⟩ | ⟨rfl, n1, n2⟩ | ⟨rfl, n1, n2, k1, k2, d1, d2⟩
    · skip
      obtain ⟨m, dd, D, hD, hr, hd, g1, g2, hm⟩ := one_date (y := y) (n := n) (by omega) (by omega) n1 n2
      rw [dayC_1, hD] at D1
      have DT := Lib.hid (fun w T => date_yes D y m dd w T hr hd)
      obtain ⟨r1, r2, r3, r4⟩ := rd_true.1 hr
      clear hD hr hd r1 r2 hc
      have g1' : decide (n - 1 ≤ D - ny y) = true := by simpa using g1
      have g2' : decide (D - ny y ≤ n) = true := by simpa using g2
      clear r3 r4
      have x1 : IntKind.i64.wrap (D - ny y) = D - ny y := IntWalk.i64_in _ (by omega)
      have x2 : IntKind.i64.wrap (n - 1) = n - 1 := IntWalk.i64_in _ (by omega)
      generalize ny y = NY at *
      unfold cA at *
      simp only at *
      rcases hm with hm | ⟨hm, hm2⟩
      · skip
        go_enter Tryd.func5, Tryd.ntmps5
        go_wp2_with fail
        refine (SH.out _ (Tab.up TT.out U0.out)).mono ?_; rintro e w1 ⟨rfl, u1⟩
        have B1 := Lib.hid (B0.out.up u1)
        have U1 := Lib.hid (U0.out.trans u1)
        clear u1 B0 U0 SH
        have k0 : w1.cell? ⟨w.heap.size, 0, none⟩ = some (.int .i64 1) := B1.out.cell 0
        have k1 : w1.cell? ⟨w.heap.size, 1, none⟩ = some (.int .i64 n) := B1.out.cell 1
        have k2 : w1.cell? ⟨w.heap.size, 2, none⟩ = some (.int .i64 k) := B1.out.cell 2
        have k3 : w1.cell? ⟨w.heap.size, 3, none⟩ = some (.int .i64 d) := B1.out.cell 3
        have k4 : w1.cell? ⟨w.heap.size, 4, none⟩ = some (.int .i64 t) := B1.out.cell 4
        go_wp2_with fail
        refine (D1.out _ (Tab.up TT.out U1.out)).mono ?_; rintro e w2 ⟨rfl, u2⟩
        clear k0 k1 k2 k3 k4
        have B2 := Lib.hid (B1.out.up u2)
        have U2 := Lib.hid (U1.out.trans u2)
        clear u2 B1 U1 D1
        have k0 : w2.cell? ⟨w.heap.size, 0, none⟩ = some (.int .i64 1) := B2.out.cell 0
        have k1 : w2.cell? ⟨w.heap.size, 1, none⟩ = some (.int .i64 n) := B2.out.cell 1
        have k2 : w2.cell? ⟨w.heap.size, 2, none⟩ = some (.int .i64 k) := B2.out.cell 2
        have k3 : w2.cell? ⟨w.heap.size, 3, none⟩ = some (.int .i64 d) := B2.out.cell 3
        have k4 : w2.cell? ⟨w.heap.size, 4, none⟩ = some (.int .i64 t) := B2.out.cell 4
        go_wp2_with fail
        refine (DC.out _).mono ?_; rintro e w3 ⟨rfl, u3⟩
        clear k0 k1 k2 k3 k4
        have B3 := Lib.hid (B2.out.up u3)
        have U3 := Lib.hid (U2.out.trans u3)
        clear u3 B2 U2 DC
        have k0 : w3.cell? ⟨w.heap.size, 0, none⟩ = some (.int .i64 1) := B3.out.cell 0
        have k1 : w3.cell? ⟨w.heap.size, 1, none⟩ = some (.int .i64 n) := B3.out.cell 1
        have k2 : w3.cell? ⟨w.heap.size, 2, none⟩ = some (.int .i64 k) := B3.out.cell 2
        have k3 : w3.cell? ⟨w.heap.size, 3, none⟩ = some (.int .i64 d) := B3.out.cell 3
        have k4 : w3.cell? ⟨w.heap.size, 4, none⟩ = some (.int .i64 t) := B3.out.cell 4
        go_wp2_with fail
        refine (DT.out _ (Tab.up TT.out U3.out)).mono ?_; rintro e w4 ⟨rfl, d4⟩
        clear k0 k1 k2 k3 k4
        have u4 := Up.of_dr d4
        have B4 := Lib.hid (B3.out.up u4)
        have U4 := Lib.hid (U3.out.trans u4)
        clear d4 u4 B3 U3 DT
        have k0 : w4.cell? ⟨w.heap.size, 0, none⟩ = some (.int .i64 1) := B4.out.cell 0
        have k1 : w4.cell? ⟨w.heap.size, 1, none⟩ = some (.int .i64 n) := B4.out.cell 1
        have k2 : w4.cell? ⟨w.heap.size, 2, none⟩ = some (.int .i64 k) := B4.out.cell 2
        have k3 : w4.cell? ⟨w.heap.size, 3, none⟩ = some (.int .i64 d) := B4.out.cell 3
        have k4 : w4.cell? ⟨w.heap.size, 4, none⟩ = some (.int .i64 t) := B4.out.cell 4
        go_wp2_with fail
        refine (DF.out _ (Tab.up TT.out U4.out)).mono ?_; rintro e w5 ⟨rfl, d5⟩
        clear k0 k1 k2 k3 k4
        have u5 := Up.of_dr d5
        have B5 := Lib.hid (B4.out.up u5)
        have U5 := Lib.hid (U4.out.trans u5)
        clear d5 u5 B4 U4 DF
        have k0 : w5.cell? ⟨w.heap.size, 0, none⟩ = some (.int .i64 1) := B5.out.cell 0
        have k1 : w5.cell? ⟨w.heap.size, 1, none⟩ = some (.int .i64 n) := B5.out.cell 1
        have k2 : w5.cell? ⟨w.heap.size, 2, none⟩ = some (.int .i64 k) := B5.out.cell 2
        have k3 : w5.cell? ⟨w.heap.size, 3, none⟩ = some (.int .i64 d) := B5.out.cell 3
        have k4 : w5.cell? ⟨w.heap.size, 4, none⟩ = some (.int .i64 t) := B5.out.cell 4
        go_wp2_with fail
        go_ret
        exact ⟨ret_b (by simp), U5.out⟩
      · skip
        go_enter Tryd.func5, Tryd.ntmps5
        go_wp2_with fail
        refine (SH.out _ (Tab.up TT.out U0.out)).mono ?_; rintro e w1 ⟨rfl, u1⟩
        have B1 := Lib.hid (B0.out.up u1)
        have U1 := Lib.hid (U0.out.trans u1)
        clear u1 B0 U0 SH
        have k0 : w1.cell? ⟨w.heap.size, 0, none⟩ = some (.int .i64 1) := B1.out.cell 0
        have k1 : w1.cell? ⟨w.heap.size, 1, none⟩ = some (.int .i64 n) := B1.out.cell 1
        have k2 : w1.cell? ⟨w.heap.size, 2, none⟩ = some (.int .i64 k) := B1.out.cell 2
        have k3 : w1.cell? ⟨w.heap.size, 3, none⟩ = some (.int .i64 d) := B1.out.cell 3
        have k4 : w1.cell? ⟨w.heap.size, 4, none⟩ = some (.int .i64 t) := B1.out.cell 4
        go_wp2_with fail
        refine (D1.out _ (Tab.up TT.out U1.out)).mono ?_; rintro e w2 ⟨rfl, u2⟩
        clear k0 k1 k2 k3 k4
        have B2 := Lib.hid (B1.out.up u2)
        have U2 := Lib.hid (U1.out.trans u2)
        clear u2 B1 U1 D1
        have k0 : w2.cell? ⟨w.heap.size, 0, none⟩ = some (.int .i64 1) := B2.out.cell 0
        have k1 : w2.cell? ⟨w.heap.size, 1, none⟩ = some (.int .i64 n) := B2.out.cell 1
        have k2 : w2.cell? ⟨w.heap.size, 2, none⟩ = some (.int .i64 k) := B2.out.cell 2
        have k3 : w2.cell? ⟨w.heap.size, 3, none⟩ = some (.int .i64 d) := B2.out.cell 3
        have k4 : w2.cell? ⟨w.heap.size, 4, none⟩ = some (.int .i64 t) := B2.out.cell 4
        go_wp2_with fail
        refine (DC.out _).mono ?_; rintro e w3 ⟨rfl, u3⟩
        clear k0 k1 k2 k3 k4
        have B3 := Lib.hid (B2.out.up u3)
        have U3 := Lib.hid (U2.out.trans u3)
        clear u3 B2 U2 DC
        have k0 : w3.cell? ⟨w.heap.size, 0, none⟩ = some (.int .i64 1) := B3.out.cell 0
        have k1 : w3.cell? ⟨w.heap.size, 1, none⟩ = some (.int .i64 n) := B3.out.cell 1
        have k2 : w3.cell? ⟨w.heap.size, 2, none⟩ = some (.int .i64 k) := B3.out.cell 2
        have k3 : w3.cell? ⟨w.heap.size, 3, none⟩ = some (.int .i64 d) := B3.out.cell 3
        have k4 : w3.cell? ⟨w.heap.size, 4, none⟩ = some (.int .i64 t) := B3.out.cell 4
        go_wp2_with fail
        refine (DT.out _ (Tab.up TT.out U3.out)).mono ?_; rintro e w4 ⟨rfl, d4⟩
        clear k0 k1 k2 k3 k4
        have u4 := Up.of_dr d4
        have B4 := Lib.hid (B3.out.up u4)
        have U4 := Lib.hid (U3.out.trans u4)
        clear d4 u4 B3 U3 DT
        have k0 : w4.cell? ⟨w.heap.size, 0, none⟩ = some (.int .i64 1) := B4.out.cell 0
        have k1 : w4.cell? ⟨w.heap.size, 1, none⟩ = some (.int .i64 n) := B4.out.cell 1
        have k2 : w4.cell? ⟨w.heap.size, 2, none⟩ = some (.int .i64 k) := B4.out.cell 2
        have k3 : w4.cell? ⟨w.heap.size, 3, none⟩ = some (.int .i64 d) := B4.out.cell 3
        have k4 : w4.cell? ⟨w.heap.size, 4, none⟩ = some (.int .i64 t) := B4.out.cell 4
        go_wp2_with fail
        refine (DF.out _ (Tab.up TT.out U4.out)).mono ?_; rintro e w5 ⟨rfl, d5⟩
        clear k0 k1 k2 k3 k4
        have u5 := Up.of_dr d5
        have B5 := Lib.hid (B4.out.up u5)
        have U5 := Lib.hid (U4.out.trans u5)
        clear d5 u5 B4 U4 DF
        have k0 : w5.cell? ⟨w.heap.size, 0, none⟩ = some (.int .i64 1) := B5.out.cell 0
        have k1 : w5.cell? ⟨w.heap.size, 1, none⟩ = some (.int .i64 n) := B5.out.cell 1
        have k2 : w5.cell? ⟨w.heap.size, 2, none⟩ = some (.int .i64 k) := B5.out.cell 2
        have k3 : w5.cell? ⟨w.heap.size, 3, none⟩ = some (.int .i64 d) := B5.out.cell 3
        have k4 : w5.cell? ⟨w.heap.size, 4, none⟩ = some (.int .i64 t) := B5.out.cell 4
        go_wp2_with fail
        go_ret
        exact ⟨ret_b (by simp), U5.out⟩
    · skip
      obtain ⟨Y, m, dd, hr, hd, hm⟩ := two_date (y := y) (n := n) (by omega) (by omega) n1 n2
      rw [dayC_2] at D1
      have DT := Lib.hid (fun w T => date_yes (ny y + n) Y m dd w T hr hd)
      clear hr hd hc
      have x1 : IntKind.i64.wrap (ny y + n - ny y) = n := by rw [show ny y + n - ny y = n by omega]; exact IntWalk.i64_in _ (by omega)
      have x2 : (y + 1 == y) = false := by simp; omega
      generalize ny y = NY at *
      unfold cA at *
      simp only at *
      rcases hm with rfl | ⟨rfl, rfl, rfl⟩
      · skip
        go_enter Tryd.func5, Tryd.ntmps5
        go_wp2_with fail
        refine (SH.out _ (Tab.up TT.out U0.out)).mono ?_; rintro e w1 ⟨rfl, u1⟩
        have B1 := Lib.hid (B0.out.up u1)
        have U1 := Lib.hid (U0.out.trans u1)
        clear u1 B0 U0 SH
        have k0 : w1.cell? ⟨w.heap.size, 0, none⟩ = some (.int .i64 2) := B1.out.cell 0
        have k1 : w1.cell? ⟨w.heap.size, 1, none⟩ = some (.int .i64 n) := B1.out.cell 1
        have k2 : w1.cell? ⟨w.heap.size, 2, none⟩ = some (.int .i64 k) := B1.out.cell 2
        have k3 : w1.cell? ⟨w.heap.size, 3, none⟩ = some (.int .i64 d) := B1.out.cell 3
        have k4 : w1.cell? ⟨w.heap.size, 4, none⟩ = some (.int .i64 t) := B1.out.cell 4
        go_wp2_with fail
        refine (D1.out _ (Tab.up TT.out U1.out)).mono ?_; rintro e w2 ⟨rfl, u2⟩
        clear k0 k1 k2 k3 k4
        have B2 := Lib.hid (B1.out.up u2)
        have U2 := Lib.hid (U1.out.trans u2)
        clear u2 B1 U1 D1
        have k0 : w2.cell? ⟨w.heap.size, 0, none⟩ = some (.int .i64 2) := B2.out.cell 0
        have k1 : w2.cell? ⟨w.heap.size, 1, none⟩ = some (.int .i64 n) := B2.out.cell 1
        have k2 : w2.cell? ⟨w.heap.size, 2, none⟩ = some (.int .i64 k) := B2.out.cell 2
        have k3 : w2.cell? ⟨w.heap.size, 3, none⟩ = some (.int .i64 d) := B2.out.cell 3
        have k4 : w2.cell? ⟨w.heap.size, 4, none⟩ = some (.int .i64 t) := B2.out.cell 4
        go_wp2_with fail
        refine (DC.out _).mono ?_; rintro e w3 ⟨rfl, u3⟩
        clear k0 k1 k2 k3 k4
        have B3 := Lib.hid (B2.out.up u3)
        have U3 := Lib.hid (U2.out.trans u3)
        clear u3 B2 U2 DC
        have k0 : w3.cell? ⟨w.heap.size, 0, none⟩ = some (.int .i64 2) := B3.out.cell 0
        have k1 : w3.cell? ⟨w.heap.size, 1, none⟩ = some (.int .i64 n) := B3.out.cell 1
        have k2 : w3.cell? ⟨w.heap.size, 2, none⟩ = some (.int .i64 k) := B3.out.cell 2
        have k3 : w3.cell? ⟨w.heap.size, 3, none⟩ = some (.int .i64 d) := B3.out.cell 3
        have k4 : w3.cell? ⟨w.heap.size, 4, none⟩ = some (.int .i64 t) := B3.out.cell 4
        go_wp2_with fail
        refine (DT.out _ (Tab.up TT.out U3.out)).mono ?_; rintro e w4 ⟨rfl, d4⟩
        clear k0 k1 k2 k3 k4
        have u4 := Up.of_dr d4
        have B4 := Lib.hid (B3.out.up u4)
        have U4 := Lib.hid (U3.out.trans u4)
        clear d4 u4 B3 U3 DT
        have k0 : w4.cell? ⟨w.heap.size, 0, none⟩ = some (.int .i64 2) := B4.out.cell 0
        have k1 : w4.cell? ⟨w.heap.size, 1, none⟩ = some (.int .i64 n) := B4.out.cell 1
        have k2 : w4.cell? ⟨w.heap.size, 2, none⟩ = some (.int .i64 k) := B4.out.cell 2
        have k3 : w4.cell? ⟨w.heap.size, 3, none⟩ = some (.int .i64 d) := B4.out.cell 3
        have k4 : w4.cell? ⟨w.heap.size, 4, none⟩ = some (.int .i64 t) := B4.out.cell 4
        go_wp2_with fail
        refine (DF.out _ (Tab.up TT.out U4.out)).mono ?_; rintro e w5 ⟨rfl, d5⟩
        clear k0 k1 k2 k3 k4
        have u5 := Up.of_dr d5
        have B5 := Lib.hid (B4.out.up u5)
        have U5 := Lib.hid (U4.out.trans u5)
        clear d5 u5 B4 U4 DF
        have k0 : w5.cell? ⟨w.heap.size, 0, none⟩ = some (.int .i64 2) := B5.out.cell 0
        have k1 : w5.cell? ⟨w.heap.size, 1, none⟩ = some (.int .i64 n) := B5.out.cell 1
        have k2 : w5.cell? ⟨w.heap.size, 2, none⟩ = some (.int .i64 k) := B5.out.cell 2
        have k3 : w5.cell? ⟨w.heap.size, 3, none⟩ = some (.int .i64 d) := B5.out.cell 3
        have k4 : w5.cell? ⟨w.heap.size, 4, none⟩ = some (.int .i64 t) := B5.out.cell 4
        go_wp2_with fail
        go_ret
        exact ⟨ret_b (by simp), U5.out⟩
      · skip
        go_enter Tryd.func5, Tryd.ntmps5
        go_wp2_with fail
        refine (SH.out _ (Tab.up TT.out U0.out)).mono ?_; rintro e w1 ⟨rfl, u1⟩
        have B1 := Lib.hid (B0.out.up u1)
        have U1 := Lib.hid (U0.out.trans u1)
        clear u1 B0 U0 SH
        have k0 : w1.cell? ⟨w.heap.size, 0, none⟩ = some (.int .i64 2) := B1.out.cell 0
        have k1 : w1.cell? ⟨w.heap.size, 1, none⟩ = some (.int .i64 n) := B1.out.cell 1
        have k2 : w1.cell? ⟨w.heap.size, 2, none⟩ = some (.int .i64 k) := B1.out.cell 2
        have k3 : w1.cell? ⟨w.heap.size, 3, none⟩ = some (.int .i64 d) := B1.out.cell 3
        have k4 : w1.cell? ⟨w.heap.size, 4, none⟩ = some (.int .i64 t) := B1.out.cell 4
        go_wp2_with fail
        refine (D1.out _ (Tab.up TT.out U1.out)).mono ?_; rintro e w2 ⟨rfl, u2⟩
        clear k0 k1 k2 k3 k4
        have B2 := Lib.hid (B1.out.up u2)
        have U2 := Lib.hid (U1.out.trans u2)
        clear u2 B1 U1 D1
        have k0 : w2.cell? ⟨w.heap.size, 0, none⟩ = some (.int .i64 2) := B2.out.cell 0
        have k1 : w2.cell? ⟨w.heap.size, 1, none⟩ = some (.int .i64 n) := B2.out.cell 1
        have k2 : w2.cell? ⟨w.heap.size, 2, none⟩ = some (.int .i64 k) := B2.out.cell 2
        have k3 : w2.cell? ⟨w.heap.size, 3, none⟩ = some (.int .i64 d) := B2.out.cell 3
        have k4 : w2.cell? ⟨w.heap.size, 4, none⟩ = some (.int .i64 t) := B2.out.cell 4
        go_wp2_with fail
        refine (DC.out _).mono ?_; rintro e w3 ⟨rfl, u3⟩
        clear k0 k1 k2 k3 k4
        have B3 := Lib.hid (B2.out.up u3)
        have U3 := Lib.hid (U2.out.trans u3)
        clear u3 B2 U2 DC
        have k0 : w3.cell? ⟨w.heap.size, 0, none⟩ = some (.int .i64 2) := B3.out.cell 0
        have k1 : w3.cell? ⟨w.heap.size, 1, none⟩ = some (.int .i64 n) := B3.out.cell 1
        have k2 : w3.cell? ⟨w.heap.size, 2, none⟩ = some (.int .i64 k) := B3.out.cell 2
        have k3 : w3.cell? ⟨w.heap.size, 3, none⟩ = some (.int .i64 d) := B3.out.cell 3
        have k4 : w3.cell? ⟨w.heap.size, 4, none⟩ = some (.int .i64 t) := B3.out.cell 4
        go_wp2_with fail
        refine (DT.out _ (Tab.up TT.out U3.out)).mono ?_; rintro e w4 ⟨rfl, d4⟩
        clear k0 k1 k2 k3 k4
        have u4 := Up.of_dr d4
        have B4 := Lib.hid (B3.out.up u4)
        have U4 := Lib.hid (U3.out.trans u4)
        clear d4 u4 B3 U3 DT
        have k0 : w4.cell? ⟨w.heap.size, 0, none⟩ = some (.int .i64 2) := B4.out.cell 0
        have k1 : w4.cell? ⟨w.heap.size, 1, none⟩ = some (.int .i64 n) := B4.out.cell 1
        have k2 : w4.cell? ⟨w.heap.size, 2, none⟩ = some (.int .i64 k) := B4.out.cell 2
        have k3 : w4.cell? ⟨w.heap.size, 3, none⟩ = some (.int .i64 d) := B4.out.cell 3
        have k4 : w4.cell? ⟨w.heap.size, 4, none⟩ = some (.int .i64 t) := B4.out.cell 4
        go_wp2_with fail
        refine (DF.out _ (Tab.up TT.out U4.out)).mono ?_; rintro e w5 ⟨rfl, d5⟩
        clear k0 k1 k2 k3 k4
        have u5 := Up.of_dr d5
        have B5 := Lib.hid (B4.out.up u5)
        have U5 := Lib.hid (U4.out.trans u5)
        clear d5 u5 B4 U4 DF
        have k0 : w5.cell? ⟨w.heap.size, 0, none⟩ = some (.int .i64 2) := B5.out.cell 0
        have k1 : w5.cell? ⟨w.heap.size, 1, none⟩ = some (.int .i64 n) := B5.out.cell 1
        have k2 : w5.cell? ⟨w.heap.size, 2, none⟩ = some (.int .i64 k) := B5.out.cell 2
        have k3 : w5.cell? ⟨w.heap.size, 3, none⟩ = some (.int .i64 d) := B5.out.cell 3
        have k4 : w5.cell? ⟨w.heap.size, 4, none⟩ = some (.int .i64 t) := B5.out.cell 4
        go_wp2_with fail
        go_ret
        exact ⟨ret_b (by simp), U5.out⟩
    · skip
      have wp := week_place y n k d n1 n2 k1 k2
      have hw := wk_wd y n k d1 d2
      obtain ⟨q1, q2⟩ := wk_day (y := y) (m := n) (wk := k) (wd := d) n1 n2 k1 k2
      have hr := day_fits (m := n) y1 y2 q1 q2
      rw [dayC_3] at D1
      have DT := Lib.hid (fun w T => date_yes (dayI y n (wkD y n k d)) y n (wkD y n k d) w T hr rfl)
      have rg := day_range hr
      rw [ny_first, ny_last] at rg
      have WD : Hid (∀ w, Calls Tryd.prog 23 #[.int .i64 (dayI y n (wkD y n k d))] w fun e w' => e = .returned (.int .i64 (wdI (dayI y n (wkD y n k d)))) ∧ Up w w') := Lib.hid (fun w => (weekday_any (dayI y n (wkD y n k d)) w (fitB_true.2 (by omega))).mono fun e w' h => ⟨h.1, Up.of_dr h.2⟩)
      rw [hw] at WD
      have LE := Lib.hid (fun w T => length_any y n w T)
      have lb2 := len_bd y n
      clear hr hc hw rg DF
      have x1 : IntKind.i64.wrap (wkD y n k d - 1) = wkD y n k d - 1 := IntWalk.i64_in _ (by omega)
      have x2 : IntKind.i64.wrap (wkD y n k d + 7) = wkD y n k d + 7 := IntWalk.i64_in _ (by omega)
      have x3 : IntKind.i64.wrap (k - 1 + 1) = k := by rw [show k - 1 + 1 = k by omega]; exact IntWalk.i64_in _ (by omega)
      generalize dayI y n (wkD y n k d) = A at *
      generalize wkD y n k d = DD at *
      generalize lenI y n = len at *
      unfold cA at *
      simp only at *
      rcases wp with wp | ⟨rfl, wp, wl⟩
      · skip
        go_enter Tryd.func5, Tryd.ntmps5
        go_wp2_with fail
        refine (SH.out _ (Tab.up TT.out U0.out)).mono ?_; rintro e w1 ⟨rfl, u1⟩
        have B1 := Lib.hid (B0.out.up u1)
        have U1 := Lib.hid (U0.out.trans u1)
        clear u1 B0 U0 SH
        have k0 : w1.cell? ⟨w.heap.size, 0, none⟩ = some (.int .i64 3) := B1.out.cell 0
        have k1 : w1.cell? ⟨w.heap.size, 1, none⟩ = some (.int .i64 n) := B1.out.cell 1
        have k2 : w1.cell? ⟨w.heap.size, 2, none⟩ = some (.int .i64 k) := B1.out.cell 2
        have k3 : w1.cell? ⟨w.heap.size, 3, none⟩ = some (.int .i64 d) := B1.out.cell 3
        have k4 : w1.cell? ⟨w.heap.size, 4, none⟩ = some (.int .i64 t) := B1.out.cell 4
        go_wp2_with fail
        refine (D1.out _ (Tab.up TT.out U1.out)).mono ?_; rintro e w2 ⟨rfl, u2⟩
        clear k0 k1 k2 k3 k4
        have B2 := Lib.hid (B1.out.up u2)
        have U2 := Lib.hid (U1.out.trans u2)
        clear u2 B1 U1 D1
        have k0 : w2.cell? ⟨w.heap.size, 0, none⟩ = some (.int .i64 3) := B2.out.cell 0
        have k1 : w2.cell? ⟨w.heap.size, 1, none⟩ = some (.int .i64 n) := B2.out.cell 1
        have k2 : w2.cell? ⟨w.heap.size, 2, none⟩ = some (.int .i64 k) := B2.out.cell 2
        have k3 : w2.cell? ⟨w.heap.size, 3, none⟩ = some (.int .i64 d) := B2.out.cell 3
        have k4 : w2.cell? ⟨w.heap.size, 4, none⟩ = some (.int .i64 t) := B2.out.cell 4
        go_wp2_with fail
        refine (DC.out _).mono ?_; rintro e w3 ⟨rfl, u3⟩
        clear k0 k1 k2 k3 k4
        have B3 := Lib.hid (B2.out.up u3)
        have U3 := Lib.hid (U2.out.trans u3)
        clear u3 B2 U2 DC
        have k0 : w3.cell? ⟨w.heap.size, 0, none⟩ = some (.int .i64 3) := B3.out.cell 0
        have k1 : w3.cell? ⟨w.heap.size, 1, none⟩ = some (.int .i64 n) := B3.out.cell 1
        have k2 : w3.cell? ⟨w.heap.size, 2, none⟩ = some (.int .i64 k) := B3.out.cell 2
        have k3 : w3.cell? ⟨w.heap.size, 3, none⟩ = some (.int .i64 d) := B3.out.cell 3
        have k4 : w3.cell? ⟨w.heap.size, 4, none⟩ = some (.int .i64 t) := B3.out.cell 4
        go_wp2_with fail
        refine (DT.out _ (Tab.up TT.out U3.out)).mono ?_; rintro e w4 ⟨rfl, d4⟩
        clear k0 k1 k2 k3 k4
        have u4 := Up.of_dr d4
        have B4 := Lib.hid (B3.out.up u4)
        have U4 := Lib.hid (U3.out.trans u4)
        clear d4 u4 B3 U3 DT
        have k0 : w4.cell? ⟨w.heap.size, 0, none⟩ = some (.int .i64 3) := B4.out.cell 0
        have k1 : w4.cell? ⟨w.heap.size, 1, none⟩ = some (.int .i64 n) := B4.out.cell 1
        have k2 : w4.cell? ⟨w.heap.size, 2, none⟩ = some (.int .i64 k) := B4.out.cell 2
        have k3 : w4.cell? ⟨w.heap.size, 3, none⟩ = some (.int .i64 d) := B4.out.cell 3
        have k4 : w4.cell? ⟨w.heap.size, 4, none⟩ = some (.int .i64 t) := B4.out.cell 4
        go_wp2_with fail
        have k4x := cell_regrown k4
        have k3x := cell_regrown k3
        have k2x := cell_regrown k2
        have k1x := cell_regrown k1
        have Q1 := quiet_up (w := w4) (fun V _ => WD.out V)
        refine wp_region_quiet_below (by kernel_rfl) (by kernel_rfl) ?_
        repeat (quiet_step (first | (with_reducible exact Q1 _ _)))
        refine wpQuiet_nil ?_
        rintro _ ⟨⟨dq, osq⟩, rfl⟩
        have UG := Lib.hid (U4.out.trans (up_grown w4 dq osq))
        clear k0 k1 k2 k3 k4 k4x k3x k2x k1x Q1
        generalize Go.Sort.grow (redrawn w4 dq) osq = w5 at *
        go_wp2_with fail
        go_ret
        exact ⟨ret_b (by simp), UG.out⟩
      · skip
        go_enter Tryd.func5, Tryd.ntmps5
        go_wp2_with fail
        refine (SH.out _ (Tab.up TT.out U0.out)).mono ?_; rintro e w1 ⟨rfl, u1⟩
        have B1 := Lib.hid (B0.out.up u1)
        have U1 := Lib.hid (U0.out.trans u1)
        clear u1 B0 U0 SH
        have k0 : w1.cell? ⟨w.heap.size, 0, none⟩ = some (.int .i64 3) := B1.out.cell 0
        have k1 : w1.cell? ⟨w.heap.size, 1, none⟩ = some (.int .i64 n) := B1.out.cell 1
        have k2 : w1.cell? ⟨w.heap.size, 2, none⟩ = some (.int .i64 5) := B1.out.cell 2
        have k3 : w1.cell? ⟨w.heap.size, 3, none⟩ = some (.int .i64 d) := B1.out.cell 3
        have k4 : w1.cell? ⟨w.heap.size, 4, none⟩ = some (.int .i64 t) := B1.out.cell 4
        go_wp2_with fail
        refine (D1.out _ (Tab.up TT.out U1.out)).mono ?_; rintro e w2 ⟨rfl, u2⟩
        clear k0 k1 k2 k3 k4
        have B2 := Lib.hid (B1.out.up u2)
        have U2 := Lib.hid (U1.out.trans u2)
        clear u2 B1 U1 D1
        have k0 : w2.cell? ⟨w.heap.size, 0, none⟩ = some (.int .i64 3) := B2.out.cell 0
        have k1 : w2.cell? ⟨w.heap.size, 1, none⟩ = some (.int .i64 n) := B2.out.cell 1
        have k2 : w2.cell? ⟨w.heap.size, 2, none⟩ = some (.int .i64 5) := B2.out.cell 2
        have k3 : w2.cell? ⟨w.heap.size, 3, none⟩ = some (.int .i64 d) := B2.out.cell 3
        have k4 : w2.cell? ⟨w.heap.size, 4, none⟩ = some (.int .i64 t) := B2.out.cell 4
        go_wp2_with fail
        refine (DC.out _).mono ?_; rintro e w3 ⟨rfl, u3⟩
        clear k0 k1 k2 k3 k4
        have B3 := Lib.hid (B2.out.up u3)
        have U3 := Lib.hid (U2.out.trans u3)
        clear u3 B2 U2 DC
        have k0 : w3.cell? ⟨w.heap.size, 0, none⟩ = some (.int .i64 3) := B3.out.cell 0
        have k1 : w3.cell? ⟨w.heap.size, 1, none⟩ = some (.int .i64 n) := B3.out.cell 1
        have k2 : w3.cell? ⟨w.heap.size, 2, none⟩ = some (.int .i64 5) := B3.out.cell 2
        have k3 : w3.cell? ⟨w.heap.size, 3, none⟩ = some (.int .i64 d) := B3.out.cell 3
        have k4 : w3.cell? ⟨w.heap.size, 4, none⟩ = some (.int .i64 t) := B3.out.cell 4
        go_wp2_with fail
        refine (DT.out _ (Tab.up TT.out U3.out)).mono ?_; rintro e w4 ⟨rfl, d4⟩
        clear k0 k1 k2 k3 k4
        have u4 := Up.of_dr d4
        have B4 := Lib.hid (B3.out.up u4)
        have U4 := Lib.hid (U3.out.trans u4)
        clear d4 u4 B3 U3 DT
        have k0 : w4.cell? ⟨w.heap.size, 0, none⟩ = some (.int .i64 3) := B4.out.cell 0
        have k1 : w4.cell? ⟨w.heap.size, 1, none⟩ = some (.int .i64 n) := B4.out.cell 1
        have k2 : w4.cell? ⟨w.heap.size, 2, none⟩ = some (.int .i64 5) := B4.out.cell 2
        have k3 : w4.cell? ⟨w.heap.size, 3, none⟩ = some (.int .i64 d) := B4.out.cell 3
        have k4 : w4.cell? ⟨w.heap.size, 4, none⟩ = some (.int .i64 t) := B4.out.cell 4
        go_wp2_with fail
        refine (LE.out _ (Tab.up TT.out U4.out)).mono ?_; rintro e w9 ⟨rfl, rfl⟩
        go_wp2_with fail
        have k4x := cell_regrown k4
        have k3x := cell_regrown k3
        have k2x := cell_regrown k2
        have k1x := cell_regrown k1
        have Q1 := quiet_up (w := w4) (fun V _ => WD.out V)
        refine wp_region_quiet_below (by kernel_rfl) (by kernel_rfl) ?_
        repeat (quiet_step (first | (with_reducible exact Q1 _ _)))
        refine wpQuiet_nil ?_
        rintro _ ⟨⟨dq, osq⟩, rfl⟩
        have UG := Lib.hid (U4.out.trans (up_grown w4 dq osq))
        clear k0 k1 k2 k3 k4 k4x k3x k2x k1x Q1
        generalize Go.Sort.grow (redrawn w4 dq) osq = w5 at *
        go_wp2_with fail
        go_ret
        exact ⟨ret_b (by simp), UG.out⟩

theorem readable : ∀ t ∈ Tryd.f5.params.toList, Tryd.prog.readableRec t = true ∧ t < Tryd.prog.types.size := by
  rw [Tryd.params5]
  intro t ht
  have hall : ([25, 3].all fun u => Tryd.prog.readableRec u && decide (u < Tryd.prog.types.size)) = true := by kernel_rfl
  have := List.all_eq_true.1 hall t (by simpa using ht)
  simpa using this

set_option maxRecDepth 100000 in
theorem lifted (os : Os) (started : os.Started) (H : Type) (enc : TypeId × Value → H) :
    ReturnsInHanded {} Tryd.checked os 5 .any (fun w args => (Rows.ruleDaysSpec.pre enc Tryd.prog Tryd.f5 [] false w args ∧ laidMetH Tryd.prog laidC w) ∧ sizedMet enc Tryd.prog Tryd.f5 (OpenSpec.ofChange Rows.ruleDaysSpec) false w args) (Rows.ruleDaysSpec.post enc Tryd.prog Tryd.f5 false true false false) := by
  refine returnsInHanded_of_change_and (C := Tryd.checked) (X := fun w _ => laidMetH Tryd.prog laidC w) (fun _ _ _ hh h => h.of_heap hh) own started (by kernel_rfl) Tryd.func5
    (ChangeSpec.witness_shaped (enc := enc) (C := Tryd.checked) (os := os) (X := fun w _ => laidMetH Tryd.prog laidC w) false (World.doorLaid Tryd.prog 400 os) #[.agg #[.int .i64 0, .int .i64 0, .int .i64 0, .int .i64 0, .int .i64 0], .int .i64 0] 8 rfl (World.shaped_of_RefB (by kernel_rfl) (by kernel_rfl)) (by kernel_rfl) (by kernel_rfl) (by kernel_rfl) (door_met os _)) ?_
  intro W base args ds gs before hval0 hW _ _ hL _
  have hval : ∀ (j : Nat) t v, Tryd.f5.params[j]? = some t → args[j]? = some v → Value.okWide Tryd.prog W .any base t v := hval0
  have hW' := hW
  obtain ⟨p, q, hA0, hV, rfl, hfz, hnd⟩ := hW
  have hA : DataW.TrodAll enc Tryd.prog W 0 (fun _ => true) true Tryd.f5.params.toList args.toList ds p := hA0
  rw [Tryd.params5] at hA hval
  obtain ⟨v0, vs0, d0, ds0, p0, q0, hargs, rfl, rfl, h0, r0⟩ := trodAll_cons hA
  obtain ⟨v1, vs1, d1, ds1, p1, q1, rfl, rfl, rfl, h1, r1⟩ := trodAll_cons r0
  obtain ⟨rfl, rfl, rfl⟩ := trodAll_nil r1
  obtain rfl : args = #[v0, v1] := by cases args; simp_all
  obtain ⟨rfl, rfl⟩ := trodVars_none hV
  obtain ⟨x0, rfl, fh0, fn0, fk0, fw0, fm0⟩ := open_chg (hval 0 25 v0 rfl rfl) h0
  obtain ⟨a1, rfl, rfl, rfl, w1⟩ := open_int Tryd.underlying3 (hval 1 3 v1 rfl rfl) h1
  clear hA0 hval0
  refine (walk x0 a1 fh0 fn0 fk0 fw0 fm0 w1 W (tab_of_laid hL)).mono fun e W' ⟨he, hg⟩ => ?_
  subst he
  exact ⟨_, rfl, post_up laidOut readable rfl hW' (fun _ _ _ => (trodAll_cons_mk (shut_bool Tryd.underlying4 _) trodAll_mk0)) rfl rfl
    hg (ok_one (by kernel_rfl) rfl (okWide_bool_mk Tryd.underlying4 _))⟩

theorem over : Rows.ruleDaysRow.holds Tryd.pinned (OpenSpec.ofChange Rows.ruleDaysSpec) :=
  OpenClaim.holds_of_wide 5 Tryd.f5 rfl rfl rfl rfl rfl rfl rfl ⟨rfl, rfl, rfl, rfl, rfl⟩ rfl rfl rfl rfl rfl (by kernel_rfl) Tryd.func5 (by kernel_rfl)
    (of_decide_eq_true (by kernel_rfl)) (by unfold Func.isWrapper; first | (rw [if_pos (by decide +kernel)]; kernel_rfl) | (rw [if_neg (by decide +kernel)]; exact ⟨rfl, rfl⟩))
    (fun os started H enc _ => lifted os started H enc)

set_option maxRecDepth 100000 in
theorem proved : Rows.RuleDaysCardSaid :=
  Claim7.holds_tied_plain_at .later [] [.data] true _ false
    over (fun _ h => by cases h) (by kernel_rfl) (fun _ h => by cases h) ruleDays_row_tie rfl ⟨rfl, rfl⟩ (by kernel_rfl) rfl
    (fun f fn hf hfn => by
      obtain rfl : f = 5 := Option.some.inj ((show Tryd.prog.funcNamed "longcase/longcaselaw09.RuleDays" = some 5 by kernel_rfl).symm.trans hf) |>.symm
      obtain rfl : fn = Tryd.f5 := (Option.some.inj (Tryd.func5.symm.trans hfn)).symm
      exact ⟨by kernel_rfl, fun j t ht => by
        rw [Tryd.params5] at ht
        have hm : t ∈ [25, 3] := by simpa using Array.mem_of_getElem? ht
        have hall : ([25, 3].all fun u => !Tryd.prog.wantsStandIn u) = true := by kernel_rfl
        exact (show Tryd.prog.wantsStandIn t = false by simpa using List.all_eq_true.1 hall t hm)⟩)
    (by kernel_rfl)
end Go.Proofs.YtbneokgeochinaaDoor.ruleDays
