/-
  The program's header: within, Right, Body, in plain words.
-/
import Derived.Test.YtoijaananjlfpaaLcUp
import Derived.Test.YtoijaananjlfpaaLcByt
namespace Go.Proofs.Ytoijaananjlfpaa
open Go.ChangeShapes Go.WideShapes Go.ChangeAt Go.RowKit Lc

/-- A header's seven numbers, as the program hands them: version, ut, std, leap, time, type, char. -/
abbrev hv (v u s l t y c : Int) : Value := .agg #[.int .i64 v, .int .i64 u, .int .i64 s, .int .i64 l, .int .i64 t, .int .i64 y, .int .i64 c]
/-- Block b holds this header. -/
def HBox (w : World) (b : Nat) (v u s l t y c : Int) : Prop :=
  w.cell? ⟨b, 0, none⟩ = some (.int .i64 v) ∧ w.cell? ⟨b, 1, none⟩ = some (.int .i64 u) ∧ w.cell? ⟨b, 2, none⟩ = some (.int .i64 s) ∧ w.cell? ⟨b, 3, none⟩ = some (.int .i64 l) ∧ w.cell? ⟨b, 4, none⟩ = some (.int .i64 t) ∧ w.cell? ⟨b, 5, none⟩ = some (.int .i64 y) ∧ w.cell? ⟨b, 6, none⟩ = some (.int .i64 c)
theorem HBox.up {w w' : World} {b : Nat} {v u s l t y c : Int} (x : HBox w b v u s l t y c) (q : Up w w') : HBox w' b v u s l t y c :=
  ⟨q.cell x.1, q.cell x.2.1, q.cell x.2.2.1, q.cell x.2.2.2.1, q.cell x.2.2.2.2.1, q.cell x.2.2.2.2.2.1, q.cell x.2.2.2.2.2.2⟩
theorem HBox.new (w : World) (v u s l t y c : Int) (ty : TypeId) : HBox (w.alloc (.cells #[.int .i64 v, .int .i64 u, .int .i64 s, .int .i64 l, .int .i64 t, .int .i64 y, .int .i64 c] ty)) w.heap.size v u s l t y c := by
  unfold HBox; simp

/-- A right header. -/
def rightH (v u s l t y c : Int) : Bool := (decide (1 ≤ v) && decide (v ≤ 4)) && (decide (1 ≤ y) && decide (y ≤ 256)) && (decide (1 ≤ c) && decide (c ≤ 256)) && (decide (0 ≤ t) && decide (t ≤ 5000)) && (decide (0 ≤ l) && decide (l ≤ 5000)) && (decide (u = 0) || decide (u = y)) && (decide (s = 0) || decide (s = y))
theorem rightH_true {v u s l t y c : Int} : rightH v u s l t y c = true ↔ (1 ≤ v ∧ v ≤ 4 ∧ 1 ≤ y ∧ y ≤ 256 ∧ 1 ≤ c ∧ c ≤ 256 ∧ 0 ≤ t ∧ t ≤ 5000 ∧ 0 ≤ l ∧ l ≤ 5000 ∧ (u = 0 ∨ u = y) ∧ (s = 0 ∨ s = y)) := by
  unfold rightH; simp only [Bool.and_eq_true, Bool.or_eq_true, decide_eq_true_eq]; omega

theorem hwithin_any (n a b : Int) (w : World) : Calls Try.prog 40 #[.int .i64 n, .int .i64 a, .int .i64 b] w fun e w' => e = .returned (.bool (decide (a ≤ n) && decide (n ≤ b))) ∧ w = w' := by
  by_cases h : a ≤ n
  · go_enter Try.func40, Try.ntmps40
    go_wp2
    go_ret
    exact ⟨ret_b (by simp [h]), rfl⟩
  · go_enter Try.func40, Try.ntmps40
    go_wp2
    go_ret
    exact ⟨ret_b (by simp; omega), rfl⟩

set_option maxHeartbeats 1000000 in
theorem hright_any (v u s l t y c : Int) (w : World) : Calls Try.prog 19 #[hv v u s l t y c] w fun e w' => e = .returned (.bool (rightH v u s l t y c)) ∧ Up w w' := by
  have B1 := fun w => hwithin_any v 1 4 w
  have B2 := fun w => hwithin_any y 1 256 w
  have B3 := fun w => hwithin_any c 1 256 w
  have B4 := fun w => hwithin_any t 0 5000 w
  have B5 := fun w => hwithin_any l 0 5000 w
  have E := Lib.hid (show rightH v u s l t y c = ((decide (1 ≤ v) && decide (v ≤ 4)) && (decide (1 ≤ y) && decide (y ≤ 256)) && (decide (1 ≤ c) && decide (c ≤ 256)) && (decide (0 ≤ t) && decide (t ≤ 5000)) && (decide (0 ≤ l) && decide (l ≤ 5000)) && (decide (u = 0) || decide (u = y)) && (decide (s = 0) || decide (s = y))) from rfl)
  generalize (decide (1 ≤ v) && decide (v ≤ 4)) = b1 at *
  generalize (decide (1 ≤ y) && decide (y ≤ 256)) = b2 at *
  generalize (decide (1 ≤ c) && decide (c ≤ 256)) = b3 at *
  generalize (decide (0 ≤ t) && decide (t ≤ 5000)) = b4 at *
  generalize (decide (0 ≤ l) && decide (l ≤ 5000)) = b5 at *
  cases b1
  · go_enter Try.func19, Try.ntmps19
    go_wp2_with fail
    refine (B1 _).mono ?_; rintro e w' ⟨rfl, rfl⟩
    go_wp2_with fail
    go_ret
    exact ⟨ret_b (by rw [E.out]; rfl), Up.alloc _ _⟩
  cases b2
  · go_enter Try.func19, Try.ntmps19
    go_wp2_with fail
    refine (B1 _).mono ?_; rintro e w' ⟨rfl, rfl⟩
    go_wp2_with fail
    refine (B2 _).mono ?_; rintro e w' ⟨rfl, rfl⟩
    go_wp2_with fail
    go_ret
    exact ⟨ret_b (by rw [E.out]; rfl), Up.alloc _ _⟩
  cases b3
  · go_enter Try.func19, Try.ntmps19
    go_wp2_with fail
    refine (B1 _).mono ?_; rintro e w' ⟨rfl, rfl⟩
    go_wp2_with fail
    refine (B2 _).mono ?_; rintro e w' ⟨rfl, rfl⟩
    go_wp2_with fail
    refine (B3 _).mono ?_; rintro e w' ⟨rfl, rfl⟩
    go_wp2_with fail
    go_ret
    exact ⟨ret_b (by rw [E.out]; rfl), Up.alloc _ _⟩
  cases b4
  · go_enter Try.func19, Try.ntmps19
    go_wp2_with fail
    refine (B1 _).mono ?_; rintro e w' ⟨rfl, rfl⟩
    go_wp2_with fail
    refine (B2 _).mono ?_; rintro e w' ⟨rfl, rfl⟩
    go_wp2_with fail
    refine (B3 _).mono ?_; rintro e w' ⟨rfl, rfl⟩
    go_wp2_with fail
    refine (B4 _).mono ?_; rintro e w' ⟨rfl, rfl⟩
    go_wp2_with fail
    go_ret
    exact ⟨ret_b (by rw [E.out]; rfl), Up.alloc _ _⟩
  cases b5
  · go_enter Try.func19, Try.ntmps19
    go_wp2_with fail
    refine (B1 _).mono ?_; rintro e w' ⟨rfl, rfl⟩
    go_wp2_with fail
    refine (B2 _).mono ?_; rintro e w' ⟨rfl, rfl⟩
    go_wp2_with fail
    refine (B3 _).mono ?_; rintro e w' ⟨rfl, rfl⟩
    go_wp2_with fail
    refine (B4 _).mono ?_; rintro e w' ⟨rfl, rfl⟩
    go_wp2_with fail
    refine (B5 _).mono ?_; rintro e w' ⟨rfl, rfl⟩
    go_wp2_with fail
    go_ret
    exact ⟨ret_b (by rw [E.out]; rfl), Up.alloc _ _⟩
  · by_cases hu : u = 0
    · by_cases hs : s = 0
      all_goals
        go_enter Try.func19, Try.ntmps19
        go_wp2_with fail
        refine (B1 _).mono ?_; rintro e w' ⟨rfl, rfl⟩
        go_wp2_with fail
        refine (B2 _).mono ?_; rintro e w' ⟨rfl, rfl⟩
        go_wp2_with fail
        refine (B3 _).mono ?_; rintro e w' ⟨rfl, rfl⟩
        go_wp2_with fail
        refine (B4 _).mono ?_; rintro e w' ⟨rfl, rfl⟩
        go_wp2_with fail
        refine (B5 _).mono ?_; rintro e w' ⟨rfl, rfl⟩
        go_wp2_with fail
        go_ret
        exact ⟨ret_b (by rw [E.out, Bool.eq_iff_iff]; simp <;> omega), Up.alloc _ _⟩
    · by_cases hy : u = y
      · by_cases hs : s = 0
        all_goals
          go_enter Try.func19, Try.ntmps19
          go_wp2_with fail
          refine (B1 _).mono ?_; rintro e w' ⟨rfl, rfl⟩
          go_wp2_with fail
          refine (B2 _).mono ?_; rintro e w' ⟨rfl, rfl⟩
          go_wp2_with fail
          refine (B3 _).mono ?_; rintro e w' ⟨rfl, rfl⟩
          go_wp2_with fail
          refine (B4 _).mono ?_; rintro e w' ⟨rfl, rfl⟩
          go_wp2_with fail
          refine (B5 _).mono ?_; rintro e w' ⟨rfl, rfl⟩
          go_wp2_with fail
          go_ret
          exact ⟨ret_b (by rw [E.out, Bool.eq_iff_iff]; simp <;> omega), Up.alloc _ _⟩
      · go_enter Try.func19, Try.ntmps19
        go_wp2_with fail
        refine (B1 _).mono ?_; rintro e w' ⟨rfl, rfl⟩
        go_wp2_with fail
        refine (B2 _).mono ?_; rintro e w' ⟨rfl, rfl⟩
        go_wp2_with fail
        refine (B3 _).mono ?_; rintro e w' ⟨rfl, rfl⟩
        go_wp2_with fail
        refine (B4 _).mono ?_; rintro e w' ⟨rfl, rfl⟩
        go_wp2_with fail
        refine (B5 _).mono ?_; rintro e w' ⟨rfl, rfl⟩
        go_wp2_with fail
        go_ret
        exact ⟨ret_b (by rw [E.out, Bool.eq_iff_iff]; simp <;> omega), Up.alloc _ _⟩
/-- How many bytes a body has. -/
def bodyI (u s l t y c z : Int) : Int := t * (z + 1) + y * 6 + c + l * (z + 4) + s + u
theorem bodyI_bd {v u s l t y c : Int} (r : rightH v u s l t y c = true) {z : Int} (z0 : z = 4 ∨ z = 8) : 0 ≤ bodyI u s l t y c z ∧ bodyI u s l t y c z ≤ 200000 := by
  have := rightH_true.1 r
  unfold bodyI
  rcases z0 with rfl | rfl <;> omega

set_option maxHeartbeats 1000000 in
theorem body_any (v u s l t y c z : Int) (w : World) (hu : 0 ≤ u ∧ u ≤ 257) (hs : 0 ≤ s ∧ s ≤ 257) (hl : 0 ≤ l ∧ l ≤ 5001) (ht : 0 ≤ t ∧ t ≤ 5001) (hy : 0 ≤ y ∧ y ≤ 257) (hc : 0 ≤ c ∧ c ≤ 257) (hz : z = 4 ∨ z = 8) :
    Calls Try.prog 20 #[hv v u s l t y c, .int .i64 z] w fun e w' => e = .returned (.int .i64 (bodyI u s l t y c z)) ∧ Up w w' := by
  obtain ⟨u0, u1⟩ := hu; obtain ⟨s0, s1⟩ := hs; obtain ⟨l0, l1⟩ := hl; obtain ⟨t0, t1⟩ := ht; obtain ⟨y0, y1⟩ := hy; obtain ⟨c0, c1⟩ := hc
  have E := Lib.hid (show bodyI u s l t y c z = t * (z + 1) + y * 6 + c + l * (z + 4) + s + u from rfl)
  rcases hz with rfl | rfl
  · go_enter Try.func20, Try.ntmps20
    go_wp2_with fail
    go_ret
    exact ⟨ret_i (by rw [E.out]; rfl), Up.alloc _ _⟩
  · go_enter Try.func20, Try.ntmps20
    go_wp2_with fail
    go_ret
    exact ⟨ret_i (by rw [E.out]; rfl), Up.alloc _ _⟩
/-- A new block of zeroes. -/
abbrev hzero (w : World) : World := w.alloc (.cells #[.int .i64 0, .int .i64 0, .int .i64 0, .int .i64 0, .int .i64 0, .int .i64 0, .int .i64 0] 35)
/-- The world behind seven stores into one block. -/
abbrev seven (w : World) (b : Nat) (v0 v1 v2 v3 v4 v5 v6 : Value) : World := ((((((w.setCell ⟨b, 0, none⟩ v0).setCell ⟨b, 1, none⟩ v1).setCell ⟨b, 2, none⟩ v2).setCell ⟨b, 3, none⟩ v3).setCell ⟨b, 4, none⟩ v4).setCell ⟨b, 5, none⟩ v5).setCell ⟨b, 6, none⟩ v6
theorem Up.seven {w w' : World} (u : Up w w') {b : Nat} (hb : w.heap.size ≤ b) (v0 v1 v2 v3 v4 v5 v6 : Value) : Up w (seven w' b v0 v1 v2 v3 v4 v5 v6) :=
  ((((((u.setCell' (p := ⟨b, 0, none⟩) hb v0).setCell' (p := ⟨b, 1, none⟩) hb v1).setCell' (p := ⟨b, 2, none⟩) hb v2).setCell' (p := ⟨b, 3, none⟩) hb v3).setCell' (p := ⟨b, 4, none⟩) hb v4).setCell' (p := ⟨b, 5, none⟩) hb v5).setCell' (p := ⟨b, 6, none⟩) hb v6
end Go.Proofs.Ytoijaananjlfpaa
