/-
  The program's header: within, Right, Body, in plain words.
-/
import Derived.Test.YtaljddoenjgbfaaGreatLcMa
import Derived.Test.YtaljddoenjgbfaaGreatLcMb
import Derived.LoopTactic
import Derived.StillTailTactics
namespace Go.Proofs.YtaljddoenjgbfaaGreat
open Go.ChangeShapes Go.WideShapes Go.ChangeAt Go.RowKit Lc

/-- A header's seven numbers, as the program hands them: version, ut, std, leap, time, type, char. -/
abbrev hv (v u s l t y c : Int) : Value := .agg #[.int .i64 v, .int .i64 u, .int .i64 s, .int .i64 l, .int .i64 t, .int .i64 y, .int .i64 c]
/-- Block b holds this header. -/
def HBox (w : World) (b : Nat) (v u s l t y c : Int) : Prop :=
  w.cell? ⟨b, 0, none⟩ = some (.int .i64 v) ∧ w.cell? ⟨b, 1, none⟩ = some (.int .i64 u) ∧ w.cell? ⟨b, 2, none⟩ = some (.int .i64 s) ∧ w.cell? ⟨b, 3, none⟩ = some (.int .i64 l) ∧ w.cell? ⟨b, 4, none⟩ = some (.int .i64 t) ∧ w.cell? ⟨b, 5, none⟩ = some (.int .i64 y) ∧ w.cell? ⟨b, 6, none⟩ = some (.int .i64 c)
set_option maxRecDepth 100000 in
theorem HBox.up {w w' : World} {b : Nat} {v u s l t y c : Int} (x : HBox w b v u s l t y c) (q : Up w w') : HBox w' b v u s l t y c :=
  ⟨q.cell x.1, q.cell x.2.1, q.cell x.2.2.1, q.cell x.2.2.2.1, q.cell x.2.2.2.2.1, q.cell x.2.2.2.2.2.1, q.cell x.2.2.2.2.2.2⟩
set_option maxRecDepth 100000 in
theorem HBox.new (w : World) (v u s l t y c : Int) (ty : TypeId) : HBox (w.alloc (.cells #[.int .i64 v, .int .i64 u, .int .i64 s, .int .i64 l, .int .i64 t, .int .i64 y, .int .i64 c] ty)) w.heap.size v u s l t y c := by
  unfold HBox; simp

/-- A right header. -/
def rightH (v u s l t y c : Int) : Bool := (decide (1 ≤ v) && decide (v ≤ 4)) && (decide (1 ≤ y) && decide (y ≤ 256)) && (decide (1 ≤ c) && decide (c ≤ 256)) && (decide (0 ≤ t) && decide (t ≤ 5000)) && (decide (0 ≤ l) && decide (l ≤ 5000)) && (decide (u = 0) || decide (u = y)) && (decide (s = 0) || decide (s = y))
set_option maxRecDepth 100000 in
theorem rightH_true {v u s l t y c : Int} : rightH v u s l t y c = true ↔ (1 ≤ v ∧ v ≤ 4 ∧ 1 ≤ y ∧ y ≤ 256 ∧ 1 ≤ c ∧ c ≤ 256 ∧ 0 ≤ t ∧ t ≤ 5000 ∧ 0 ≤ l ∧ l ≤ 5000 ∧ (u = 0 ∨ u = y) ∧ (s = 0 ∨ s = y)) := by
  unfold rightH; simp only [Bool.and_eq_true, Bool.or_eq_true, decide_eq_true_eq]; omega

set_option maxRecDepth 100000 in
theorem hwithin_any (n a b : Int) (w : World) : Calls Tryz.prog 75 #[.int .i64 n, .int .i64 a, .int .i64 b] w fun e w' => e = .returned (.bool (decide (a ≤ n) && decide (n ≤ b))) ∧ w = w' := by
  by_cases h : a ≤ n
  · go_enter Tryz.func75, Tryz.ntmps75
    go_wp2
    go_ret
    exact ⟨ret_b (by simp [h]), rfl⟩
  · go_enter Tryz.func75, Tryz.ntmps75
    go_wp2
    go_ret
    exact ⟨ret_b (by simp; omega), rfl⟩

set_option maxRecDepth 100000 in
set_option maxHeartbeats 1000000 in
theorem hright_any (v u s l t y c : Int) (w : World) : Calls Tryz.prog 64 #[hv v u s l t y c] w fun e w' => e = .returned (.bool (rightH v u s l t y c)) ∧ Up w w' := by
  have B1 := fun w => hwithin_any v 1 4 w
  have B2 := fun w => hwithin_any y 1 256 w
  have B3 := fun w => hwithin_any c 1 256 w
  have B4 := fun w => hwithin_any t 0 5000 w
  have B5 := fun w => hwithin_any l 0 5000 w
  have E := Lib.hid (show rightH v u s l t y c = ((decide (1 ≤ v) && decide (v ≤ 4)) && (decide (1 ≤ y) && decide (y ≤ 256)) && (decide (1 ≤ c) && decide (c ≤ 256)) && (decide (0 ≤ t) && decide (t ≤ 5000)) && (decide (0 ≤ l) && decide (l ≤ 5000)) && (decide (u = 0) || decide (u = y)) && (decide (s = 0) || decide (s = y))) from rfl)
  generalize (decide (1 ≤ v) && decide (v ≤ 4)) = b1 at *
  generalize (decide (1 ≤ y) && decide (y ≤ 256)) = b2 at *
  generalize (decide (1 ≤ c) && decide (c ≤ 256)) = b3 at *
  generalize (decide (0 ≤ t) && decide (t ≤ 5000)) = b4 at *
  generalize (decide (0 ≤ l) && decide (l ≤ 5000)) = b5 at *
  cases b1
  · go_enter Tryz.func64, Tryz.ntmps64
    go_wp2_with fail
    refine (B1 _).mono ?_; rintro e w' ⟨rfl, rfl⟩
    go_wp2_with fail
    go_ret
    exact ⟨ret_b (by rw [E.out]; rfl), Up.alloc _ _⟩
  cases b2
  · go_enter Tryz.func64, Tryz.ntmps64
    go_wp2_with fail
    refine (B1 _).mono ?_; rintro e w' ⟨rfl, rfl⟩
    go_wp2_with fail
    refine (B2 _).mono ?_; rintro e w' ⟨rfl, rfl⟩
    go_wp2_with fail
    go_ret
    exact ⟨ret_b (by rw [E.out]; rfl), Up.alloc _ _⟩
  cases b3
  · go_enter Tryz.func64, Tryz.ntmps64
    go_wp2_with fail
    refine (B1 _).mono ?_; rintro e w' ⟨rfl, rfl⟩
    go_wp2_with fail
    refine (B2 _).mono ?_; rintro e w' ⟨rfl, rfl⟩
    go_wp2_with fail
    refine (B3 _).mono ?_; rintro e w' ⟨rfl, rfl⟩
    go_wp2_with fail
    go_ret
    exact ⟨ret_b (by rw [E.out]; rfl), Up.alloc _ _⟩
  cases b4
  · go_enter Tryz.func64, Tryz.ntmps64
    go_wp2_with fail
    refine (B1 _).mono ?_; rintro e w' ⟨rfl, rfl⟩
    go_wp2_with fail
    refine (B2 _).mono ?_; rintro e w' ⟨rfl, rfl⟩
    go_wp2_with fail
    refine (B3 _).mono ?_; rintro e w' ⟨rfl, rfl⟩
    go_wp2_with fail
    refine (B4 _).mono ?_; rintro e w' ⟨rfl, rfl⟩
    go_wp2_with fail
    go_ret
    exact ⟨ret_b (by rw [E.out]; rfl), Up.alloc _ _⟩
  cases b5
  · go_enter Tryz.func64, Tryz.ntmps64
    go_wp2_with fail
    refine (B1 _).mono ?_; rintro e w' ⟨rfl, rfl⟩
    go_wp2_with fail
    refine (B2 _).mono ?_; rintro e w' ⟨rfl, rfl⟩
    go_wp2_with fail
    refine (B3 _).mono ?_; rintro e w' ⟨rfl, rfl⟩
    go_wp2_with fail
    refine (B4 _).mono ?_; rintro e w' ⟨rfl, rfl⟩
    go_wp2_with fail
    refine (B5 _).mono ?_; rintro e w' ⟨rfl, rfl⟩
    go_wp2_with fail
    go_ret
    exact ⟨ret_b (by rw [E.out]; rfl), Up.alloc _ _⟩
  · by_cases hu : u = 0
    · by_cases hs : s = 0
      all_goals
        go_enter Tryz.func64, Tryz.ntmps64
        go_wp2_with fail
        refine (B1 _).mono ?_; rintro e w' ⟨rfl, rfl⟩
        go_wp2_with fail
        refine (B2 _).mono ?_; rintro e w' ⟨rfl, rfl⟩
        go_wp2_with fail
        refine (B3 _).mono ?_; rintro e w' ⟨rfl, rfl⟩
        go_wp2_with fail
        refine (B4 _).mono ?_; rintro e w' ⟨rfl, rfl⟩
        go_wp2_with fail
        refine (B5 _).mono ?_; rintro e w' ⟨rfl, rfl⟩
        go_wp2_with fail
        go_ret
        exact ⟨ret_b (by rw [E.out, Bool.eq_iff_iff]; simp <;> omega), Up.alloc _ _⟩
    · by_cases hy : u = y
      · by_cases hs : s = 0
        all_goals
          go_enter Tryz.func64, Tryz.ntmps64
          go_wp2_with fail
          refine (B1 _).mono ?_; rintro e w' ⟨rfl, rfl⟩
          go_wp2_with fail
          refine (B2 _).mono ?_; rintro e w' ⟨rfl, rfl⟩
          go_wp2_with fail
          refine (B3 _).mono ?_; rintro e w' ⟨rfl, rfl⟩
          go_wp2_with fail
          refine (B4 _).mono ?_; rintro e w' ⟨rfl, rfl⟩
          go_wp2_with fail
          refine (B5 _).mono ?_; rintro e w' ⟨rfl, rfl⟩
          go_wp2_with fail
          go_ret
          exact ⟨ret_b (by rw [E.out, Bool.eq_iff_iff]; simp <;> omega), Up.alloc _ _⟩
      · go_enter Tryz.func64, Tryz.ntmps64
        go_wp2_with fail
        refine (B1 _).mono ?_; rintro e w' ⟨rfl, rfl⟩
        go_wp2_with fail
        refine (B2 _).mono ?_; rintro e w' ⟨rfl, rfl⟩
        go_wp2_with fail
        refine (B3 _).mono ?_; rintro e w' ⟨rfl, rfl⟩
        go_wp2_with fail
        refine (B4 _).mono ?_; rintro e w' ⟨rfl, rfl⟩
        go_wp2_with fail
        refine (B5 _).mono ?_; rintro e w' ⟨rfl, rfl⟩
        go_wp2_with fail
        go_ret
        exact ⟨ret_b (by rw [E.out, Bool.eq_iff_iff]; simp <;> omega), Up.alloc _ _⟩
/-- How many bytes a body has. -/
def bodyI (u s l t y c z : Int) : Int := t * (z + 1) + y * 6 + c + l * (z + 4) + s + u
set_option maxRecDepth 100000 in
theorem bodyI_bd {v u s l t y c : Int} (r : rightH v u s l t y c = true) {z : Int} (z0 : z = 4 ∨ z = 8) : 0 ≤ bodyI u s l t y c z ∧ bodyI u s l t y c z ≤ 200000 := by
  have := rightH_true.1 r
  unfold bodyI
  rcases z0 with rfl | rfl <;> omega

set_option maxRecDepth 100000 in
set_option maxHeartbeats 1000000 in
theorem body_any (v u s l t y c z : Int) (w : World) (hu : 0 ≤ u ∧ u ≤ 257) (hs : 0 ≤ s ∧ s ≤ 257) (hl : 0 ≤ l ∧ l ≤ 5001) (ht : 0 ≤ t ∧ t ≤ 5001) (hy : 0 ≤ y ∧ y ≤ 257) (hc : 0 ≤ c ∧ c ≤ 257) (hz : z = 4 ∨ z = 8) :
    Calls Tryz.prog 59 #[hv v u s l t y c, .int .i64 z] w fun e w' => e = .returned (.int .i64 (bodyI u s l t y c z)) ∧ Up w w' := by
  obtain ⟨u0, u1⟩ := hu; obtain ⟨s0, s1⟩ := hs; obtain ⟨l0, l1⟩ := hl; obtain ⟨t0, t1⟩ := ht; obtain ⟨y0, y1⟩ := hy; obtain ⟨c0, c1⟩ := hc
  have E := Lib.hid (show bodyI u s l t y c z = t * (z + 1) + y * 6 + c + l * (z + 4) + s + u from rfl)
  rcases hz with rfl | rfl
  · go_enter Tryz.func59, Tryz.ntmps59
    go_wp2_with fail
    go_ret
    exact ⟨ret_i (by rw [E.out]; rfl), Up.alloc _ _⟩
  · go_enter Tryz.func59, Tryz.ntmps59
    go_wp2_with fail
    go_ret
    exact ⟨ret_i (by rw [E.out]; rfl), Up.alloc _ _⟩
/-- A new block of zeroes. -/
abbrev hzero (w : World) : World := w.alloc (.cells #[.int .i64 0, .int .i64 0, .int .i64 0, .int .i64 0, .int .i64 0, .int .i64 0, .int .i64 0] 90)
/-- The world behind seven stores into one block. -/
abbrev seven (w : World) (b : Nat) (v0 v1 v2 v3 v4 v5 v6 : Value) : World := ((((((w.setCell ⟨b, 0, none⟩ v0).setCell ⟨b, 1, none⟩ v1).setCell ⟨b, 2, none⟩ v2).setCell ⟨b, 3, none⟩ v3).setCell ⟨b, 4, none⟩ v4).setCell ⟨b, 5, none⟩ v5).setCell ⟨b, 6, none⟩ v6
set_option maxRecDepth 100000 in
theorem Up.seven {w w' : World} (u : Up w w') {b : Nat} (hb : w.heap.size ≤ b) (v0 v1 v2 v3 v4 v5 v6 : Value) : Up w (seven w' b v0 v1 v2 v3 v4 v5 v6) :=
  ((((((u.setCell' (p := ⟨b, 0, none⟩) hb v0).setCell' (p := ⟨b, 1, none⟩) hb v1).setCell' (p := ⟨b, 2, none⟩) hb v2).setCell' (p := ⟨b, 3, none⟩) hb v3).setCell' (p := ⟨b, 4, none⟩) hb v4).setCell' (p := ⟨b, 5, none⟩) hb v5).setCell' (p := ⟨b, 6, none⟩) hb v6
end Go.Proofs.YtaljddoenjgbfaaGreat
/-
  The program's header: version, mark, in plain words.
-/
namespace Go.Proofs.YtaljddoenjgbfaaGreat
open Go.ChangeShapes Go.WideShapes Go.ChangeAt Go.RowKit Lc

/-- The version's byte. -/
def markB (v : Int) : UInt8 := if v = 1 then 0 else UInt8.ofNat (48 + v.toNat)
/-- The version that a byte marks, or 0. -/
def versI (b : UInt8) : Int := if b = 0 then 1 else if b = 50 then 2 else if b = 51 then 3 else if b = 52 then 4 else 0
set_option maxRecDepth 100000 in
theorem versI_mark {v : Int} (h1 : 1 ≤ v) (h4 : v ≤ 4) : versI (markB v) = v := by
  have : v = 1 ∨ v = 2 ∨ v = 3 ∨ v = 4 := by omega
  rcases this with rfl | rfl | rfl | rfl <;> decide

set_option maxRecDepth 100000 in
theorem hmark_any (v : Int) (w : World) (h1 : 1 ≤ v) (h4 : v ≤ 4) : Calls Tryz.prog 65 #[.int .i64 v] w fun e w' => e = .returned (.string ⟨#[markB v]⟩) ∧ w = w' := by
  have : v = 1 ∨ v = 2 ∨ v = 3 ∨ v = 4 := by omega
  rcases this with rfl | rfl | rfl | rfl
  all_goals
    go_enter Tryz.func65, Tryz.ntmps65
    go_wp2_with fail
    go_ret
    exact ⟨rfl, rfl⟩

set_option maxRecDepth 100000 in
theorem version_any (b : UInt8) (w : World) : Calls Tryz.prog 87 #[.int .u8 b.toNat] w fun e w' => e = .returned (.int .i64 (versI b)) ∧ w = w' := by
  by_cases h0 : b = 0
  · subst h0
    go_enter Tryz.func87, Tryz.ntmps87
    go_wp2_with fail
    go_ret
    exact ⟨rfl, rfl⟩
  by_cases h2 : b = 50
  · subst h2
    go_enter Tryz.func87, Tryz.ntmps87
    go_wp2_with fail
    go_ret
    exact ⟨rfl, rfl⟩
  by_cases h3 : b = 51
  · subst h3
    go_enter Tryz.func87, Tryz.ntmps87
    go_wp2_with fail
    go_ret
    exact ⟨rfl, rfl⟩
  by_cases h4 : b = 52
  · subst h4
    go_enter Tryz.func87, Tryz.ntmps87
    go_wp2_with fail
    go_ret
    exact ⟨rfl, rfl⟩
  have E : Hid (versI b = 0) := by unfold Hid versI; simp [h0, h2, h3, h4]
  have n0 : ¬ b.toNat = 0 := fun e => h0 (UInt8.toNat_inj.1 e)
  have n2 : ¬ b.toNat = 50 := fun e => h2 (UInt8.toNat_inj.1 e)
  have n3 : ¬ b.toNat = 51 := fun e => h3 (UInt8.toNat_inj.1 e)
  have n4 : ¬ b.toNat = 52 := fun e => h4 (UInt8.toNat_inj.1 e)
  have lt := b.toNat_lt
  generalize b.toNat = x at *
  clear h0 h2 h3 h4
  go_enter Tryz.func87, Tryz.ntmps87
  go_wp2_with fail
  go_ret
  exact ⟨ret_i E.out.symm, rfl⟩
end Go.Proofs.YtaljddoenjgbfaaGreat
/-
  The program's header: count, Decode, in plain words.
-/
namespace Go.Proofs.YtaljddoenjgbfaaGreat
open Go.ChangeShapes Go.WideShapes Go.ChangeAt Go.RowKit Lc

/-- The number that stands k places behind the twentieth byte. -/
def cntI (l : List UInt8) (k : Nat) : Int := (beN ((l.drop (20 + 4 * k)).take 4) : Nat)
set_option maxRecDepth 100000 in
theorem cntI_bd (l : List UInt8) (k : Nat) : 0 ≤ cntI l k ∧ cntI l k < 4294967296 := by
  have h := beN_take_lt (l.drop (20 + 4 * k)) 4 4 (Nat.le_refl _)
  unfold cntI; omega
set_option maxRecDepth 100000 in
theorem cntI_def (l : List UInt8) (k : Nat) : cntI l k = (beN ((l.drop (20 + 4 * k)).take 4) : Nat) := rfl

set_option maxRecDepth 100000 in
set_option maxHeartbeats 1000000 in
theorem count_any (A : Option Addr) (l : List UInt8) (c k : Nat) (w : World) (hc : l.length ≤ c) (hcm : c ≤ maxLen) (h : 44 ≤ l.length) (hk : k < 6) (hr : Rd w A l) :
    Calls Tryz.prog 88 #[.slice A l.length c, .int .i64 k] w fun e w' => e = .returned (.int .i64 (cntI l k)) ∧ w = w' := by
  have C := uint_yes A l c (20 + 4 * k) 4 w hc hcm (by omega) (by omega) (by omega) hr
  obtain ⟨b0, b1⟩ := cntI_bd l k
  rw [← cntI_def] at C
  generalize cntI l k = x at *
  have C : ∀ K : Int, K = ((20 + 4 * k : Nat) : Int) → Calls Tryz.prog 100 #[.slice A l.length c, .int .i64 K, .int .i64 4] w fun e w' => e = .returned (.tuple #[.int .u64 x, .bool true]) ∧ w = w' := by
    rintro K rfl; exact C
  replace C := Lib.hid C
  clear hr
  go_enter Tryz.func88, Tryz.ntmps88
  go_wp2_with fail
  refine (C.out _ (by omega)).mono ?_; rintro e w' ⟨rfl, rfl⟩
  go_wp2_with fail
  go_ret
  exact ⟨rfl, rfl⟩

/-- The first four bytes. -/
def tz : List UInt8 := [84, 90, 105, 102]
set_option maxRecDepth 100000 in
theorem text_ne {X : ByteArray} {l : List UInt8} (h : X.data.toList ≠ l) : (X.toList == l) = false := by
  rw [beq_eq_false_iff_ne]
  intro e
  rw [ByteArray.toList_eq] at e
  exact h e
set_option maxRecDepth 100000 in
theorem str_eq {x l : List UInt8} (h : x = l) : ((str x).toList == l) = true := by
  rw [beq_iff_eq, ByteArray.toList_eq]; exact h
set_option maxRecDepth 100000 in
theorem str_ne {x l : List UInt8} (h : x ≠ l) : ((str x).toList == l) = false := text_ne h
set_option maxRecDepth 100000 in
set_option maxHeartbeats 1000000 in
theorem decode_short (A : Option Addr) (l : List UInt8) (c : Nat) (w : World) (h : l.length < 44) :
    Calls Tryz.prog 69 #[.slice A l.length c] w fun e w' => e = .returned (.tuple #[hv 0 0 0 0 0 0 0, .int .i64 5]) ∧ Up w w' := by
  go_enter Tryz.func69, Tryz.ntmps69
  go_wp2_with fail
  refine bodyPost_ret (v := .tuple #[hv 0 0 0 0 0 0 0, .int .i64 5]) (by simp [results, Tryz.results69, go_sem]) rfl ?_
  exact ⟨rfl, Up.alloc _ _⟩

set_option maxRecDepth 100000 in
set_option maxHeartbeats 1000000 in
theorem decode_form (A : Option Addr) (l : List UInt8) (c : Nat) (w : World) (hc : l.length ≤ c) (h : 44 ≤ l.length) (hr : Rd w A l) (hz : l.take 4 ≠ tz) :
    Calls Tryz.prog 69 #[.slice A l.length c] w fun e w' => e = .returned (.tuple #[hv 0 0 0 0 0 0 0, .int .i64 4]) ∧ Up w w' := by
  obtain ⟨b, o, rfl, _⟩ := hr (by omega)
  have V1 := convert_at (hzero w) b o 4 c (l.take 4) (by rw [List.length_take]; omega) ((hr.up (Up.alloc w _)).take 4)
  have hne : ((str (l.take 4)).toList == [84, 90, 105, 102]) = false := str_ne hz
  generalize str (l.take 4) = z at *
  go_enter Tryz.func69, Tryz.ntmps69
  go_wp2_with fail
  refine bodyPost_ret (v := .tuple #[hv 0 0 0 0 0 0 0, .int .i64 4]) (by simp [results, Tryz.results69, go_sem]) rfl ?_
  exact ⟨rfl, Up.alloc _ _⟩

/-- The numbers that these bytes tell, right or not. -/
def rawB (l : List UInt8) : Bool := rightH (versI (l.getD 4 0)) (cntI l 0) (cntI l 1) (cntI l 2) (cntI l 3) (cntI l 4) (cntI l 5)

set_option maxRecDepth 100000 in
set_option maxHeartbeats 2000000 in
theorem decode_wrong (A : Option Addr) (l : List UInt8) (c : Nat) (w : World) (hc : l.length ≤ c) (hcm : c ≤ maxLen) (h : 44 ≤ l.length) (hr : Rd w A l) (hz : l.take 4 = tz) (hw : rawB l = false) :
    Calls Tryz.prog 69 #[.slice A l.length c] w fun e w' => e = .returned (.tuple #[hv 0 0 0 0 0 0 0, .int .i64 4]) ∧ Up w w' := by
  obtain ⟨b, o, rfl, hcell⟩ := hr (by omega)
  have c4 := (Up.alloc w (.cells #[.int .i64 0, .int .i64 0, .int .i64 0, .int .i64 0, .int .i64 0, .int .i64 0, .int .i64 0] 90)).cell (hcell 4 (by omega))
  have V1 := convert_at (hzero w) b o 4 c (l.take 4) (by rw [List.length_take]; omega) ((hr.up (Up.alloc w _)).take 4)
  have heq : ((str (l.take 4)).toList == [84, 90, 105, 102]) = true := str_eq hz
  have D0 := Lib.hid fun w' (u : Up w w') => version_any (l.getD 4 0) w'
  have D := fun k (hk : k < 6) w' (u : Up w w') => count_any (some ⟨b, o, none⟩) l c k w' hc hcm h hk (hr.up u)
  have D1 := Lib.hid (D 0 (by decide)); have D2 := Lib.hid (D 1 (by decide)); have D3 := Lib.hid (D 2 (by decide)); have D4 := Lib.hid (D 3 (by decide)); have D5 := Lib.hid (D 4 (by decide)); have D6 := Lib.hid (D 5 (by decide))
  clear hcell hr hz D
  have R := fun w => hright_any (versI (l.getD 4 0)) (cntI l 0) (cntI l 1) (cntI l 2) (cntI l 3) (cntI l 4) (cntI l 5) w
  rw [show rightH (versI (l.getD 4 0)) (cntI l 0) (cntI l 1) (cntI l 2) (cntI l 3) (cntI l 4) (cntI l 5) = false from hw] at R
  replace R := Lib.hid R
  clear hw
  generalize str (l.take 4) = z at *
  generalize (l.getD 4 0).toNat = x at *
  generalize versI (l.getD 4 0) = n0 at *
  generalize cntI l 0 = n1 at *
  generalize cntI l 1 = n2 at *
  generalize cntI l 2 = n3 at *
  generalize cntI l 3 = n4 at *
  generalize cntI l 4 = n5 at *
  generalize cntI l 5 = n6 at *
  go_enter Tryz.func69, Tryz.ntmps69
  go_wp2_with fail
  refine (D0.out _ (Up.alloc _ _)).mono ?_; rintro e w' ⟨rfl, rfl⟩
  clear c4 V1 heq
  have F0 := Lib.hid (Free.new w #[.int .i64 0, .int .i64 0, .int .i64 0, .int .i64 0, .int .i64 0, .int .i64 0, .int .i64 0] 90)
  have B0 := Lib.hid (HBox.new w 0 0 0 0 0 0 0 90)
  have U0 := Lib.hid (Up.alloc w (.cells #[.int .i64 0, .int .i64 0, .int .i64 0, .int .i64 0, .int .i64 0, .int .i64 0, .int .i64 0] 90))
  generalize hW : w.alloc (.cells #[.int .i64 0, .int .i64 0, .int .i64 0, .int .i64 0, .int .i64 0, .int .i64 0, .int .i64 0] 90) = W at *
  have Z : W.heap.size = w.heap.size + 1 := by rw [← hW, World.size_alloc]
  clear hW
  go_wp2_with fail
  refine (D1.out _ U0.out).mono ?_; rintro e w' ⟨rfl, rfl⟩
  go_wp2_with fail
  refine (D2.out _ U0.out).mono ?_; rintro e w' ⟨rfl, rfl⟩
  go_wp2_with fail
  refine (D3.out _ U0.out).mono ?_; rintro e w' ⟨rfl, rfl⟩
  go_wp2_with fail
  refine (D4.out _ U0.out).mono ?_; rintro e w' ⟨rfl, rfl⟩
  go_wp2_with fail
  refine (D5.out _ U0.out).mono ?_; rintro e w' ⟨rfl, rfl⟩
  go_wp2_with fail
  refine (D6.out _ U0.out).mono ?_; rintro e w' ⟨rfl, rfl⟩
  clear D0 D1 D2 D3 D4 D5 D6
  go_wp2_with fail
  refine (R.out _).mono ?_; rintro e w1 ⟨rfl, u1⟩
  have X := Lib.hid ((HBox.new W n0 n1 n2 n3 n4 n5 n6 90).up u1)
  have U := Lib.hid ((Up.alloc W (.cells #[.int .i64 n0, .int .i64 n1, .int .i64 n2, .int .i64 n3, .int .i64 n4, .int .i64 n5, .int .i64 n6] 90)).trans u1)
  clear u1
  obtain ⟨f, f'⟩ := Lib.hid (F0.out.up U.out)
  have fz := fun j => f' j
  obtain ⟨a0, a1, a2, a3, a4, a5, a6⟩ := B0.out.up U.out
  obtain ⟨b0, b1, b2, b3, b4, b5, b6⟩ := X.out
  rw [Z] at b0 b1 b2 b3 b4 b5 b6
  clear f f'
  have g0 := fz 0; have g1 := fz 1; have g2 := fz 2; have g3 := fz 3; have g4 := fz 4; have g5 := fz 5; have g6 := fz 6
  clear fz F0 B0 X
  go_wp2_with fail
  refine bodyPost_ret (v := .tuple #[hv 0 0 0 0 0 0 0, .int .i64 4]) (by simp [results, Tryz.results69, go_sem, a0, a1, a2, a3, a4, a5, a6]) rfl ?_
  exact ⟨rfl, Up.seven (U0.out.trans U.out) (Nat.le_refl _) _ _ _ _ _ _ _⟩

set_option maxRecDepth 100000 in
set_option maxHeartbeats 2000000 in
theorem decode_right (A : Option Addr) (l : List UInt8) (c : Nat) (w : World) (hc : l.length ≤ c) (hcm : c ≤ maxLen) (h : 44 ≤ l.length) (hr : Rd w A l) (hz : l.take 4 = tz) (hw : rawB l = true) :
    Calls Tryz.prog 69 #[.slice A l.length c] w fun e w' => e = .returned (.tuple #[hv (versI (l.getD 4 0)) (cntI l 0) (cntI l 1) (cntI l 2) (cntI l 3) (cntI l 4) (cntI l 5), .int .i64 0]) ∧ Up w w' := by
  obtain ⟨b, o, rfl, hcell⟩ := hr (by omega)
  have c4 := (Up.alloc w (.cells #[.int .i64 0, .int .i64 0, .int .i64 0, .int .i64 0, .int .i64 0, .int .i64 0, .int .i64 0] 90)).cell (hcell 4 (by omega))
  have V1 := convert_at (hzero w) b o 4 c (l.take 4) (by rw [List.length_take]; omega) ((hr.up (Up.alloc w _)).take 4)
  have heq : ((str (l.take 4)).toList == [84, 90, 105, 102]) = true := str_eq hz
  have D0 := Lib.hid fun w' (u : Up w w') => version_any (l.getD 4 0) w'
  have D := fun k (hk : k < 6) w' (u : Up w w') => count_any (some ⟨b, o, none⟩) l c k w' hc hcm h hk (hr.up u)
  have D1 := Lib.hid (D 0 (by decide)); have D2 := Lib.hid (D 1 (by decide)); have D3 := Lib.hid (D 2 (by decide)); have D4 := Lib.hid (D 3 (by decide)); have D5 := Lib.hid (D 4 (by decide)); have D6 := Lib.hid (D 5 (by decide))
  clear hcell hr hz D
  have R := fun w => hright_any (versI (l.getD 4 0)) (cntI l 0) (cntI l 1) (cntI l 2) (cntI l 3) (cntI l 4) (cntI l 5) w
  rw [show rightH (versI (l.getD 4 0)) (cntI l 0) (cntI l 1) (cntI l 2) (cntI l 3) (cntI l 4) (cntI l 5) = true from hw] at R
  replace R := Lib.hid R
  clear hw
  generalize str (l.take 4) = z at *
  generalize (l.getD 4 0).toNat = x at *
  generalize versI (l.getD 4 0) = n0 at *
  generalize cntI l 0 = n1 at *
  generalize cntI l 1 = n2 at *
  generalize cntI l 2 = n3 at *
  generalize cntI l 3 = n4 at *
  generalize cntI l 4 = n5 at *
  generalize cntI l 5 = n6 at *
  go_enter Tryz.func69, Tryz.ntmps69
  go_wp2_with fail
  refine (D0.out _ (Up.alloc _ _)).mono ?_; rintro e w' ⟨rfl, rfl⟩
  clear c4 V1 heq
  have F0 := Lib.hid (Free.new w #[.int .i64 0, .int .i64 0, .int .i64 0, .int .i64 0, .int .i64 0, .int .i64 0, .int .i64 0] 90)
  have B0 := Lib.hid (HBox.new w 0 0 0 0 0 0 0 90)
  have U0 := Lib.hid (Up.alloc w (.cells #[.int .i64 0, .int .i64 0, .int .i64 0, .int .i64 0, .int .i64 0, .int .i64 0, .int .i64 0] 90))
  generalize hW : w.alloc (.cells #[.int .i64 0, .int .i64 0, .int .i64 0, .int .i64 0, .int .i64 0, .int .i64 0, .int .i64 0] 90) = W at *
  have Z : W.heap.size = w.heap.size + 1 := by rw [← hW, World.size_alloc]
  clear hW
  go_wp2_with fail
  refine (D1.out _ U0.out).mono ?_; rintro e w' ⟨rfl, rfl⟩
  go_wp2_with fail
  refine (D2.out _ U0.out).mono ?_; rintro e w' ⟨rfl, rfl⟩
  go_wp2_with fail
  refine (D3.out _ U0.out).mono ?_; rintro e w' ⟨rfl, rfl⟩
  go_wp2_with fail
  refine (D4.out _ U0.out).mono ?_; rintro e w' ⟨rfl, rfl⟩
  go_wp2_with fail
  refine (D5.out _ U0.out).mono ?_; rintro e w' ⟨rfl, rfl⟩
  go_wp2_with fail
  refine (D6.out _ U0.out).mono ?_; rintro e w' ⟨rfl, rfl⟩
  clear D0 D1 D2 D3 D4 D5 D6
  go_wp2_with fail
  refine (R.out _).mono ?_; rintro e w1 ⟨rfl, u1⟩
  have X := Lib.hid ((HBox.new W n0 n1 n2 n3 n4 n5 n6 90).up u1)
  have U := Lib.hid ((Up.alloc W (.cells #[.int .i64 n0, .int .i64 n1, .int .i64 n2, .int .i64 n3, .int .i64 n4, .int .i64 n5, .int .i64 n6] 90)).trans u1)
  clear u1
  obtain ⟨f, f'⟩ := Lib.hid (F0.out.up U.out)
  have fz := fun j => f' j
  obtain ⟨a0, a1, a2, a3, a4, a5, a6⟩ := B0.out.up U.out
  obtain ⟨b0, b1, b2, b3, b4, b5, b6⟩ := X.out
  rw [Z] at b0 b1 b2 b3 b4 b5 b6
  clear f f'
  have g0 := fz 0; have g1 := fz 1; have g2 := fz 2; have g3 := fz 3; have g4 := fz 4; have g5 := fz 5; have g6 := fz 6
  clear fz F0 B0 X
  go_wp2_with fail
  refine bodyPost_ret (v := .tuple #[hv n0 n1 n2 n3 n4 n5 n6, .int .i64 0]) (by simp [results, Tryz.results69, go_sem, a0, a1, a2, a3, a4, a5, a6]) rfl ?_
  exact ⟨rfl, Up.seven (U0.out.trans U.out) (Nat.le_refl _) _ _ _ _ _ _ _⟩

/-- Whether these bytes begin with a right header. -/
def isH (l : List UInt8) : Bool := decide (44 ≤ l.length) && decide (l.take 4 = tz) && rawB l
/-- What reading them tells: 0, 5 of too few, 4 of a wrong form. -/
def errH (l : List UInt8) : Int := if l.length < 44 then 5 else if isH l then 0 else 4
/-- The numbers that are read, or zeroes. -/
def decH (l : List UInt8) : Value := if isH l then hv (versI (l.getD 4 0)) (cntI l 0) (cntI l 1) (cntI l 2) (cntI l 3) (cntI l 4) (cntI l 5) else hv 0 0 0 0 0 0 0
set_option maxRecDepth 100000 in
theorem isH_short {l : List UInt8} (h : l.length < 44) : isH l = false := by
  unfold isH; simp; omega
set_option maxRecDepth 100000 in
theorem isH_form {l : List UInt8} (h : l.take 4 ≠ tz) : isH l = false := by
  unfold isH; simp [h]
set_option maxRecDepth 100000 in
theorem isH_raw {l : List UInt8} (h : 44 ≤ l.length) (g : l.take 4 = tz) : isH l = rawB l := by
  unfold isH; simp [h, g]
set_option maxRecDepth 100000 in
theorem decode_any (A : Option Addr) (l : List UInt8) (c : Nat) (w : World) (hc : l.length ≤ c) (hcm : c ≤ maxLen) (hr : Rd w A l) :
    Calls Tryz.prog 69 #[.slice A l.length c] w fun e w' => e = .returned (.tuple #[decH l, .int .i64 (errH l)]) ∧ Up w w' := by
  unfold decH errH
  by_cases h : l.length < 44
  · rw [isH_short h, if_pos h]
    exact decode_short A l c w h
  · rw [if_neg h]
    by_cases g : l.take 4 = tz
    · rw [isH_raw (by omega) g]
      cases r : rawB l
      · exact decode_wrong A l c w hc hcm (by omega) hr g r
      · exact decode_right A l c w hc hcm (by omega) hr g r
    · rw [isH_form g]
      exact decode_form A l c w hc (by omega) hr g
end Go.Proofs.YtaljddoenjgbfaaGreat
