/-
  What the listed variables hold where texts are made; the world behind a call that makes memory; a boxed civil time.
-/
import Derived.Test.YtdmobmblkbmkhaaDoorLcTab
import Derived.Test.YtdmobmblkbmkhaaDoorLcCal
import Derived.Lib.ItoaNum
import Derived.Lib.SmallJoins
import Derived.Stop.LaidErr
import Derived.Below
namespace Go.Proofs.YtdmobmblkbmkhaaDoor
open Go.ChangeShapes Go.WideShapes Go.ChangeAt Go.RowKit Lc

/-- What was there is as it was; the rest is new. -/
def Up (w w' : World) : Prop := Below w.heap.size w w'
theorem Up.refl (w : World) : Up w w := Below.refl _ _
theorem Up.trans {a b c : World} (h : Up a b) (g : Up b c) : Up a c := Below.trans h (Below.mono g (Below.size h))
theorem Up.drewN (w : World) (n : Nat) : Up w (w.drewN n) := Joins.below_draws _ _ _
theorem Up.of_dr {w w' : World} (h : Dr w w') : Up w w' := by obtain ⟨n, rfl⟩ := h; exact Up.drewN w n
theorem Up.alloc (w : World) (o : Obj) : Up w (w.alloc o) := Joins.below_alloc1 w o
theorem Up.alloc' {w w' : World} (h : Up w w') (o : Obj) : Up w (w'.alloc o) := h.trans (Up.alloc _ _)
theorem Up.drewN' {w w' : World} (h : Up w w') (n : Nat) : Up w (w'.drewN n) := h.trans (Up.drewN _ _)
theorem Up.setCell' {w w' : World} (h : Up w w') {p : Addr} (hp : w.heap.size ≤ p.block) (u : Value) : Up w (w'.setCell p u) := Below.setCell h hp u
theorem Up.size {w w' : World} (h : Up w w') : w.heap.size ≤ w'.heap.size := Below.size h
theorem cell_lt {w : World} {b o : Nat} {v : Value} (h : w.cell? ⟨b, o, none⟩ = some v) : b < w.heap.size := by
  rcases Nat.lt_or_ge b w.heap.size with k | k
  · exact k
  · simp [World.cell?, Array.getElem?_eq_none k] at h
theorem Up.cell {w w' : World} (u : Up w w') {b o : Nat} {v : Value} (h : w.cell? ⟨b, o, none⟩ = some v) : w'.cell? ⟨b, o, none⟩ = some v := by
  rw [Below.cell u (p := ⟨b, o, none⟩) (cell_lt h)]; exact h

/-- The two tables that are read. -/
def Tabs (w : World) : Prop := Tab w ∧ Lib.TabIs Tryd.prog w "internal/strconv.uint64pow10" .u64 Lib.pow10Tab
theorem gPow : Tryd.prog.globalNamed "internal/strconv.uint64pow10" = some 1 := by kernel_rfl
theorem tPow : (Tryd.prog.globals[1]?).map (·.type) = some 99 := by kernel_rfl
theorem Tab.up {w w' : World} (h : Tab w) (u : Up w w') : Tab w' := fun i hi => u.cell (h i hi)
theorem Tabs.up {w w' : World} (h : Tabs w) (u : Up w w') : Tabs w' := by
  refine ⟨fun i hi => u.cell (h.1 i hi), ?_⟩
  exact Joins.tab_stays gPow h.2 (B := w.heap.size) u (Nat.le_refl _)

/-- What the rows list: two tables of bits, the powers of ten, the lengths of months. -/
abbrev laidD : List (String × DataW Unit) := [("math/bits.deBruijn32tab", Rows.laid_math_bits_deBruijn32tab), ("math/bits.deBruijn64tab", Rows.laid_math_bits_deBruijn64tab), ("internal/strconv.uint64pow10", Rows.laid_internal_strconv_uint64pow10), ("longcase/civil.lengths", Rows.laid_longcase_civil_lengths)]
theorem tabs_of_laid {w : World} (h : laidMetH Tryd.prog laidD w) : Tabs w := by
  rw [MakeChecks.laidMetH_plain _ _ _ (by kernel_rfl)] at h
  have h2 := h.tail.tail
  refine ⟨tab_of_head h2.tail, ?_⟩
  exact Lib.tabIs_of_head gPow tPow Tryd.underlying99 Tryd.underlying85 (by kernel_rfl) (by kernel_rfl) h2
theorem door_metD (os : Os) (args : Array Value) : laidMetH Tryd.prog laidD ((World.doorLaid Tryd.prog 400 os).forCall (fun _ _ => 0) ⟨#[], args, []⟩).memory :=
  laidMetH_of_parts3 (fuel := 8) (laidMet_of_run' 8 (by kernel_rfl) (by kernel_rfl)) (by kernel_rfl) (by kernel_rfl)

/-- Block b holds this civil time. -/
def Box (w : World) (b : Nat) (y m d h i s : Int) : Prop :=
  w.cell? ⟨b, 0, none⟩ = some (.int .i64 y) ∧ w.cell? ⟨b, 1, none⟩ = some (.int .i64 m) ∧ w.cell? ⟨b, 2, none⟩ = some (.int .i64 d) ∧ w.cell? ⟨b, 3, none⟩ = some (.int .i64 h) ∧ w.cell? ⟨b, 4, none⟩ = some (.int .i64 i) ∧ w.cell? ⟨b, 5, none⟩ = some (.int .i64 s)
theorem Box.up {w w' : World} {b : Nat} {y m d h i s : Int} (x : Box w b y m d h i s) (u : Up w w') : Box w' b y m d h i s :=
  ⟨u.cell x.1, u.cell x.2.1, u.cell x.2.2.1, u.cell x.2.2.2.1, u.cell x.2.2.2.2.1, u.cell x.2.2.2.2.2⟩
theorem Box.new (w : World) (y m d h i s : Int) (t : TypeId) : Box (w.alloc (.cells #[.int .i64 y, .int .i64 m, .int .i64 d, .int .i64 h, .int .i64 i, .int .i64 s] t)) w.heap.size y m d h i s := by
  unfold Box; simp

theorem Box.new2 (w : World) (o : Obj) (y m d h i s : Int) (t : TypeId) : Box ((w.alloc o).alloc (.cells #[.int .i64 y, .int .i64 m, .int .i64 d, .int .i64 h, .int .i64 i, .int .i64 s] t)) (w.heap.size + 1) y m d h i s := by
  have := Box.new (w.alloc o) y m d h i s t
  rw [World.size_alloc] at this; exact this
/-- The world behind six stores into one block. -/
abbrev sixed (w : World) (b : Nat) (v0 v1 v2 v3 v4 v5 : Value) : World := (((((w.setCell ⟨b, 0, none⟩ v0).setCell ⟨b, 1, none⟩ v1).setCell ⟨b, 2, none⟩ v2).setCell ⟨b, 3, none⟩ v3).setCell ⟨b, 4, none⟩ v4).setCell ⟨b, 5, none⟩ v5
theorem Up.six {w w' : World} (u : Up w w') {b : Nat} (hb : w.heap.size ≤ b) (v0 v1 v2 v3 v4 v5 : Value) : Up w (sixed w' b v0 v1 v2 v3 v4 v5) :=
  (((((u.setCell' (p := ⟨b, 0, none⟩) hb v0).setCell' (p := ⟨b, 1, none⟩) hb v1).setCell' (p := ⟨b, 2, none⟩) hb v2).setCell' (p := ⟨b, 3, none⟩) hb v3).setCell' (p := ⟨b, 4, none⟩) hb v4).setCell' (p := ⟨b, 5, none⟩) hb v5
/-- A new block of zeroes. -/
abbrev zeros (w : World) : World := w.alloc (.cells #[.int .i64 0, .int .i64 0, .int .i64 0, .int .i64 0, .int .i64 0, .int .i64 0] 23)
theorem Up.put (w : World) (v0 v1 v2 v3 v4 v5 : Value) : Up w (sixed (zeros w) w.heap.size v0 v1 v2 v3 v4 v5) := Up.six (Up.alloc _ _) (Nat.le_refl _) _ _ _ _ _ _
theorem Box.put (w : World) (y m d h i s : Int) : Box (sixed (zeros w) w.heap.size (.int .i64 y) (.int .i64 m) (.int .i64 d) (.int .i64 h) (.int .i64 i) (.int .i64 s)) w.heap.size y m d h i s := by
  unfold Box sixed zeros
  refine ⟨?_, ?_, ?_, ?_, ?_, ?_⟩ <;> simp [go_sem]

/-- A right civil time. -/
def rightC (y m d h i s : Int) : Bool := rightB y m d && (decide (0 ≤ h) && decide (h < 24)) && (decide (0 ≤ i) && decide (i < 60)) && (decide (0 ≤ s) && decide (s < 60))
/-- Its second. -/
def secI (y m d h i s : Int) : Int := dayI y m d * 86400 + (h * 3600 + i * 60 + s)
end Go.Proofs.YtdmobmblkbmkhaaDoor
