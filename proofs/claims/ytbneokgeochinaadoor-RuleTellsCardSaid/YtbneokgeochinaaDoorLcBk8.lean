/-
  A struct's block of the call's own.
-/
import Derived.Test.YtbneokgeochinaaDoorLcUp
import Derived.Lib.Walk
import Derived.WalkKit
namespace Go.Proofs.YtbneokgeochinaaDoor
open Go.ChangeShapes Go.WideShapes Go.ChangeAt Go.RowKit Lc

theorem alloc_at (w : World) (o : Obj) : (w.alloc o).heap[w.heap.size]? = some o := by
  show (w.heap.push o)[w.heap.size]? = some o
  simp
/-- A struct's block of the call's own. -/
def Bk (w : World) (k : Nat) (cs : Array Value) (T : TypeId) : Prop := w.heap[k]? = some (.cells cs T (0, 0)) ∧ T ≠ 5
theorem Bk.cell {w : World} {k : Nat} {cs : Array Value} {T : TypeId} (h : Bk w k cs T) (j : Nat) : w.cell? ⟨k, j, none⟩ = cs[j]? := Lib.cell_of_heap h.1 j
theorem Bk.frozen {w : World} {k : Nat} {cs : Array Value} {T : TypeId} (h : Bk w k cs T) (j : Nat) : w.frozen? ⟨k, j, none⟩ = false := Lib.frozen_of_heap h.1 j
theorem Bk.lt {w : World} {k : Nat} {cs : Array Value} {T : TypeId} (h : Bk w k cs T) : k < w.heap.size := by
  rcases Nat.lt_or_ge k w.heap.size with h' | h'
  · exact h'
  · have := h.1; simp [Array.getElem?_eq_none h'] at this
theorem Bk.new (w : World) (cs : Array Value) (T : TypeId) (h : T ≠ 5) : Bk (w.alloc (.cells cs T)) w.heap.size cs T := ⟨alloc_at w _, h⟩
theorem Bk.up {w w' : World} {k : Nat} {cs : Array Value} {T : TypeId} (h : Bk w k cs T) (u : Up w w') : Bk w' k cs T := ⟨by rw [u.block k h.lt]; exact h.1, h.2⟩
theorem Bk.set {w : World} {k : Nat} {cs : Array Value} {T : TypeId} (h : Bk w k cs T) (o : Nat) (v : Value) : Bk (w.setCell ⟨k, o, none⟩ v) k (cs.setIfInBounds o v) T :=
  ⟨by simp [World.setCell, Array.getElem?_modify, h.1], h.2⟩
end Go.Proofs.YtbneokgeochinaaDoor
