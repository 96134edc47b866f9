/-
  Bytes as a text, and back; bytes that stand in the program's text.
-/
import Derived.Test.YtoijaananjlfpaaLcByt
import Derived.Laws.BytesArg
import Derived.Lib.Strings
import Derived.Lib.Walk
import Derived.Lib.SlBytesConst
namespace Go.Proofs.Ytoijaananjlfpaa
open Go.ChangeShapes Go.WideShapes Go.ChangeAt Go.RowKit Lc

/-- Bytes, as numbers. -/
def nums (l : List UInt8) : List Int := l.map fun x => (x.toNat : Int)
theorem nums_len (l : List UInt8) : (nums l).length = l.length := by simp [nums]
theorem nums_bytes (l : List UInt8) : Lib.bytesOf (nums l) = l := by
  unfold Lib.bytesOf nums
  rw [List.map_map]
  conv => rhs; rw [← List.map_id l]
  apply List.map_congr_left
  intro x _
  simp
theorem nums_bc (l : List UInt8) : (nums l).map (Value.int .u8) = bc l := by simp [nums, bc]
theorem nums_get (l : List UInt8) (i : Nat) : (nums l).getD i 0 = ((l.getD i 0).toNat : Int) := by
  rcases Nat.lt_or_ge i l.length with h | h
  · simp [nums, List.getD, h]
  · simp [nums, List.getD, h]
/-- Bytes, as a text. -/
def str (l : List UInt8) : ByteArray := ⟨l.toArray⟩
theorem str_list (l : List UInt8) : (str l).data.toList = l := rfl
theorem str_nums (l : List UInt8) : strOfNums (nums l) = str l := by
  apply ByteArray.ext
  apply Array.toList_inj.1
  rw [strOfNums_data]
  exact nums_bytes l

theorem convert_at (w : World) (b o n c : Nat) (l : List UInt8) (hl : l.length = n) (h : Rd w (some ⟨b, o, none⟩) l) : (convert 33 9 (.slice (some ⟨b, o, none⟩) n c)).run Try.prog w = .ok (.string (str l)) w := by
  rw [← str_nums]
  refine run_convert_bytes_arg w _ _ Try.underlying33 Try.underlying5 b o n c (nums l) (by rw [nums_len, hl]) (fun i hi => ?_) _ Try.underlying9
  obtain ⟨b', o', e, hc⟩ := h (by omega)
  simp only [Option.some.injEq, Addr.mk.injEq, and_true] at e
  obtain ⟨rfl, rfl⟩ := e
  rw [hc i (by omega), nums_get]

/-- string(b), the slice nil, empty or not. -/
theorem convert_rd (w : World) (A : Option Addr) (n c : Nat) (l : List UInt8) (hl : l.length = n) (h : Rd w A l) : (convert 33 9 (.slice A n c)).run Try.prog w = .ok (.string (str l)) w := by
  subst hl
  rcases Nat.eq_zero_or_pos l.length with h0 | h0
  · have e : l = [] := List.eq_nil_of_length_eq_zero h0
    subst e
    rcases A with _ | a
    · exact run_convert_bytes_nil w _ _ Try.underlying33 Try.underlying5 _ _ _ Try.underlying9
    · have hl : (loadCells a 0).run Try.prog w = .ok (([] : List Int).map (Value.int .u8)).toArray w := run_loadCells_list (P := Try.prog) w a [] (fun j v hj => by simp at hj)
      rw [List.length_nil, run_convert_bytes_string w _ _ _ _ 0 c Try.underlying33 Try.underlying5 Try.underlying9, run_bytesToString w _ 0 c [] hl]
      rfl
  · obtain ⟨b, o, rfl, _⟩ := h h0
    exact convert_at w b o _ c l rfl h

theorem Rd.mark (w : World) (l : List UInt8) (cs : Array Value) (t : TypeId) (fr : Nat × Nat) (h : cs.toList = bc l) : Rd (w.alloc (.cells cs t fr)) (some ⟨w.heap.size, 0, none⟩) l := fun h0 => by
  refine ⟨w.heap.size, 0, rfl, fun i hi => ?_⟩
  have e : cs[i]? = some (.int .u8 (l.getD i 0).toNat) := by rw [← bc_get hi, ← h]; simp
  rw [Nat.zero_add, World.cell?_alloc_mark, e]
theorem convert_const (w : World) (C : Array Value) (n c : Nat) : (convert 33 33 (.slice (some ⟨w.heap.size, 0, none⟩) n c)).run Try.prog (w.alloc (.cells C 5)) = .ok (.slice (some ⟨w.heap.size, 0, none⟩) n c) (w.alloc (.cells C 5 (C.size, C.size + 1))) :=
  Lib.run_convert_bytes_const w _ _ C n c Try.underlying33 Try.underlying5

theorem le_max {n : Nat} (h : n ≤ 4096) : n ≤ maxLen := by unfold maxLen; omega
end Go.Proofs.Ytoijaananjlfpaa
