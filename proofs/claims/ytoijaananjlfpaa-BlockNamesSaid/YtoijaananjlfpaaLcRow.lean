/-
  A row of bytes that may be written; a text turned into such a row.
-/
import Derived.Test.YtoijaananjlfpaaLcPst
namespace Go.Proofs.Ytoijaananjlfpaa
open Go.ChangeShapes Go.WideShapes Go.ChangeAt Go.RowKit Lc

/-- Block g begins with the bytes l, and they may be written. -/
def Bk (w : World) (g : Nat) (l : List UInt8) : Prop := ∀ j, j < l.length → w.cell? ⟨g, j, none⟩ = some (.int .u8 (l.getD j 0).toNat) ∧ w.frozen? ⟨g, j, none⟩ = false
theorem Bk.rd {w : World} {g : Nat} {l : List UInt8} (h : Bk w g l) : Rd w (some ⟨g, 0, none⟩) l := fun _ => ⟨g, 0, rfl, fun i hi => by rw [Nat.zero_add]; exact (h i hi).1⟩
theorem Bk.set {w : World} {g : Nat} {l : List UInt8} (h : Bk w g l) {i : Nat} (hi : i < l.length) (x : UInt8) : Bk (w.setCell ⟨g, i, none⟩ (.int .u8 x.toNat)) g (l.set i x) := fun j hj => by
  rw [List.length_set] at hj
  refine ⟨?_, by rw [World.frozen?_setCell]; exact (h j hj).2⟩
  by_cases e : j = i
  · subst e
    rw [World.cell?_setCell_same _ _ _ (h j hj).1]
    simp [hj]
  · rw [World.cell?_setCell_other _ _ _ _ (fun c => e (by injection c with _ c; exact c.symm)), (h j hj).1]
    simp [Ne.symm e]
theorem Ow.bk {w : World} {base : Nat} {v : Value} {l : List UInt8} (h : Ow w base v l) (h0 : 0 < l.length) : ∃ g c, v = .slice (some ⟨g, 0, none⟩) l.length c ∧ base ≤ g ∧ g < w.heap.size ∧ l.length ≤ c ∧ c ≤ maxLen ∧ Bk w g l := by
  have h' : w.ownsRow base 5 1 v l.length (bc l) := h
  rcases h'.2 with ⟨rfl, hn⟩ | ⟨g, cap, cur, rfl, hb, hh, h1, h2, _⟩
  · omega
  · refine ⟨g, cap, rfl, hb, (World.ownsRow.lt h' g rfl).2, h1, h2, fun i hi => ⟨?_, ?_⟩⟩
    · have := h'.cells (g := g) rfl i _ (bc_get hi)
      have ea : (⟨g, 0, none⟩ : Addr).add i = ⟨g, 0 + i, none⟩ := by unfold Addr.add; split <;> simp_all
      rw [ea, Nat.zero_add] at this; exact this
    · simp [World.frozen?, hh]
theorem Bk.up {w w' : World} {g : Nat} {l : List UInt8} (h : Bk w g l) (u : Up w w') : Bk w' g l := fun j hj => by
  have lt := cell_lt (h j hj).1
  exact ⟨u.cell (h j hj).1, by rw [World.frozen?_of_block (Below.block u _ lt)]; exact (h j hj).2⟩
theorem Bk.bytes (w : World) (s : ByteArray) : Bk (Lib.bytesWorld w 5 s) w.heap.size s.data.toList := fun j hj => by
  have hj' : j < s.size := by rwa [Array.length_toList] at hj
  refine ⟨by rw [Lib.bytesWorld_cell _ _ _ _ hj'], ?_⟩
  have hc : j < (Lib.bytesCells w 5 s).size := by
    unfold Lib.bytesCells
    rw [Array.size_append, Array.size_map]
    have : s.data.size = s.size := rfl
    omega
  have h := Lib.bytesWorld_at_new w 5 s
  generalize (Lib.bytesCells w 5 s).size = n at h hc
  simp only [World.frozen?, h]
  simp
  omega
theorem Up.bytes (w : World) (s : ByteArray) : Up w (Lib.bytesWorld w 5 s) :=
  ⟨rfl, rfl, rfl, by rw [Lib.bytesWorld_size]; omega, fun k hk => Lib.bytesWorld_at_old w _ s k hk⟩
theorem of_string (w : World) (s : ByteArray) : (convert 9 33 (.string s)).run Try.prog w = .ok (.slice (some ⟨w.heap.size, 0, none⟩) s.size (grownCap w s.size 0 5)) (Lib.bytesWorld w 5 s) :=
  Lib.run_convert_string_bytes w _ _ _ s Try.underlying9 Try.underlying33 Try.underlying5
end Go.Proofs.Ytoijaananjlfpaa
