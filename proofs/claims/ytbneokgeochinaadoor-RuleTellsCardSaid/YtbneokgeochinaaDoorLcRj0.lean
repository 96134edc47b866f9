/-
  Changes and rules in blocks of memory.
-/
import Derived.Test.YtbneokgeochinaaDoorLcBk8
import Derived.Test.YtbneokgeochinaaDoorLcRi
namespace Go.Proofs.YtbneokgeochinaaDoor
open Go.ChangeShapes Go.WideShapes Go.ChangeAt Go.RowKit Lc

/-- A change's block. -/
def Cb (w : World) (b : Nat) (c : Ch) : Prop :=
  w.cell? ⟨b, 0, none⟩ = some (.int .i64 c.how) ∧ w.cell? ⟨b, 1, none⟩ = some (.int .i64 c.n) ∧ w.cell? ⟨b, 2, none⟩ = some (.int .i64 c.wk) ∧ w.cell? ⟨b, 3, none⟩ = some (.int .i64 c.wd) ∧ w.cell? ⟨b, 4, none⟩ = some (.int .i64 c.tm)
theorem Cb.up {w w' : World} {b : Nat} {c : Ch} (h : Cb w b c) (u : Up w w') : Cb w' b c := ⟨u.cell h.1, u.cell h.2.1, u.cell h.2.2.1, u.cell h.2.2.2.1, u.cell h.2.2.2.2⟩
theorem Cb.bk {w : World} {b : Nat} {c : Ch} {T : TypeId} (h : Bk w b (cA c) T) : Cb w b c := ⟨h.cell 0, h.cell 1, h.cell 2, h.cell 3, h.cell 4⟩
/-- A rule's block. -/
def Rb (w : World) (b : Nat) (r : Ru) : Prop :=
  (w.cell? ⟨b, 0, none⟩ = some (.int .i64 r.std.off) ∧ w.cell? ⟨b, 1, none⟩ = some (.bool r.std.dst) ∧ w.cell? ⟨b, 2, none⟩ = some (.string (tx r.std.name))) ∧
  (w.cell? ⟨b, 3, none⟩ = some (.int .i64 r.dst.off) ∧ w.cell? ⟨b, 4, none⟩ = some (.bool r.dst.dst) ∧ w.cell? ⟨b, 5, none⟩ = some (.string (tx r.dst.name))) ∧
  w.cell? ⟨b, 6, none⟩ = some (.bool r.both) ∧
  (w.cell? ⟨b, 7, none⟩ = some (.int .i64 r.st.how) ∧ w.cell? ⟨b, 8, none⟩ = some (.int .i64 r.st.n) ∧ w.cell? ⟨b, 9, none⟩ = some (.int .i64 r.st.wk) ∧ w.cell? ⟨b, 10, none⟩ = some (.int .i64 r.st.wd) ∧ w.cell? ⟨b, 11, none⟩ = some (.int .i64 r.st.tm)) ∧
  w.cell? ⟨b, 12, none⟩ = some (.int .i64 r.en.how) ∧ w.cell? ⟨b, 13, none⟩ = some (.int .i64 r.en.n) ∧ w.cell? ⟨b, 14, none⟩ = some (.int .i64 r.en.wk) ∧ w.cell? ⟨b, 15, none⟩ = some (.int .i64 r.en.wd) ∧ w.cell? ⟨b, 16, none⟩ = some (.int .i64 r.en.tm)
theorem Rb.up {w w' : World} {b : Nat} {r : Ru} (h : Rb w b r) (u : Up w w') : Rb w' b r := by
  obtain ⟨⟨a0, a1, a2⟩, ⟨a3, a4, a5⟩, a6, ⟨a7, a8, a9, b0, b1⟩, b2, b3, b4, b5, b6⟩ := h
  exact ⟨⟨u.cell a0, u.cell a1, u.cell a2⟩, ⟨u.cell a3, u.cell a4, u.cell a5⟩, u.cell a6, ⟨u.cell a7, u.cell a8, u.cell a9, u.cell b0, u.cell b1⟩, u.cell b2, u.cell b3, u.cell b4, u.cell b5, u.cell b6⟩
theorem Rb.bk {w : World} {b : Nat} {r : Ru} {T : TypeId} (h : Bk w b (rA r) T) : Rb w b r :=
  ⟨⟨h.cell 0, h.cell 1, h.cell 2⟩, ⟨h.cell 3, h.cell 4, h.cell 5⟩, h.cell 6, ⟨h.cell 7, h.cell 8, h.cell 9, h.cell 10, h.cell 11⟩, h.cell 12, h.cell 13, h.cell 14, h.cell 15, h.cell 16⟩
theorem ru_one (r : Ru) : (decide (r = ⟨r.std, kd0, false, ch0, ch0⟩)) = (!r.both && (r.dst == kd0 && r.st == ch0 && r.en == ch0)) := by
  rw [Bool.eq_iff_iff]
  simp only [decide_eq_true_eq, Bool.and_eq_true, Bool.not_eq_true', beq_iff_eq]
  constructor
  · intro h
    rw [h]; exact ⟨rfl, ⟨rfl, rfl⟩, rfl⟩
  · intro h
    exact ru_ext rfl h.2.1.1 h.1 h.2.1.2 h.2.2
end Go.Proofs.YtbneokgeochinaaDoor
