/-
  The world behind a call that makes memory: what was there is as it was. The row's last step in such a world.
-/
import Derived.Test.YtbneokgeochinaaDoorLcDr
import Derived.Lib.SmallJoins
import Derived.Below
import Derived.ChangeSame
import Derived.OpenShut
import Derived.WideShapes
namespace Go.Proofs.YtbneokgeochinaaDoor
open Go.ChangeShapes Go.WideShapes Go.ChangeAt Go.RowKit Lc

/-- What was there is as it was; the rest is new. -/
def Up (w w' : World) : Prop := Below w.heap.size w w'
theorem Up.refl (w : World) : Up w w := Below.refl _ _
theorem Up.trans {a b c : World} (h : Up a b) (g : Up b c) : Up a c := Below.trans h (Below.mono g (Below.size h))
theorem Up.drewN (w : World) (n : Nat) : Up w (w.drewN n) := Joins.below_draws _ _ _
theorem Up.of_dr {w w' : World} (h : Dr w w') : Up w w' := by obtain ⟨n, rfl⟩ := h; exact Up.drewN w n
theorem Up.alloc (w : World) (o : Obj) : Up w (w.alloc o) := Joins.below_alloc1 w o
theorem Up.alloc' {w w' : World} (h : Up w w') (o : Obj) : Up w (w'.alloc o) := h.trans (Up.alloc _ _)
theorem Up.drewN' {w w' : World} (h : Up w w') (n : Nat) : Up w (w'.drewN n) := h.trans (Up.drewN _ _)
theorem Up.setCell' {w w' : World} (h : Up w w') {p : Addr} (hp : w.heap.size ≤ p.block) (u : Value) : Up w (w'.setCell p u) := Below.setCell h hp u
theorem Up.size {w w' : World} (h : Up w w') : w.heap.size ≤ w'.heap.size := Below.size h
theorem cell_lt {w : World} {b o : Nat} {v : Value} (h : w.cell? ⟨b, o, none⟩ = some v) : b < w.heap.size := by
  rcases Nat.lt_or_ge b w.heap.size with k | k
  · exact k
  · simp [World.cell?, Array.getElem?_eq_none k] at h
theorem Up.cell {w w' : World} (u : Up w w') {b o : Nat} {v : Value} (h : w.cell? ⟨b, o, none⟩ = some v) : w'.cell? ⟨b, o, none⟩ = some v := by
  rw [Below.cell u (p := ⟨b, o, none⟩) (cell_lt h)]; exact h

/-- Block b may be written. -/
def Free (w : World) (b : Nat) : Prop := b < w.heap.size ∧ ∀ j, w.frozen? ⟨b, j, none⟩ = false
theorem Free.up {w w' : World} {b : Nat} (x : Free w b) (u : Up w w') : Free w' b :=
  ⟨Nat.lt_of_lt_of_le x.1 u.size, fun j => by rw [Below.frozen u (p := ⟨b, j, none⟩) x.1]; exact x.2 j⟩
theorem Free.new (w : World) (c : Array Value) (t : TypeId) : Free (w.alloc (.cells c t)) w.heap.size :=
  ⟨by rw [World.size_alloc]; omega, fun j => World.frozen?_alloc_new w c t j⟩

section
variable {H : Type} {enc : TypeId × Value → H} {w : World} {base : Nat} {spare : Nat → Bool} {held : Bool}
/-- Nothing but new memory was made, and no memory came in: the row's last step. -/
theorem post_flat {P : Program} {f : Func} {s : ChangeSpec} {apart fresh handsOn again : Bool} {W W' : World} {args : Array Value} {v : Value} {ds gs : List (DataW H)}
    (hW : DataW.Whole enc P f.params.toList s.vars apart W args.toList ds gs [])
    (hres : ∀ (b : Nat) (sp : Nat → Bool) (hd : Bool), DataW.TrodAll enc P W' b sp hd f.resultTypes.toList (v.resultList f.resultTypes.size) (s.fn H (ds ++ gs)).results [])
    (hargs : ∀ sp : Nat → Bool, DataW.TrodAll enc P W' 0 sp true f.params.toList args.toList (s.fn H (ds ++ gs)).args [])
    (hvars : ∀ sp : Nat → Bool, DataW.TrodVars enc P W' sp s.vars (s.fn H (ds ++ gs)).vars [])
    (hb : Up W W')
    (hok : ∀ (j : Nat) (t : TypeId) (r : Value), f.resultTypes[j]? = some t → (v.resultList f.resultTypes.size)[j]? = some r → Value.okWide P W' .any 0 t r) :
    s.post enc P f apart fresh handsOn again W args v W' := by
  refine ⟨ds, gs, [], [], [], [], hW, hres _ _ _, hargs _, hvars _, Below.frame hb _, fun _ => ⟨hok, _, _, [], ⟨[], [], trodAll_append (hargs _) (hres _ _ _), hvars _, rfl, ?_, ?_⟩, ?_⟩⟩
  · intro b off hp; cases hp
  · intro _; exact List.nodup_nil
  · intro p hp; cases hp
end
end Go.Proofs.YtbneokgeochinaaDoor
