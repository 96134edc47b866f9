/-
  The lengths of months, as the package's variable holds them.
-/
import Derived.Test.YtbneokgeochinaaDoorLcDr
import Derived.Lib.LaidTab
import Derived.LaidMore
import Derived.Stop.Joined
namespace Go.Proofs.YtbneokgeochinaaDoor
open Go.ChangeShapes Go.WideShapes Go.ChangeAt Go.RowKit Lc

def lensL : List Int := [31, 28, 31, 30, 31, 30, 31, 31, 30, 31, 30, 31]
/-- The variable holds the lengths. -/
def Tab (w : World) : Prop := ∀ i : Nat, i < 12 → w.cell? ⟨0, i, none⟩ = some (.int .i64 (lensL.getD i 0))
theorem Tab.drewN {w : World} (h : Tab w) (n : Nat) : Tab (w.drewN n) := h
theorem Tab.dr {w w' : World} (h : Tab w) (d : Dr w w') : Tab w' := by obtain ⟨n, rfl⟩ := d; exact h.drewN n

theorem gLengths : Tryd.prog.globalNamed "longcase/civil.lengths" = some 0 := by kernel_rfl
theorem tLengths : (Tryd.prog.globals[0]?).map (·.type) = some 69 := by kernel_rfl
theorem tab_of_head {rest : List (String × DataW Unit)} {w : World} (h : laidMet Tryd.prog (("longcase/civil.lengths", Rows.laid_longcase_civil_lengths) :: rest) w) : Tab w := by
  have t : Lib.TabIs Tryd.prog w "longcase/civil.lengths" .i64 lensL :=
    Lib.tabIs_of_head (rest := rest) gLengths tLengths Tryd.underlying69 Tryd.underlying3 (by kernel_rfl) (by kernel_rfl) h
  intro i hi
  exact t.cell gLengths i hi

/-- What the rows list: the lengths alone. -/
abbrev laidC : List (String × DataW Unit) := [("longcase/civil.lengths", Rows.laid_longcase_civil_lengths)]
theorem tab_of_laid {w : World} (h : laidMetH Tryd.prog laidC w) : Tab w := by
  rw [MakeChecks.laidMetH_plain _ _ _ (by kernel_rfl)] at h
  exact tab_of_head h
/-- The door's own heap meets the condition. -/
theorem door_met (os : Os) (args : Array Value) : laidMetH Tryd.prog laidC ((World.doorLaid Tryd.prog 400 os).forCall (fun _ _ => 0) ⟨#[], args, []⟩).memory :=
  laidMetH_of_parts3 (fuel := 8) (laidMet_of_run' 8 (by kernel_rfl) (by kernel_rfl)) (by kernel_rfl) (by kernel_rfl)
end Go.Proofs.YtbneokgeochinaaDoor
