/-
  What ends a reading: refuse, and the deferred call that tells it.
-/
import Derived.Test.YtaljddoenjgbfaaGreatLcMa
import Derived.Defers
import Derived.Recover
namespace Go.Proofs.YtaljddoenjgbfaaGreat
open Go.ChangeShapes Go.WideShapes Go.ChangeAt Go.RowKit Lc

/-- The panic that tells an error. -/
def pnc (n : Int) : List PanicEntry := [{ v := .iface 33 (.int .i64 n), recovered := false }]
set_option maxRecDepth 100000 in
theorem refuse_no (n : Int) (w : World) : Calls Tryz.prog 53 #[.bool false, .int .i64 n] w fun e w' => e = .returned (.tuple #[]) ∧ w = w' := by
  go_enter Tryz.func53, Tryz.ntmps53
  go_wp2
  go_end0
  exact ⟨rfl, rfl⟩
set_option maxRecDepth 100000 in
theorem refuse_yes (n : Int) (w : World) : Calls Tryz.prog 53 #[.bool true, .int .i64 n] w fun e w' => e = .panicked (pnc n) ∧ w = w' := by
  unfold pnc
  go_enter Tryz.func53, Tryz.ntmps53
  go_wp2
  exact ⟨rfl, rfl, rfl⟩

set_option maxRecDepth 100000 in
/-- The deferred closure of a frame that returns: nothing turns. -/
theorem catch_idle (p : Addr) (w : World) :
    CallsD Tryz.prog 38 #[.pointer (some p)] .returning w fun e u' w' => e = .returned (.tuple #[]) ∧ u' = .returning ∧ w' = w := by
  have hq : ∀ w : World, (binOp .eql 20 .nilIface .nilIface).run Tryz.prog w = .ok (.bool true) w := fun _ => by kernel_rfl
  refine callsD_of_wpS Tryz.func38 rfl fun c₀ cs hu => ?_
  apply wpS_seq
  apply wpS_region
  simp [wpOpsS, go_sem, recoverD, hu, Tryz.ntmps38, Exit.thenS, Array.replicate]
  refine wpS_of_wp ?_
  go_wp2
  cases c₀
  simp_all [bodyPostS, results, Tryz.results38]

set_option maxRecDepth 100000 in
/-- The deferred closure of a frame that panics with an error: it is told. -/
theorem catch_told (b : Nat) (n k : Int) (w : World) (hc : w.cell? ⟨b, 0, none⟩ = some (.int .i64 k)) (hf : w.frozen? ⟨b, 0, none⟩ = false) :
    CallsD Tryz.prog 38 #[.pointer (some ⟨b, 0, none⟩)] (.panicking (pnc n)) w fun e u' w' => e = .returned (.tuple #[]) ∧ u' = .panicking [{ v := .iface 33 (.int .i64 n), recovered := true }] ∧ w' = w.setCell ⟨b, 0, none⟩ (.int .i64 n) := by
  have hq : ∀ w : World, (binOp .eql 20 (.iface 33 (.int .i64 n)) .nilIface).run Tryz.prog w = .ok (.bool false) w := fun _ => rfl
  have ht : ∀ w : World, (Instr.typeAssert (.iface 33 (.int .i64 n)) 20 33 true).run Tryz.prog w = .ok (.tuple #[.int .i64 n, .bool true]) w := fun _ => by kernel_rfl
  unfold pnc
  refine callsD_of_wpS Tryz.func38 rfl fun c₀ cs hu => ?_
  apply wpS_seq
  apply wpS_region
  simp [wpOpsS, go_sem, recoverD, hu, Tryz.ntmps38, Exit.thenS, Array.replicate]
  refine wpS_of_wp ?_
  go_wp2
  trace_state
  cases c₀
  simp_all [bodyPostS, results, Tryz.results38]
end Go.Proofs.YtaljddoenjgbfaaGreat
