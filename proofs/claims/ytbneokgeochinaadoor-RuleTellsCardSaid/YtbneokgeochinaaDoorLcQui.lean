/-
  A region that draws its order, and reads and calls what makes memory: the callee's contract met in each world of the region.
-/
import Derived.Test.YtbneokgeochinaaDoorLcUp
import Derived.Lib.QuietBelow
import Derived.Lib.Walk
namespace Go.Proofs.YtbneokgeochinaaDoor
open Go.ChangeShapes Go.WideShapes Go.ChangeAt Go.RowKit Go.Sort Lc

theorem quiet_up {f : FuncId} {args : Array Value} {w : World} {v : Value} (h : ∀ W, Up w W → Calls Tryd.prog f args W fun e w' => e = .returned v ∧ Up W w') (d : Nat) (os : Array Obj) :
    Calls Tryd.prog f args (grow (redrawn w d) os) fun e w'' => e = .returned v ∧ ∃ p : Regrown, w'' = grow (redrawn w p.d) p.os :=
  Calls.regrown_of (h _ (below_regrown w d os))
theorem same_up {f : FuncId} {args : Array Value} {w : World} {v : Value} (h : Calls Tryd.prog f args w fun e w' => e = .returned v ∧ w = w') : Calls Tryd.prog f args w fun e w' => e = .returned v ∧ Up w w' :=
  h.mono fun _ _ ⟨he, hw⟩ => ⟨he, hw ▸ Up.refl _⟩
theorem up_grown (w : World) (d : Nat) (os : Array Obj) : Up w (grow (redrawn w d) os) := below_regrown w d os
end Go.Proofs.YtbneokgeochinaaDoor
