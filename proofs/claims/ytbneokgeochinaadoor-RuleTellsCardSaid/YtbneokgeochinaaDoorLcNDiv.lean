/-
  What number.Div does: the quotient rounded down, and what is left.
-/
import Derived.Test.YtbneokgeochinaaDoorLcDr
namespace Go.Proofs.YtbneokgeochinaaDoor
open Go.ChangeShapes Go.WideShapes Go.ChangeAt Go.RowKit Lc

set_option maxHeartbeats 400000 in
theorem div_yes (a b : Int) (w : World) (hb : 1 ≤ b) (ha : fitB a = true) (hf : fitB b = true) :
    Calls Tryd.prog 36 #[.int .i64 a, .int .i64 b] w fun e w' => e = .returned (.tuple #[.int .i64 (a / b), .int .i64 (a % b), .bool true]) ∧ Dr w w' := by
  have D := Lib.hid (div_bound ha hb hf); clear ha hf
  go_enter Tryd.func36, Tryd.ntmps36
  go_wp2
  go_quiet (fail)
  go_wp2
  · have h := div_q1 hb D.out ‹_›
    go_ret3
    exact ⟨ret_iib h.1 h.2 rfl, Dr.drewN _ _⟩
  · have h := div_q2 hb D.out ‹_›
    go_ret3
    exact ⟨ret_iib h.1 h.2 rfl, Dr.drewN _ _⟩
end Go.Proofs.YtbneokgeochinaaDoor
