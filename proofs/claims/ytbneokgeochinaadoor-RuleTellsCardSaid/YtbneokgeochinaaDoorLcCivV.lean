/-
  The document's weekday, in plain words.
-/
import Derived.Test.YtbneokgeochinaaDoorLcCivS
namespace Go.Proofs.YtbneokgeochinaaDoor
open Go.ChangeShapes Go.WideShapes Go.ChangeAt Go.RowKit Lc

theorem refWeekday_any (n : Int) (w : World) (f : fitB n = true) : Calls Tryd.prog 32 #[.int .i64 n] w fun e w' => e = .returned (.int .i64 (wdI n)) ∧ w = w' := by
  have DV := fun w => refDiv_yes n 7 w (by decide) f (by decide)
  have b1 : 0 ≤ n % 7 := by omega
  have b2 : n % 7 < 7 := by omega
  have E := Lib.hid (show wdI n = (n % 7 + 4) % 7 from rfl)
  clear f
  go_enter Tryd.func32, Tryd.ntmps32
  go_wp2_with fail
  refine (DV _).mono ?_; rintro e w' ⟨rfl, rfl⟩
  generalize n % 7 = r at *
  go_wp2
  go_ret
  exact ⟨ret_i E.out.symm, rfl⟩
end Go.Proofs.YtbneokgeochinaaDoor
