/-
  What Weekday of package civil does, in plain words.
-/
import Derived.Test.YtbneokgeochinaaDoorLcCivT
namespace Go.Proofs.YtbneokgeochinaaDoor
open Go.ChangeShapes Go.WideShapes Go.ChangeAt Go.RowKit Lc


theorem weekday_any (n : Int) (w : World) (f : fitB n = true) : Calls Tryd.prog 23 #[.int .i64 n] w fun e w' => e = .returned (.int .i64 (wdI n)) ∧ Dr w w' := by
  have DV := fun w => div_yes n 7 w (by decide) f (by decide)
  have b1 : 0 ≤ n % 7 := by omega
  have b2 : n % 7 < 7 := by omega
  have E := Lib.hid (show wdI n = (n % 7 + 4) % 7 from rfl)
  clear f
  go_enter Tryd.func23, Tryd.ntmps23
  go_wp2_with fail
  refine (DV _).mono ?_; rintro e w' ⟨rfl, n1, rfl⟩
  generalize n % 7 = r at *
  go_wp2
  go_ret
  exact ⟨ret_i E.out.symm, Dr.drewN _ _⟩
end Go.Proofs.YtbneokgeochinaaDoor
