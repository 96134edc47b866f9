/-
  What At answers, case by case, and that package rule's does so (layer 9).
-/
import Derived.Test.YtbneokgeochinaaDoorLcRuG
namespace Go.Proofs.YtbneokgeochinaaDoor
open Go.ChangeShapes Go.WideShapes Go.ChangeAt Go.RowKit Go.Sort Lc

/-- The kind K and the error E that At tells. -/
def AtS (r : Ru) (t : Int) (K : Kd) (E : Int) : Prop :=
  (rightB r true = false ∧ K = kd0 ∧ E = 1) ∨
  (rightB r true = true ∧ r.both = false ∧ K = r.std ∧ E = 0) ∨
  (rightB r true = true ∧ r.both = true ∧ (t / 86400 < ny (-2147483648) ∨ ny 2147483648 ≤ t / 86400) ∧ K = kd0 ∧ E = 2) ∨
  (rightB r true = true ∧ r.both = true ∧ ∃ y m d, rdB y m d = true ∧ dayI y m d = t / 86400 ∧ K = (if inDst r t y = true then r.dst else r.std) ∧ E = 0)
theorem at_ex (r : Ru) (t : Int) : ∃ K E, AtS r t K E := by
  unfold AtS
  cases hr : rightB r true
  · exact ⟨_, _, .inl ⟨rfl, rfl, rfl⟩⟩
  · cases hb : r.both
    · exact ⟨_, _, .inr (.inl ⟨rfl, rfl, rfl, rfl⟩)⟩
    · by_cases hd : t / 86400 < ny (-2147483648) ∨ ny 2147483648 ≤ t / 86400
      · exact ⟨_, _, .inr (.inr (.inl ⟨rfl, rfl, hd, rfl, rfl⟩))⟩
      · obtain ⟨y, m, d, h1, h2⟩ := date_ex (n := t / 86400) (by omega) (by omega)
        exact ⟨_, _, .inr (.inr (.inr ⟨rfl, rfl, y, m, d, h1, h2, rfl, rfl⟩))⟩
theorem at_of {r : Ru} {t : Int} {K : Kd} {E : Int} (h : AtS r t K E) (w : World) (T : Tab w) (n1 : r.std.name.length ≤ maxLen) (n2 : r.dst.name.length ≤ maxLen) (ft : fitB t = true) :
    Calls Tryd.prog 16 #[.agg (rA r), .int .i64 t] w fun e w' => e = .returned (.tuple #[.agg (kA K), .int .i64 E]) ∧ Up w w' := by
  rcases h with ⟨hr, rfl, rfl⟩ | ⟨hr, hb, rfl, rfl⟩ | ⟨hr, hb, hd, rfl, rfl⟩ | ⟨hr, hb, y, m, d, hd, hn, rfl, rfl⟩
  · exact at_wrong r t w n1 n2 hr
  · exact at_one r t w n1 n2 hr hb
  · exact at_far r t w n1 n2 ft hr hb hd
  · exact at_in r t w T n1 n2 ft hr hb y m d hd hn
end Go.Proofs.YtbneokgeochinaaDoor
