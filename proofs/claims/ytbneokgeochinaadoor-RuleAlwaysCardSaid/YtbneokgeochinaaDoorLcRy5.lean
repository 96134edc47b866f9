/-
  A rule whose start and end are at one moment each year is in its second kind always: plain, of no program (layer 9).
-/
import Derived.Test.YtbneokgeochinaaDoorLcRy3
namespace Go.Proofs.YtbneokgeochinaaDoor
open Go Lc

/-- The rule that the statement lays. -/
def alR (off : Int) : Ru := ⟨⟨off, false, [65, 65, 65]⟩, ⟨off + 3600, true, [66, 66, 66]⟩, true, ⟨2, 0, 0, 0, 0⟩, ⟨1, 365, 0, 0, 90000⟩⟩
theorem al_right {off : Int} (h1 : -80000 < off) (h2 : off < 80000) : rightB (alR off) true = true := by
  have a1 : nameB [65, 65, 65] = true := by decide
  have a2 : nameB [66, 66, 66] = true := by decide
  have c1 : changeB ⟨2, 0, 0, 0, 0⟩ true = true := by decide
  have c2 : changeB ⟨1, 365, 0, 0, 90000⟩ true = true := by decide
  have o1 : inB off (-89999) 89999 = true := by unfold inB; simp; omega
  have o2 : inB (off + 3600) (-89999) 89999 = true := by unfold inB; simp; omega
  unfold rightB kindB alR
  simp only [a1, a2, c1, c2, o1, o2]
  rfl
theorem al_S (off n : Int) : tnS (alR off) n = ny n * 86400 - off := by
  unfold tnS alR
  simp only [dayC]
  rw [if_neg (by decide), if_pos trivial]
  omega
theorem al_E (off n : Int) : tnE (alR off) n = ny (n + 1) * 86400 - off := by
  have a := ny_succ n
  unfold tnE alR
  simp only [dayC]
  rw [if_pos trivial]
  by_cases h : leapB n = true
  · have := lp_true h
    rw [if_pos ⟨h, by decide⟩]; omega
  · rw [if_neg (fun z => h z.1)]
    rw [Bool.not_eq_true] at h
    have := lp_false h
    omega
theorem always_in {off t Y : Int} (h1 : -80000 < off) (h2 : off < 80000) (b1 : -2147480000 ≤ Y) (b2 : Y ≤ 2147480000) (hY1 : ny Y * 86400 ≤ t) (hY2 : t < ny (Y + 1) * 86400) : inDst (alR off) t Y = true := by
  have hr := al_right h1 h2
  obtain ⟨z, hz, iv, _⟩ := inDst_spec (t := t) (y := Y) (okT_of hr rfl (by omega) (by omega)) (okT_of hr rfl (by omega) (by omega)) (okT_of hr rfl (by omega) (by omega))
  rw [hz]
  have c := in_three iv
  simp only [al_S, al_E] at c
  rw [show Y - 1 + 1 = Y by omega, show Y + 1 + 1 = Y + 2 by omega] at c
  have n1 := ny_lt (show Y - 1 < Y by omega)
  have n2 := ny_lt (show Y < Y + 1 by omega)
  have n3 := ny_lt (show Y + 1 < Y + 2 by omega)
  refine ends_yes ?_
  rcases c with ⟨_, c⟩ | ⟨d, L, hL⟩ | ⟨d, L, hL⟩
  · exfalso; omega
  · exact .inl d
  · exfalso; omega
end Go.Proofs.YtbneokgeochinaaDoor
