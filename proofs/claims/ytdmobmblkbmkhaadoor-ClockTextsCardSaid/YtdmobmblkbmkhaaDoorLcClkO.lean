/-
  What Of of package clock does, in plain words.
-/
import Derived.Test.YtdmobmblkbmkhaaDoorLcClkR
import Derived.Test.YtdmobmblkbmkhaaDoorLcCivT
import Derived.Test.YtdmobmblkbmkhaaDoorLcNDiv
namespace Go.Proofs.YtdmobmblkbmkhaaDoor
open Go.ChangeShapes Go.WideShapes Go.ChangeAt Go.RowKit Lc

/-- A second that has no civil time. -/
def farB (t : Int) : Bool := decide (t / 86400 < ny (-2147483648) ∨ ny 2147483648 ≤ t / 86400)

set_option maxHeartbeats 400000 in
theorem of_no (t : Int) (w : World) (f : fitB t = true) (h : farB t = true) : Calls Tryd.prog 17 #[.int .i64 t] w fun e w' => e = .returned (.tuple #[.agg #[.int .i64 0, .int .i64 0, .int .i64 0, .int .i64 0, .int .i64 0, .int .i64 0], .int .i64 2]) ∧ Up w w' := by
  have DV := fun w => div_yes t 86400 w (by decide) f (by decide)
  have DN := fun w => date_no (t / 86400) w (of_decide_eq_true h)
  clear f h
  generalize t / 86400 = q at *
  generalize t % 86400 = r at *
  go_enter Tryd.func17, Tryd.ntmps17
  go_wp2_with fail
  refine (DV _).mono ?_; rintro e w' ⟨rfl, n1, rfl⟩
  go_wp2_with fail
  refine (DN _).mono ?_; rintro e w' ⟨rfl, n2, rfl⟩
  go_wp2_with fail
  refine bodyPost_ret (v := .tuple #[.agg #[.int .i64 0, .int .i64 0, .int .i64 0, .int .i64 0, .int .i64 0, .int .i64 0], .int .i64 2]) (by simp [results, Tryd.results17, go_sem]) rfl ?_
  exact ⟨rfl, Up.six ((Up.alloc _ _).drewN' _) (Nat.le_refl _) _ _ _ _ _ _⟩

theorem sec_parts {y m d h i s t : Int} (r : rightC y m d h i s = true) (e : secI y m d h i s = t) :
    t / 86400 = dayI y m d ∧ 0 ≤ t % 86400 ∧ t % 86400 < 86400 ∧ t % 86400 / 3600 = h ∧ t % 86400 % 3600 / 60 = i ∧ t % 86400 % 60 = s ∧ t % 86400 / 60 % 60 = i := by
  obtain ⟨_, h1, h2, i1, i2, s1, s2⟩ := rightC_true.1 r
  unfold secI at e
  generalize dayI y m d = n at *
  omega
theorem sec_fit {y m d h i s : Int} (r : rightC y m d h i s = true) : fitB (secI y m d h i s) = true := by
  obtain ⟨rb, h1, h2, i1, i2, s1, s2⟩ := rightC_true.1 r
  obtain ⟨q1, q2⟩ := day_range rb
  obtain ⟨q3, q4⟩ := ny_bds
  unfold secI
  exact fit_small (by omega) (by omega)

set_option maxHeartbeats 400000 in
theorem of_yes (t y m d h i s : Int) (w : World) (T : Tabs w) (r : rightC y m d h i s = true) (e : secI y m d h i s = t) : Calls Tryd.prog 17 #[.int .i64 t] w fun e w' => e = .returned (.tuple #[.agg #[.int .i64 y, .int .i64 m, .int .i64 d, .int .i64 h, .int .i64 i, .int .i64 s], .int .i64 0]) ∧ Up w w' := by
  have f : fitB t = true := e ▸ sec_fit r
  obtain ⟨e0, e1, e2, e3, e4, e5, _⟩ := sec_parts r e
  have DV := fun w => div_yes t 86400 w (by decide) f (by decide)
  have DY : ∀ w, Tab w → _ := fun w T => date_yes (dayI y m d) y m d w T (rightC_true.1 r).1 rfl
  have tt := Lib.hid T; clear T
  rw [e0] at DV
  clear f r e e0
  generalize dayI y m d = q at *
  generalize t % 86400 = l at *
  have E3 := Lib.hid e3; have E4 := Lib.hid e4; have E5 := Lib.hid e5
  clear e3 e4 e5
  go_enter Tryd.func17, Tryd.ntmps17
  go_wp2_with fail
  refine (DV _).mono ?_; rintro e w' ⟨rfl, n1, rfl⟩
  go_wp2_with fail
  refine (DY _ (Tab.up tt.out.1 ((Up.alloc _ _).drewN' _))).mono ?_; rintro e w' ⟨rfl, n2, rfl⟩
  go_wp2_with fail
  refine bodyPost_ret (v := .tuple #[.agg #[.int .i64 y, .int .i64 m, .int .i64 d, .int .i64 (l / 3600), .int .i64 (l % 3600 / 60), .int .i64 (l % 60)], .int .i64 0]) (by simp [results, Tryd.results17, go_sem]) rfl ?_
  rw [E3.out, E4.out, E5.out]
  exact ⟨rfl, Up.six ((Up.alloc _ _).drewN' _) (Nat.le_refl _) _ _ _ _ _ _⟩

/-- Each second has a civil time, or none. -/
theorem of_ex (t : Int) : farB t = true ∨ ∃ y m d h i s, rightC y m d h i s = true ∧ secI y m d h i s = t := by
  by_cases c : farB t = true
  · exact .inl c
  · right
    have c' : ¬ (t / 86400 < ny (-2147483648) ∨ ny 2147483648 ≤ t / 86400) := by simpa [farB] using c
    obtain ⟨y, m, d, hr, hn⟩ := date_ex (t / 86400) (by omega) (by omega)
    refine ⟨y, m, d, t % 86400 / 3600, t % 86400 % 3600 / 60, t % 86400 % 60, rightC_true.2 ⟨hr, by omega, by omega, by omega, by omega, by omega, by omega⟩, ?_⟩
    unfold secI; rw [hn]; omega
end Go.Proofs.YtdmobmblkbmkhaaDoor
