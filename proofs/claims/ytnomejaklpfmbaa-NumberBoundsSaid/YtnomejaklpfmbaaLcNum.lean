/-
  What the calls of package number on whole numbers do, and the document's own answers beside them: each in the same plain words.
-/
import Derived.Test.YtnomejaklpfmbaaRows
import Derived.Test.YtnomejaklpfmbaaLcInt
import Derived.WalkLawsBesides
import Derived.Outline
import Derived.Lib.Hide
import Derived.Deep.QuietTactic
import Derived.BigQuiet
namespace Go.Proofs.Ytnomejaklpfmbaa
open Go.ChangeShapes Go.WideShapes Go.ChangeAt Go.RowKit Lc

/-- The world after some draws. -/
def Dr (w w' : World) : Prop := ∃ n, w' = w.drewN n
theorem Dr.refl (w : World) : Dr w w := ⟨0, rfl⟩
theorem Dr.trans {a b c : World} (h : Dr a b) (g : Dr b c) : Dr a c := by
  obtain ⟨n, rfl⟩ := h; obtain ⟨m, rfl⟩ := g; exact ⟨n + m, by simp⟩
theorem Dr.drewN (w : World) (n : Nat) : Dr w (w.drewN n) := ⟨n, rfl⟩
theorem Dr.grown {w w' : World} (h : Dr w w') : Grown w w' := by
  obtain ⟨n, rfl⟩ := h; exact (Grown.refl w : Grown w w)

set_option maxHeartbeats 400000 in
theorem add_any (a b : Int) (w : World) (ha : fitB a = true) (hb : fitB b = true) :
    Calls Try.prog 13 #[.int .i64 a, .int .i64 b] w fun e w' => e = .returned (.tuple #[.int .i64 (fitV (a + b)), .bool (fitB (a + b))]) ∧ w = w' := by
  have HA := Lib.hid ha; have HB := Lib.hid hb; clear ha hb
  go_enter Try.func13, Try.ntmps13
  go_wp2
  · have h := add_no HA.out HB.out ‹_›
    go_ret2
    exact ⟨ret_ib (fitV_false h).symm h.symm, rfl⟩
  · have h := add_yes HA.out HB.out ‹_›
    go_ret2
    exact ⟨ret_ib ((wrap_fit h).trans (fitV_true h).symm) h.symm, rfl⟩

set_option maxHeartbeats 400000 in
theorem mul_any (a b : Int) (w : World) (ha : fitB a = true) (hb : fitB b = true) :
    Calls Try.prog 15 #[.int .i64 a, .int .i64 b] w fun e w' => e = .returned (.tuple #[.int .i64 (fitV (a * b)), .bool (fitB (a * b))]) ∧ w = w' := by
  have HA := Lib.hid ha; have HB := Lib.hid hb; clear ha hb
  by_cases hm : a = -9223372036854775808 ∧ b = -1
  · obtain ⟨rfl, rfl⟩ := hm
    clear HA HB
    go_enter Try.func15, Try.ntmps15
    go_wp2
    go_ret2
    exact ⟨ret_ib mul_least.1.symm mul_least.2.symm, rfl⟩
  · have HM := Lib.hid hm; clear hm
    by_cases h0 : b = 0
    · subst h0
      go_enter Try.func15, Try.ntmps15
      go_wp2
      go_ret2
      exact ⟨ret_ib (mul_zero_fit a).1.symm (mul_zero_fit a).2.symm, rfl⟩
    · have h1 : (b == 0) = false := by simpa using h0
      have H0 := Lib.hid h1
      by_cases hmin : a = -9223372036854775808
      · have h2 : (a == -9223372036854775808) = true := by simpa using hmin
        have h3 : (b == -1) = false := by have := HM.out; simp [hmin] at this; simpa using this
        clear hmin
        go_enter Try.func15, Try.ntmps15
        go_wp2
        · have h := mul_no HA.out H0.out ‹_›
          go_ret2
          exact ⟨ret_ib (fitV_false h).symm h.symm, rfl⟩
        · have h := mul_yes HA.out HB.out H0.out HM.out ‹_›
          go_ret2
          exact ⟨ret_ib ((wrap_fit h).trans (fitV_true h).symm) h.symm, rfl⟩
      · have h2 : (a == -9223372036854775808) = false := by simpa using hmin
        clear hmin
        go_enter Try.func15, Try.ntmps15
        go_wp2
        · have h := mul_no HA.out H0.out ‹_›
          go_ret2
          exact ⟨ret_ib (fitV_false h).symm h.symm, rfl⟩
        · have h := mul_yes HA.out HB.out H0.out HM.out ‹_›
          go_ret2
          exact ⟨ret_ib ((wrap_fit h).trans (fitV_true h).symm) h.symm, rfl⟩

theorem div_no (a b : Int) (w : World) (h : b < 1) :
    Calls Try.prog 17 #[.int .i64 a, .int .i64 b] w fun e w' => e = .returned (.tuple #[.int .i64 0, .int .i64 0, .bool false]) ∧ w = w' := by
  go_enter Try.func17, Try.ntmps17
  go_wp2
  go_ret3
  exact ⟨rfl, rfl⟩

set_option maxHeartbeats 400000 in
theorem div_yes (a b : Int) (w : World) (hb : 1 ≤ b) (ha : fitB a = true) (hf : fitB b = true) :
    Calls Try.prog 17 #[.int .i64 a, .int .i64 b] w fun e w' => e = .returned (.tuple #[.int .i64 (a / b), .int .i64 (a % b), .bool true]) ∧ Dr w w' := by
  have D := Lib.hid (div_bound ha hb hf); clear ha hf
  go_enter Try.func17, Try.ntmps17
  go_wp2
  go_quiet (fail)
  go_wp2
  · have h := div_q1 hb D.out ‹_›
    go_ret3
    exact ⟨ret_iib h.1 h.2 rfl, Dr.drewN _ _⟩
  · have h := div_q2 hb D.out ‹_›
    go_ret3
    exact ⟨ret_iib h.1 h.2 rfl, Dr.drewN _ _⟩

/-! The document's own answers. -/

set_option maxHeartbeats 400000 in
theorem refAdd_any (a b : Int) (w : World) (ha : fitB a = true) (hb : fitB b = true) :
    Calls Try.prog 14 #[.int .i64 a, .int .i64 b] w fun e w' => e = .returned (.tuple #[.int .i64 (fitV (a + b)), .bool (fitB (a + b))]) ∧ w = w' := by
  have HA := Lib.hid ha; have HB := Lib.hid hb; clear ha hb
  go_enter Try.func14, Try.ntmps14
  go_wp2
  all_goals
    have h1 := fitB_true.1 HA.out
    have h2 := fitB_true.1 HB.out
    have hw := wrap64_def (a + b)
    first
    | (have h : fitB (a + b) = false := fitB_false.2 (by omega)
       go_ret2
       exact ⟨ret_ib (fitV_false h).symm h.symm, rfl⟩)
    | (have h : fitB (a + b) = true := fitB_true.2 (by omega)
       go_ret2
       exact ⟨ret_ib ((wrap_fit h).trans (fitV_true h).symm) h.symm, rfl⟩)

set_option maxHeartbeats 400000 in
theorem refSize_any (a : Int) (w : World) (ha : fitB a = true) :
    Calls Try.prog 25 #[.int .i64 a] w fun e w' => e = .returned (.int .u64 a.natAbs) ∧ w = w' := by
  have HA := Lib.hid ha; clear ha
  go_enter Try.func25, Try.ntmps25
  go_wp2
  · have h := size_neg HA.out ‹_›
    go_ret
    exact ⟨ret_i h, rfl⟩
  · have h := size_pos HA.out ‹_›
    go_ret
    exact ⟨ret_i h, rfl⟩

set_option maxHeartbeats 400000 in
theorem refMul_zero (a b : Int) (w : World) (h0 : a = 0 ∨ b = 0) :
    Calls Try.prog 16 #[.int .i64 a, .int .i64 b] w fun e w' => e = .returned (.tuple #[.int .i64 (fitV (a * b)), .bool (fitB (a * b))]) ∧ w = w' := by
  rcases h0 with rfl | rfl
  · go_enter Try.func16, Try.ntmps16
    go_wp2
    go_ret2
    exact ⟨ret_ib (zero_mul_fit b).1.symm (zero_mul_fit b).2.symm, rfl⟩
  · go_enter Try.func16, Try.ntmps16
    go_wp2
    all_goals
      go_ret2
      exact ⟨ret_ib (mul_zero_fit a).1.symm (mul_zero_fit a).2.symm, rfl⟩

set_option maxHeartbeats 400000 in
theorem refMul_any (a b : Int) (w : World) (ha : fitB a = true) (hb : fitB b = true) :
    Calls Try.prog 16 #[.int .i64 a, .int .i64 b] w fun e w' => e = .returned (.tuple #[.int .i64 (fitV (a * b)), .bool (fitB (a * b))]) ∧ w = w' := by
  by_cases h0 : a = 0 ∨ b = 0
  · exact refMul_zero a b w h0
  have HA := Lib.hid ha; have HB := Lib.hid hb; clear ha hb
  have hz : (a == 0) = false := by simpa using fun h => h0 (.inl h)
  have hy : (b == 0) = false := by simpa using fun h => h0 (.inr h)
  have hx : ¬ b = 0 := fun h => h0 (.inr h)
  have HX := Lib.hid hx
  clear h0
  go_enter Try.func16, Try.ntmps16
  go_wp2_with (go_at_call 25; refine (refSize_any _ _ (by first | exact HA.out | exact HB.out)).mono ?_; rintro e w' ⟨rfl, rfl⟩)
  all_goals first
    | (have h := refMul_1 ‹_› HX.out ‹_›
       go_ret2
       exact ⟨ret_ib (fitV_false h).symm h.symm, rfl⟩)
    | (have h := refMul_3 ‹_› HX.out ‹_›
       go_ret2
       exact ⟨ret_ib (fitV_false h).symm h.symm, rfl⟩)
    | (have h := refMul_2 ‹_› HX.out ‹_›
       go_ret2
       exact ⟨ret_ib ((wrap_fit h).trans (fitV_true h).symm) h.symm, rfl⟩)
    | (have h := refMul_4 ‹_› HX.out ‹_›
       go_ret2
       exact ⟨ret_ib ((wrap_fit h).trans (fitV_true h).symm) h.symm, rfl⟩)

theorem refDiv_no (a b : Int) (w : World) (h : b < 1) :
    Calls Try.prog 18 #[.int .i64 a, .int .i64 b] w fun e w' => e = .returned (.tuple #[.int .i64 0, .int .i64 0, .bool false]) ∧ w = w' := by
  go_enter Try.func18, Try.ntmps18
  go_wp2
  go_ret3
  exact ⟨rfl, rfl⟩

set_option maxHeartbeats 400000 in
theorem refDiv_yes (a b : Int) (w : World) (hb : 1 ≤ b) (ha : fitB a = true) (hf : fitB b = true) :
    Calls Try.prog 18 #[.int .i64 a, .int .i64 b] w fun e w' => e = .returned (.tuple #[.int .i64 (a / b), .int .i64 (a % b), .bool true]) ∧ w = w' := by
  have D := Lib.hid (div_bound ha hb hf); clear ha hf
  go_enter Try.func18, Try.ntmps18
  go_wp2
  · have h := div_q1 hb D.out ‹_›
    go_ret3
    exact ⟨ret_iib h.1 h.2 rfl, rfl⟩
  · have h := div_q2 hb D.out ‹_›
    go_ret3
    exact ⟨ret_iib h.1 h.2 rfl, rfl⟩
end Go.Proofs.Ytnomejaklpfmbaa
