/-
  The program's block, small calls: within, rightSize, fits, mark, readMark, cut, number; strings.Contains of a byte 0.
-/
import Derived.Test.YtoijaananjlfpaaLcBk1
import Derived.Test.YtoijaananjlfpaaLcOctI
import Derived.Lib.IndexAny
namespace Go.Proofs.Ytoijaananjlfpaa
open Go.ChangeShapes Go.WideShapes Go.ChangeAt Go.RowKit Lc

theorem bwithin_any (n a b : Int) (w : World) : Calls Try.prog 26 #[.int .i64 n, .int .i64 a, .int .i64 b] w fun e w' => e = .returned (.bool (decide (a ≤ n) && decide (n ≤ b))) ∧ w = w' := by
  by_cases h : a ≤ n
  · go_enter Try.func26, Try.ntmps26
    go_wp2
    go_ret
    exact ⟨ret_b (by simp [h]), rfl⟩
  · go_enter Try.func26, Try.ntmps26
    go_wp2
    go_ret
    exact ⟨ret_b (by simp; omega), rfl⟩

theorem rsize_any (z : Int) (w : World) : Calls Try.prog 32 #[.int .i64 z] w fun e w' => e = .returned (.bool (zB z)) ∧ w = w' := by
  unfold zB
  by_cases h : z = 4
  · subst h
    go_enter Try.func32, Try.ntmps32
    go_wp2
    go_ret
    exact ⟨rfl, rfl⟩
  · go_enter Try.func32, Try.ntmps32
    go_wp2
    go_ret
    exact ⟨ret_b (by rw [Bool.eq_iff_iff]; simp [h]), rfl⟩

theorem bfits_any (n z : Int) (w : World) : Calls Try.prog 50 #[.int .i64 n, .int .i64 z] w fun e w' => e = .returned (.bool (fitZ n z)) ∧ w = w' := by
  have E := Lib.hid (show fitZ n z = (decide (z = 8) || (decide (-2147483648 ≤ n) && decide (n ≤ 2147483647))) from rfl)
  by_cases h : z = 8
  · subst h
    go_enter Try.func50, Try.ntmps50
    go_wp2
    go_ret
    exact ⟨ret_b (by rw [E.out]; simp), rfl⟩
  · by_cases h2 : -2147483648 ≤ n
    · go_enter Try.func50, Try.ntmps50
      go_wp2
      go_ret
      exact ⟨ret_b (by rw [E.out]; simp [h, h2]), rfl⟩
    · go_enter Try.func50, Try.ntmps50
      go_wp2
      go_ret
      exact ⟨ret_b (by rw [E.out, Bool.eq_iff_iff]; simp; omega), rfl⟩

theorem ret_bb {a b c d : Bool} (h : a = b) (g : c = d) : Ending.returned (.tuple #[.bool a, .bool c]) = .returned (.tuple #[.bool b, .bool d]) := by rw [h, g]
theorem mark_any (b : Bool) (w : World) : Calls Try.prog 48 #[.bool b] w fun e w' => e = .returned (.int .u8 (mkB b).toNat) ∧ w = w' := by
  cases b
  all_goals
    go_enter Try.func48, Try.ntmps48
    go_wp2
    go_ret
    exact ⟨rfl, rfl⟩

theorem rmark_any (b : UInt8) (w : World) : Calls Try.prog 59 #[.int .u8 b.toNat] w fun e w' => e = .returned (.tuple #[.bool (decide (b = 1)), .bool (decide (b.toNat ≤ 1))]) ∧ w = w' := by
  have E := Lib.hid (show decide (b = 1) = decide (b.toNat = 1) by
    rw [Bool.eq_iff_iff]; simp only [decide_eq_true_eq]
    exact ⟨fun e => by rw [e]; rfl, fun e => UInt8.toNat_inj.1 e⟩)
  go_enter Try.func59, Try.ntmps59
  go_wp2
  go_ret2
  exact ⟨ret_bb (by rw [E.out, Bool.eq_iff_iff]; simp; omega) (by rw [Bool.eq_iff_iff]; simp; omega), rfl⟩

theorem number_any (A : Option Addr) (l : List UInt8) (c a k : Nat) (w : World) (hc : l.length ≤ c) (hcm : c ≤ maxLen) (h1 : 1 ≤ k) (h8 : k ≤ 8) (h : a + k ≤ l.length) (hr : Rd w A l) :
    Calls Try.prog 61 #[.slice A l.length c, .int .i64 a, .int .i64 k] w fun e w' => e = .returned (.int .i64 (sgI k (beN ((l.drop a).take k)))) ∧ w = w' := by
  have C := Lib.hid (int_yes A l c a k w hc hcm h1 h8 h hr)
  clear hr h hc hcm h1 h8
  generalize sgI k (beN ((l.drop a).take k)) = x at *
  go_enter Try.func61, Try.ntmps61
  go_wp2_with (go_at_call 65; refine C.out.mono ?_; rintro e w' ⟨rfl, rfl⟩)
  go_ret
  exact ⟨rfl, rfl⟩
end Go.Proofs.Ytoijaananjlfpaa
