/-
  The program's octets: Int.
-/
import Derived.Test.YtoijaananjlfpaaLcOctU
namespace Go.Proofs.Ytoijaananjlfpaa
open Go.ChangeShapes Go.WideShapes Go.ChangeAt Go.RowKit Lc

theorem int_no (A : Option Addr) (n c : Nat) (a k : Int) (w : World) (hn : n ≤ maxLen) (ha : (Lit.int .i64 a).wf = true) (hk : (Lit.int .i64 k).wf = true) (h : winB n a k = false) :
    Calls Try.prog 65 #[.slice A n c, .int .i64 a, .int .i64 k] w fun e w' => e = .returned (.tuple #[.int .i64 0, .bool false]) ∧ w = w' := by
  have C := Lib.hid (uint_no A n c a k w hn ha hk h)
  clear h
  go_enter Try.func65, Try.ntmps65
  go_wp2_with (go_at_call 71; refine C.out.mono ?_; rintro e w' ⟨rfl, rfl⟩)
  go_ret2
  exact ⟨rfl, rfl⟩

set_option maxHeartbeats 1000000 in
theorem int_of (A : Option Addr) (n c a k : Nat) (N : Nat) (w : World) (h1 : 1 ≤ k) (h8 : k ≤ 8) (hN : N < 256 ^ k)
    (C : Calls Try.prog 71 #[.slice A n c, .int .i64 a, .int .i64 k] w fun e w' => e = .returned (.tuple #[.int .u64 N, .bool true]) ∧ w = w') :
    Calls Try.prog 65 #[.slice A n c, .int .i64 a, .int .i64 k] w fun e w' => e = .returned (.tuple #[.int .i64 (sgI k N), .bool true]) ∧ w = w' := by
  have C := Lib.hid C
  unfold sgI
  rcases m8 h1 h8 with rfl | rfl | rfl | rfl | rfl | rfl | rfl | rfl
  all_goals
    clear h1 h8
    simp at hN
    go_enter Try.func65, Try.ntmps65
    go_wp2_with (go_at_call 71; refine C.out.mono ?_; rintro e w' ⟨rfl, rfl⟩)
    go_ret2
    refine ⟨rtIB ?_, rfl⟩
    unfold wrap64
    simp

theorem int_yes (A : Option Addr) (l : List UInt8) (c a k : Nat) (w : World) (hc : l.length ≤ c) (hcm : c ≤ maxLen) (h1 : 1 ≤ k) (h8 : k ≤ 8) (h : a + k ≤ l.length) (hr : Rd w A l) :
    Calls Try.prog 65 #[.slice A l.length c, .int .i64 a, .int .i64 k] w fun e w' => e = .returned (.tuple #[.int .i64 (sgI k (beN ((l.drop a).take k))), .bool true]) ∧ w = w' :=
  int_of A l.length c a k _ w h1 h8 (by
    have := beN_lt ((l.drop a).take k)
    rwa [List.length_take, List.length_drop, Nat.min_eq_left (by omega)] at this) (uint_yes A l c a k w hc hcm h1 h8 h hr)
end Go.Proofs.Ytoijaananjlfpaa
