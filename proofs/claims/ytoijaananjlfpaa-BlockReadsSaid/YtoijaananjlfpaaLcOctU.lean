/-
  The program's octets: within, Uint.
-/
import Derived.Test.YtoijaananjlfpaaLcByt
import Derived.Lib.EndianBits
namespace Go.Proofs.Ytoijaananjlfpaa
open Go.ChangeShapes Go.WideShapes Go.ChangeAt Go.RowKit Lc

/-- So many bytes are there from 'at' on. -/
def winB (n : Nat) (a k : Int) : Bool := decide (1 ≤ k ∧ k ≤ 8 ∧ 0 ≤ a ∧ a ≤ n - k)
theorem winB_yes {n a k : Nat} (h1 : 1 ≤ k) (h8 : k ≤ 8) (h : a + k ≤ n) : winB n a k = true := by
  unfold winB; simp; omega
theorem rtIB {k : IntKind} {a b : Int} {x : Bool} (h : a = b) : Ending.returned (.tuple #[.int k a, .bool x]) = .returned (.tuple #[.int k b, .bool x]) := by rw [h]
theorem rtB {a b : Bool} (h : a = b) : Ending.returned (.bool a) = .returned (.bool b) := by rw [h]

theorem within_any (A : Option Addr) (n c : Nat) (a k : Int) (w : World) (hn : n ≤ maxLen) (ha : (Lit.int .i64 a).wf = true) (hk : (Lit.int .i64 k).wf = true) :
    Calls Try.prog 74 #[.slice A n c, .int .i64 a, .int .i64 k] w fun e w' => e = .returned (.bool (winB n a k)) ∧ w = w' := by
  unfold maxLen at hn
  have ha := bounds_i64 ha
  have hk := bounds_i64 hk
  unfold winB
  by_cases h1 : 1 ≤ k
  · by_cases h2 : k ≤ 8
    · by_cases h3 : 0 ≤ a
      · go_enter Try.func74, Try.ntmps74
        go_wp2
        go_ret
        exact ⟨rtB (by simp [h1, h2, h3]), rfl⟩
      · go_enter Try.func74, Try.ntmps74
        go_wp2
        go_ret
        exact ⟨rtB (by simp; omega), rfl⟩
    · go_enter Try.func74, Try.ntmps74
      go_wp2
      go_ret
      exact ⟨rtB (by simp; omega), rfl⟩
  · go_enter Try.func74, Try.ntmps74
    go_wp2
    go_ret
    exact ⟨rtB (by simp; omega), rfl⟩

theorem uint_no (A : Option Addr) (n c : Nat) (a k : Int) (w : World) (hn : n ≤ maxLen) (ha : (Lit.int .i64 a).wf = true) (hk : (Lit.int .i64 k).wf = true) (h : winB n a k = false) :
    Calls Try.prog 71 #[.slice A n c, .int .i64 a, .int .i64 k] w fun e w' => e = .returned (.tuple #[.int .u64 0, .bool false]) ∧ w = w' := by
  have C := Lib.hid (within_any A n c a k w hn ha hk)
  rw [h] at C
  clear h
  go_enter Try.func71, Try.ntmps71
  go_wp2_with (go_at_call 74; refine C.out.mono ?_; rintro e w' ⟨rfl, rfl⟩)
  go_ret2
  exact ⟨rfl, rfl⟩

theorem or_byte {N x : Nat} (h : N < 72057594037927936) (hx : x < 256) : bits .or .u64 ((N : Int) * 256) (x : Int) = ((N * 256 + x : Nat) : Int) := by
  have e : bits .or .u64 ((N : Int) * 256) (x : Int) = bits .or .u64 (x : Int) ((N : Int) * 256) := by
    show IntKind.u64.wrap ((BitVec.ofInt 64 _ ||| BitVec.ofInt 64 _).toNat : Int) = IntKind.u64.wrap ((BitVec.ofInt 64 _ ||| BitVec.ofInt 64 _).toNat : Int)
    rw [BitVec.or_comm]
  refine (e.trans (u64_or8 (y := (x : Int)) (x := (N : Int) * 256) (by omega) (by omega) (by omega) (by omega) (by omega))).trans ?_
  omega

set_option maxHeartbeats 1000000 in
theorem uint_at (b o n c a k : Nat) (L : List UInt8) (w : World) (hn : n ≤ maxLen) (hc : n ≤ c) (hcm : c ≤ maxLen) (h1 : 1 ≤ k) (h8 : k ≤ 8) (h : a + k ≤ n) (hL : L.length = k)
    (hr : ∀ i, i < k → w.cell? ⟨b, o + a + i, none⟩ = some (.int .u8 (L.getD i 0).toNat)) :
    Calls Try.prog 71 #[.slice (some ⟨b, o, none⟩) n c, .int .i64 a, .int .i64 k] w fun e w' => e = .returned (.tuple #[.int .u64 (beN L), .bool true]) ∧ w = w' := by
  have hn' := hn
  unfold maxLen at hn hcm
  have wa : (Lit.int .i64 (a : Int)).wf = true := by simp [Lit.wf, IntKind.min, IntKind.max, IntKind.bits, IntKind.signed]; omega
  have wk : (Lit.int .i64 (k : Int)).wf = true := by simp [Lit.wf, IntKind.min, IntKind.max, IntKind.bits, IntKind.signed]; omega
  have C := within_any (some ⟨b, o, none⟩) n c a k w hn' wa wk
  rw [winB_yes h1 h8 h] at C
  have C := Lib.hid C
  clear wa wk hn'
  have R := Lib.hid hr
  have HL := Lib.hid hL
  clear hr hL
  have a0 : (0 : Int) ≤ (a : Int) := by omega
  have a1 : (a : Int) ≤ (a : Int) + (k : Int) := by omega
  have a2 : (a : Int) + (k : Int) ≤ (c : Int) := by omega
  have a3 : ¬ c = a := by omega
  go_enter Try.func71, Try.ntmps71
  go_wp2_with (go_at_call 74; refine C.out.mono ?_; rintro e w' ⟨rfl, rfl⟩)
  go_loop [8, 23] (fun n i => ∃ j : Nat, j ≤ k ∧ i = .int .i64 j ∧ n = .int .u64 (beN (L.take j))) (fun _ i => k - (intOf i).toNat)
  case atStart => exact ⟨0, Nat.zero_le _, rfl, rfl⟩
  case round =>
    obtain ⟨j, hj, rfl, rfl⟩ := hrel
    by_cases hlt : j < k
    · have hs := beN_snoc_take L j (by rw [HL.out]; exact hlt)
      have hb : beN (L.take j) < 72057594037927936 := beN_take_lt L j 7 (by omega)
      have hc := R.out j hlt
      have hx := (L.getD j 0).toNat_lt
      generalize (L.getD j 0).toNat = x at hs hc hx
      have HS : Hid (beN (L.take (j + 1)) = beN (L.take j) * 256 + x) := hs
      clear hs
      generalize beN (L.take j) = N at hb HS
      go_wp2
      go_round
      case rel =>
        exact ⟨j + 1, by omega, by go_num, by rw [HS.out, or_byte (by omega) hx]⟩
      case measure => simp [intOf]; omega
    · have e : j = k := by omega
      subst e
      go_wp2
      go_ret2
      exact ⟨rtIB (by rw [List.take_of_length_le (by rw [HL.out]; exact Nat.le_refl _)]), rfl⟩

theorem uint_yes (A : Option Addr) (l : List UInt8) (c a k : Nat) (w : World) (hc : l.length ≤ c) (hcm : c ≤ maxLen) (h1 : 1 ≤ k) (h8 : k ≤ 8) (h : a + k ≤ l.length) (hr : Rd w A l) :
    Calls Try.prog 71 #[.slice A l.length c, .int .i64 a, .int .i64 k] w fun e w' => e = .returned (.tuple #[.int .u64 (beN ((l.drop a).take k)), .bool true]) ∧ w = w' := by
  obtain ⟨b, o, rfl, hcell⟩ := hr (by omega)
  refine uint_at b o l.length c a k ((l.drop a).take k) w (by omega) hc hcm h1 h8 h (by rw [List.length_take, List.length_drop]; omega) fun i hi => ?_
  rw [Nat.add_assoc, hcell (a + i) (by omega)]
  simp [List.getD, List.getElem?_take_of_lt hi]
end Go.Proofs.Ytoijaananjlfpaa
