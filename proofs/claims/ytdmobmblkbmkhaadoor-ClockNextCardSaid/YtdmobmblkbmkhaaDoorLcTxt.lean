/-
  Numbers as digits, and civil times as texts: plain, of no program.
-/
import Derived.Lib.ItoaNum
import Derived.Lib.Repeat
import Derived.Laws.Concat
namespace Go.Proofs.YtdmobmblkbmkhaaDoor
open Go

/-- The digits of n, at least k of them. -/
def dig (n k : Nat) : List UInt8 := List.replicate (k - (Lib.decDigits n).length) 48 ++ Lib.decDigits n
/-- What is still to be told of n, at least k digits. -/
def digR (n k : Nat) : List UInt8 := if n = 0 then List.replicate k 48 else dig n k
theorem dec_big {n : Nat} (h : ¬ n < 10) : Lib.decDigits n = Lib.decDigits (n / 10) ++ [UInt8.ofNat (48 + n % 10)] := by rw [Lib.decDigits, dif_neg h]
theorem dig_big {n : Nat} (k : Nat) (h : ¬ n < 10) : dig n k = dig (n / 10) (k - 1) ++ [UInt8.ofNat (48 + n % 10)] := by
  unfold dig
  rw [dec_big h, List.length_append, List.append_assoc]
  simp only [List.length_cons, List.length_nil]
  rw [show k - ((Lib.decDigits (n / 10)).length + (0 + 1)) = k - 1 - (Lib.decDigits (n / 10)).length by omega]
theorem dig_low {n : Nat} (k : Nat) (h : n < 10) : dig n k = List.replicate (k - 1) 48 ++ [UInt8.ofNat (48 + n)] := by
  unfold dig; rw [Lib.decDigits_one h]; rfl
theorem digR_step {n k : Nat} (h : 0 < n ∨ 0 < k) : digR n k = digR (n / 10) (k - 1) ++ [UInt8.ofNat (48 + n % 10)] := by
  unfold digR
  by_cases z : n = 0
  · subst z
    obtain ⟨j, rfl⟩ : ∃ j, k = j + 1 := ⟨k - 1, by omega⟩
    simp [List.replicate_succ']
  · rw [if_neg z]
    by_cases c : n < 10
    · rw [if_pos (by omega), dig_low k c, Nat.mod_eq_of_lt c]
    · rw [if_neg (by omega), dig_big k c]
theorem digR_is {n k : Nat} (h : 0 < k) : digR n k = dig n k := by
  unfold digR
  by_cases z : n = 0
  · subst z
    rw [if_pos rfl, dig_low k (by omega)]
    obtain ⟨j, rfl⟩ : ∃ j, k = j + 1 := ⟨k - 1, by omega⟩
    simp [List.replicate_succ']
  · rw [if_neg z]
theorem nd_le : ∀ (k n : Nat), n < 10 ^ (k + 1) → Lib.nDigits n ≤ k + 1
  | 0, n, h => by rw [Lib.nDigits_small (by simpa using h)]; exact Nat.le_refl _
  | k + 1, n, h => by
    by_cases c : n < 10
    · rw [Lib.nDigits_small c]; omega
    · rw [Lib.nDigits_big c]
      have := nd_le k (n / 10) (by rw [Nat.pow_succ] at h; omega)
      omega
theorem dec_len {n : Nat} (h : n < 10000000000) : (Lib.decDigits n).length ≤ 10 := by
  rw [Lib.decDigits_length]; exact nd_le 9 n (by simpa using h)
theorem dec_pos (n : Nat) : 1 ≤ (Lib.decDigits n).length := by rw [Lib.decDigits_length]; exact Lib.nDigits_pos n
theorem dig_len (n k : Nat) : (dig n k).length = max k (Lib.decDigits n).length := by
  unfold dig; simp; omega
theorem dec_2 {n : Nat} (h : n < 100) : (Lib.decDigits n).length ≤ 2 := by
  rw [Lib.decDigits_length]; exact nd_le 1 n (by simpa using h)

/-- As texts. -/
def dgU (n k : Nat) : ByteArray := ⟨(dig n k).toArray⟩
def sgB (n : Int) : ByteArray := if n < 0 then ⟨#[45]⟩ else ⟨#[]⟩
def dgB (n : Int) (k : Nat) : ByteArray := sgB n ++ dgU n.natAbs k
def textB (y m d h i s : Int) : ByteArray := dgB y 4 ++ ⟨#[45]⟩ ++ dgB m 2 ++ ⟨#[45]⟩ ++ dgB d 2 ++ ⟨#[32]⟩ ++ dgB h 2 ++ ⟨#[58]⟩ ++ dgB i 2 ++ ⟨#[58]⟩ ++ dgB s 2
theorem dgU_size (n k : Nat) : (dgU n k).size = max k (Lib.decDigits n).length := by
  unfold dgU; rw [ByteArray.size]; simp [dig_len]
theorem sgB_neg {n : Int} (h : n < 0) : sgB n = ⟨#[45]⟩ := if_pos h
theorem sgB_pos {n : Int} (h : 0 ≤ n) : sgB n = ⟨#[]⟩ := if_neg (by omega)
theorem empty_app (a : ByteArray) : (⟨#[]⟩ : ByteArray) ++ a = a := ByteArray.empty_append
theorem app_empty (a : ByteArray) : a ++ (⟨#[]⟩ : ByteArray) = a := ByteArray.append_empty
theorem dgB_pos {n : Int} (h : 0 ≤ n) (k : Nat) : dgB n k = dgU n.toNat k := by
  unfold dgB; rw [sgB_pos h, empty_app, show n.natAbs = n.toNat by omega]
theorem dgB_size {n : Int} (k : Nat) (h1 : -10000000000 < n) (h2 : n < 10000000000) (hk : k ≤ 10) : (dgB n k).size ≤ 11 := by
  unfold dgB
  rw [ByteArray.size_append, dgU_size]
  have := dec_len (n := n.natAbs) (by omega)
  by_cases c : n < 0
  · rw [sgB_neg c]; have : (⟨#[45]⟩ : ByteArray).size = 1 := rfl; omega
  · rw [sgB_pos (by omega)]; have : (⟨#[]⟩ : ByteArray).size = 0 := rfl; omega
theorem dgB_2 {n : Int} (h1 : 0 ≤ n) (h2 : n < 100) : (dgB n 2).size = 2 := by
  rw [dgB_pos h1, dgU_size]
  have := dec_2 (n := n.toNat) (by omega)
  omega
/-- Noughts ahead of the digits. -/
theorem rep_dec (n k c : Nat) (h : c = k - (Lib.decDigits n).length) : (⟨(Lib.repeatL [48] c).toArray⟩ : ByteArray) ++ ⟨(Lib.decDigits n).toArray⟩ = dgU n k := by
  have e : ∀ c, Lib.repeatL [48] c = List.replicate c 48 := by
    intro c
    induction c with
    | zero => rfl
    | succ c ih => rw [Lib.repeatL, ih]; rfl
  unfold dgU dig
  rw [e, h, ByteArray.mk_append_mk]
end Go.Proofs.YtdmobmblkbmkhaaDoor
