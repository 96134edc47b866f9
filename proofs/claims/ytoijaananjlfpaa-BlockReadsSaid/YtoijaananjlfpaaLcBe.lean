/-
  Numbers as bytes, the highest first: plain. Nothing of the program stands here.
-/
import Derived.Test.YtoijaananjlfpaaLcInt
namespace Lc
open Go Go.RowKit

/-- The number that these bytes tell. -/
def beN (l : List UInt8) : Nat := l.foldl (fun n x => n * 256 + x.toNat) 0
/-- The lowest m bytes of n, the highest first. -/
def beB (m n : Nat) : List UInt8 := (List.range m).map fun j => UInt8.ofNat (n / 256 ^ (m - 1 - j))

theorem beN_nil : beN [] = 0 := rfl
theorem beN_snoc (l : List UInt8) (x : UInt8) : beN (l ++ [x]) = beN l * 256 + x.toNat := by simp [beN]
theorem beN_from (l : List UInt8) (n : Nat) : l.foldl (fun n x => n * 256 + x.toNat) n = n * 256 ^ l.length + beN l := by
  induction l generalizing n with
  | nil => simp [beN]
  | cons x l ih =>
    have e : beN (x :: l) = x.toNat * 256 ^ l.length + beN l := by
      show List.foldl _ (0 * 256 + x.toNat) l = _
      rw [ih]; simp
    rw [List.foldl_cons, ih, e, List.length_cons, Nat.pow_succ, Nat.add_mul, Nat.mul_assoc, Nat.mul_comm 256, Nat.add_assoc]
theorem beN_append (l m : List UInt8) : beN (l ++ m) = beN l * 256 ^ m.length + beN m := by
  unfold beN; rw [List.foldl_append]; exact beN_from m _
theorem beN_lt (l : List UInt8) : beN l < 256 ^ l.length := by
  induction l with
  | nil => simp [beN]
  | cons x l ih =>
    have h := beN_append [x] l
    have hx : beN [x] = x.toNat := by simp [beN]
    have := x.toNat_lt
    rw [hx] at h
    show beN ([x] ++ l) < _
    rw [h, List.length_cons, Nat.pow_succ]
    have : x.toNat * 256 ^ l.length ≤ 255 * 256 ^ l.length := Nat.mul_le_mul_right _ (by omega)
    omega
theorem beN_snoc_take (l : List UInt8) (j : Nat) (h : j < l.length) : beN (l.take (j + 1)) = beN (l.take j) * 256 + (l.getD j 0).toNat := by
  rw [List.take_succ_eq_append_getElem h, beN_snoc]; simp [List.getD, h]
theorem beN_take_lt (l : List UInt8) (j k : Nat) (h : j ≤ k) : beN (l.take j) < 256 ^ k := by
  have h1 := beN_lt (l.take j)
  have h2 : (l.take j).length ≤ k := by rw [List.length_take]; omega
  have h3 : 256 ^ (l.take j).length ≤ 256 ^ k := Nat.pow_le_pow_right (by omega) h2
  omega

theorem beB_len (m n : Nat) : (beB m n).length = m := by simp [beB]
theorem beB_take (m n i : Nat) (h : i < m) : (beB m n).take (i + 1) = (beB m n).take i ++ [UInt8.ofNat (n / 256 ^ (m - 1 - i))] := by
  rw [List.take_succ_eq_append_getElem (by rw [beB_len]; exact h)]; simp [beB]
theorem beN_beB_take (m n i : Nat) (h : i ≤ m) : beN ((beB m n).take i) = (n / 256 ^ (m - i)) % 256 ^ i := by
  induction i with
  | zero => simp [beN, Nat.mod_one]
  | succ i ih =>
    rw [beB_take m n i (by omega), beN_snoc, ih (by omega)]
    have e : m - i = (m - (i + 1)) + 1 := by omega
    have e' : m - 1 - i = m - (i + 1) := by omega
    rw [e, e', Nat.pow_succ, ← Nat.div_div_eq_div_mul]
    generalize n / 256 ^ (m - (i + 1)) = q
    rw [Nat.pow_succ, Nat.mul_comm (256 ^ i) 256, Nat.mod_mul]
    simp
    omega
theorem beN_beB (m n : Nat) : beN (beB m n) = n % 256 ^ m := by
  have h := beN_beB_take m n m (Nat.le_refl _)
  rw [List.take_of_length_le (by rw [beB_len]; exact Nat.le_refl _)] at h
  simpa using h
/-- The first bytes of a number, and the last ones. -/
theorem beN_parts (m n i : Nat) : beN ((beB m n).take i) * 256 ^ (m - i) + beN ((beB m n).drop i) = n % 256 ^ m := by
  rw [← beN_beB]
  have hl : ((beB m n).drop i).length = m - i := by rw [List.length_drop, beB_len]
  have := beN_append ((beB m n).take i) ((beB m n).drop i)
  rw [List.take_append_drop, hl] at this
  omega

/-- The number n of m bytes, with a sign: as the highest bits of a word, shifted back. -/
def sgI (m : Nat) (n : Int) : Int := ((n * 2 ^ (64 - 8 * m) + 9223372036854775808) % 18446744073709551616 - 9223372036854775808) / 2 ^ (64 - 8 * m)
theorem m8 {m : Nat} (h1 : 1 ≤ m) (h8 : m ≤ 8) : m = 1 ∨ m = 2 ∨ m = 3 ∨ m = 4 ∨ m = 5 ∨ m = 6 ∨ m = 7 ∨ m = 8 := by omega
/-- It is less by 2 to the power of its bits, if its highest bit is 1. -/
theorem sgI_is {m : Nat} {n : Int} (h1 : 1 ≤ m) (h8 : m ≤ 8) (n0 : 0 ≤ n) (hn : n < 256 ^ m) : sgI m n = if n < 2 ^ (8 * m - 1) then n else n - 2 ^ (8 * m) := by
  unfold sgI
  rcases m8 h1 h8 with rfl | rfl | rfl | rfl | rfl | rfl | rfl | rfl <;> simp at hn ⊢ <;> split <;> omega
/-- Only what fits matters. -/
theorem sgI_mod {m : Nat} {n k : Int} (h1 : 1 ≤ m) (h8 : m ≤ 8) (h : n % 256 ^ m = k % 256 ^ m) : sgI m n = sgI m k := by
  unfold sgI
  rcases m8 h1 h8 with rfl | rfl | rfl | rfl | rfl | rfl | rfl | rfl <;> simp at h ⊢ <;> omega
end Lc
