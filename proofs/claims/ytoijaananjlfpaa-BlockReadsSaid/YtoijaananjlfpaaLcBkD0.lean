/-
  Blocks, plain: what bytes tell. Nothing of the program stands here.
-/
import Derived.Test.YtoijaananjlfpaaLcBk0
import Derived.Lib.Bytealg
namespace Lc

/-- So many bytes from a place on. -/
def slcB (b : List UInt8) (a k : Nat) : List UInt8 := (b.drop a).take k
theorem slcB_len {b : List UInt8} {a k : Nat} (h : a + k ≤ b.length) : (slcB b a k).length = k := by unfold slcB; rw [List.length_take, List.length_drop]; omega
theorem slcB_get {b : List UInt8} {a k i : Nat} (h : i < k) : (slcB b a k).getD i 0 = b.getD (a + i) 0 := by
  unfold slcB; simp [List.getD, List.getElem?_take_of_lt h]
theorem slcB_slcB {b : List UInt8} {a k i m : Nat} (h : i + m ≤ k) : slcB (slcB b a k) i m = slcB b (a + i) m := by
  unfold slcB
  rw [List.drop_take, List.take_take, List.drop_drop, Nat.min_eq_left (by omega)]
theorem slcB_append_left {b c : List UInt8} {a k : Nat} (h : a + k ≤ b.length) : slcB (b ++ c) a k = slcB b a k := by
  unfold slcB
  rw [List.drop_append_of_le_length (by omega), List.take_append_of_le_length (by rw [List.length_drop]; omega)]
theorem slcB_append_right {b c : List UInt8} {a k : Nat} (h : b.length = a) : slcB (b ++ c) a k = c.take k := by
  unfold slcB; rw [List.drop_left' h]

def rdJ (mo ju : List UInt8) (z i : Nat) : Jmp := ⟨sgI z (beN (slcB mo (i * z) z) : Nat), ((ju.getD i 0).toNat : Int)⟩
def dJ (mo ju : List UInt8) (n z : Nat) : List Jmp := (List.range n).map (rdJ mo ju z)
def rdL (b : List UInt8) (z i : Nat) : Lep := ⟨sgI z (beN (slcB b (i * (z + 4)) z) : Nat), sgI 4 (beN (slcB b (i * (z + 4) + z) 4) : Nat)⟩
def dL (b : List UInt8) (n z : Nat) : List Lep := (List.range n).map (rdL b z)
def rdM (b : List UInt8) (i : Nat) : Bool := decide (b.getD i 0 = 1)
def dM (b : List UInt8) (n : Nat) : List Bool := (List.range n).map (rdM b)
def mOk (b : List UInt8) (n : Nat) : Bool := allB n (fun i => decide ((b.getD i 0).toNat ≤ 1))
/-- Where the name ends, from its place on; -1: nowhere. -/
def nmIx (na : List UInt8) (p : Nat) : Int := Go.Lib.indexByte (na.drop p) 0
def nmOf (na : List UInt8) (p : Nat) : ByteArray := ⟨((na.drop p).take (nmIx na p).toNat).toArray⟩
def kPl (b : List UInt8) (i : Nat) : Nat := (b.getD (i * 6 + 5) 0).toNat
def kGo (b na : List UInt8) (i : Nat) : Bool := decide ((b.getD (i * 6 + 4) 0).toNat ≤ 1) && decide (0 ≤ nmIx na (kPl b i))
def kOk (b na : List UInt8) (n : Nat) : Bool := allB n (kGo b na)
def rdK (b na : List UInt8) (i : Nat) : Knd := ⟨sgI 4 (beN (slcB b (i * 6) 4) : Nat), decide (b.getD (i * 6 + 4) 0 = 1), nmOf na (kPl b i)⟩
def dK (b na : List UInt8) (n : Nat) : List Knd := (List.range n).map (rdK b na)
/-- The seven parts of a body. -/
def pMo (b : List UInt8) (t z : Nat) : List UInt8 := slcB b 0 (t * z)
def pJu (b : List UInt8) (t z : Nat) : List UInt8 := slcB b (t * z) t
def pKi (b : List UInt8) (t y z : Nat) : List UInt8 := slcB b (t * z + t) (y * 6)
def pNa (b : List UInt8) (t y c z : Nat) : List UInt8 := slcB b (t * z + t + y * 6) c
def pLe (b : List UInt8) (t y c l z : Nat) : List UInt8 := slcB b (t * z + t + y * 6 + c) (l * (z + 4))
def pSd (b : List UInt8) (t y c l s z : Nat) : List UInt8 := slcB b (t * z + t + y * 6 + c + l * (z + 4)) s
def pUt (b : List UInt8) (t y c l s u z : Nat) : List UInt8 := slcB b (t * z + t + y * 6 + c + l * (z + 4) + s) u
def dOk (b : List UInt8) (u s l t y c z : Nat) : Bool := kOk (pKi b t y z) (pNa b t y c z) y && mOk (pSd b t y c l s z) s && mOk (pUt b t y c l s u z) u
def dBk (b : List UInt8) (u s l t y c z : Nat) : Blk := ⟨dK (pKi b t y z) (pNa b t y c z) y, dJ (pMo b t z) (pJu b t z) t z, dL (pLe b t y c l z) l z, dM (pSd b t y c l s z) s, dM (pUt b t y c l s u z) u⟩
/-- No block. -/
def bk0 : Blk := ⟨[], [], [], [], []⟩

/-- A row that is filled, so far. -/
def stL {α : Type} (d : α) (f : Nat → α) (n k : Nat) : List α := (List.range k).map f ++ List.replicate (n - k) d
theorem stL_zero {α : Type} (d : α) (f : Nat → α) (n : Nat) : stL d f n 0 = List.replicate n d := by simp [stL]
theorem stL_end {α : Type} (d : α) (f : Nat → α) (n : Nat) : stL d f n n = (List.range n).map f := by simp [stL]
theorem stL_len {α : Type} (d : α) (f : Nat → α) {n k : Nat} (h : k ≤ n) : (stL d f n k).length = n := by simp [stL]; omega
theorem stL_set {α : Type} (d : α) (f : Nat → α) {n k : Nat} (h : k < n) : (stL d f n k).set k (f k) = stL d f n (k + 1) := by
  unfold stL
  rw [List.set_append_right _ _ (by simp), List.range_succ, List.map_append, List.append_assoc]
  congr 1
  rw [show n - k = (n - (k + 1)) + 1 by omega, List.replicate_succ]
  simp
end Lc
