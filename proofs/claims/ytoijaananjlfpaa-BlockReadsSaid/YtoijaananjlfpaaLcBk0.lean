/-
  Blocks, plain: kinds, jumps, leap seconds, marks; what is right; names that are laid once each. Nothing of the program stands here.
-/
import Derived.Test.YtoijaananjlfpaaLcBe
namespace Lc

/-- A kind of local time. -/
structure Knd where
  off : Int
  dst : Bool
  name : ByteArray
/-- A jump. -/
structure Jmp where
  t : Int
  k : Int
/-- A leap second. -/
structure Lep where
  t : Int
  c : Int
def k0 : Knd := ⟨0, false, ByteArray.empty⟩
def j0 : Jmp := ⟨0, 0⟩
def l0 : Lep := ⟨0, 0⟩
/-- A block. -/
structure Blk where
  ks : List Knd
  js : List Jmp
  ls : List Lep
  sd : List Bool
  ut : List Bool

/-- Of all numbers below n. -/
def allB (n : Nat) (p : Nat → Bool) : Bool := (List.range n).all p
theorem allB_true {n : Nat} {p : Nat → Bool} : allB n p = true ↔ ∀ i, i < n → p i = true := by simp [allB]
theorem allB_no {n : Nat} {p : Nat → Bool} {k : Nat} (h : k < n) (hp : p k = false) : allB n p = false := by
  cases c : allB n p with
  | false => rfl
  | true => have := allB_true.1 c k h; rw [hp] at this; cases this
theorem allB_false {n : Nat} {p : Nat → Bool} (h : allB n p = false) : ∃ k, k < n ∧ p k = false := by
  unfold allB at h
  rw [List.all_eq_false] at h
  obtain ⟨k, hk, hp⟩ := h
  exact ⟨k, List.mem_range.1 hk, by simpa using hp⟩

theorem getD_out {α : Type} {l : List α} {k : Nat} {d : α} (h : l.length ≤ k) : l.getD k d = d := by simp [List.getD, h]
/-- The bytes of a text. -/
abbrev tx (s : ByteArray) : List UInt8 := s.data.toList
instance memDec (s : ByteArray) : (l : List ByteArray) → Decidable (s ∈ l)
  | [] => isFalse (by simp)
  | x :: l =>
    if h : s = x then isTrue (by simp [h])
    else match memDec s l with
      | isTrue g => isTrue (List.mem_cons_of_mem _ g)
      | isFalse g => isFalse (by simp [h, g])
/-- The first k names, each once, each with a byte 0 behind. -/
def layN (ns : List ByteArray) : Nat → List UInt8
  | 0 => []
  | k + 1 => if ns.getD k ByteArray.empty ∈ ns.take k then layN ns k else layN ns k ++ (tx (ns.getD k ByteArray.empty) ++ [0])
/-- Where a name is first. -/
def idx (s : ByteArray) : List ByteArray → Nat
  | [] => 0
  | x :: l => if x = s then 0 else idx s l + 1
/-- The place of a name. -/
def plcN (ns : List ByteArray) (s : ByteArray) : Nat := (layN ns (idx s ns)).length
theorem layN_old {ns : List ByteArray} {k : Nat} (h : ns.getD k ByteArray.empty ∈ ns.take k) : layN ns (k + 1) = layN ns k := by
  rw [layN, if_pos h]
theorem layN_new {ns : List ByteArray} {k : Nat} (h : ¬ ns.getD k ByteArray.empty ∈ ns.take k) : layN ns (k + 1) = layN ns k ++ (tx (ns.getD k ByteArray.empty) ++ [0]) := by
  rw [layN, if_neg h]
theorem layN_le (ns : List ByteArray) (k m : Nat) (h : ∀ i, i < k → (ns.getD i ByteArray.empty).size ≤ m) : (layN ns k).length ≤ k * (m + 1) := by
  induction k with
  | zero => simp [layN]
  | succ k ih =>
    have h1 := ih fun i hi => h i (by omega)
    have h2 := h k (by omega)
    rw [layN, Nat.succ_mul]
    split
    · omega
    · have : (tx (ns.getD k ByteArray.empty)).length = (ns.getD k ByteArray.empty).size := rfl
      simp only [List.length_append, List.length_cons, List.length_nil]; omega
theorem layN_mono (ns : List ByteArray) {i k : Nat} (h : i ≤ k) : (layN ns i).length ≤ (layN ns k).length := by
  induction k with
  | zero => have : i = 0 := by omega
            subst this; exact Nat.le_refl _
  | succ k ih =>
    rcases Nat.lt_or_ge i (k + 1) with h1 | h1
    · have := ih (by omega)
      rw [layN]; split
      · exact this
      · simp; omega
    · have : i = k + 1 := by omega
      subst this; exact Nat.le_refl _
theorem getD_mem {ns : List ByteArray} {k : Nat} (h : k < ns.length) : ns.getD k ByteArray.empty ∈ ns := by
  simp [List.getD, h]
/-- A name that was not there till k is first at k. -/
theorem idx_new {ns : List ByteArray} {k : Nat} (h : k < ns.length) (hn : ¬ ns.getD k ByteArray.empty ∈ ns.take k) : idx (ns.getD k ByteArray.empty) ns = k := by
  induction ns generalizing k with
  | nil => simp at h
  | cons x l ih =>
    cases k with
    | zero => simp [idx]
    | succ k =>
      simp only [List.getD_cons_succ, List.take_succ_cons, List.mem_cons, not_or] at hn ⊢
      rw [idx, if_neg (fun e => hn.1 e.symm), ih (by simpa using h) hn.2]
theorem idx_lt {ns : List ByteArray} {k : Nat} {s : ByteArray} (h : s ∈ ns.take k) : idx s ns < k := by
  induction ns generalizing k with
  | nil => simp at h
  | cons x l ih =>
    cases k with
    | zero => simp at h
    | succ k =>
      rw [idx]
      split
      · omega
      · rename_i hx
        simp only [List.take_succ_cons, List.mem_cons] at h
        rcases h with h | h
        · exact absurd h.symm hx
        · have := ih h; omega
theorem idx_get {ns : List ByteArray} {s : ByteArray} (h : s ∈ ns) : ns.getD (idx s ns) ByteArray.empty = s := by
  induction ns with
  | nil => simp at h
  | cons x l ih =>
    rw [idx]
    split
    · simpa using ‹x = s›
    · rename_i hx
      rcases List.mem_cons.1 h with h | h
      · exact absurd h.symm hx
      · simpa using ih h
theorem idx_min {ns : List ByteArray} {s : ByteArray} : ¬ s ∈ ns.take (idx s ns) := fun h => by
  have := idx_lt h; omega

/-- A number fits so many bytes. -/
def fitZ (n z : Int) : Bool := decide (z = 8) || (decide (-2147483648 ≤ n) && decide (n ≤ 2147483647))
/-- A text without a byte 0. -/
def noz (s : ByteArray) : Bool := !(tx s).contains 0
def rkOne (k : Knd) : Bool := decide (-2147483647 ≤ k.off) && decide (k.off ≤ 2147483647) && decide (k.name.size < 256) && noz k.name
/-- Kinds that are right. -/
def rkB (ks : List Knd) : Bool := decide (1 ≤ ks.length) && decide (ks.length ≤ 256) && allB ks.length (fun i => rkOne (ks.getD i k0)) && decide ((layN (ks.map Knd.name) ks.length).length ≤ 256)
/-- Marks that are right. -/
def rmB (sd ut : List Bool) (n : Nat) : Bool := (decide (sd.length = 0) || decide (sd.length = n)) && (decide (ut.length = 0) || decide (ut.length = n)) && allB ut.length (fun i => !ut.getD i false || sd.getD i false)
def rjOne (js : List Jmp) (n : Nat) (z : Int) (i : Nat) : Bool := (decide (i = 0) || decide ((js.getD (i - 1) j0).t < (js.getD i j0).t)) && fitZ (js.getD i j0).t z && decide (0 ≤ (js.getD i j0).k) && decide ((js.getD i j0).k < n)
theorem rjOne_succ (js : List Jmp) (n : Nat) (z : Int) (m : Nat) : rjOne js n z (m + 1) = (decide ((js.getD m j0).t < (js.getD (m + 1) j0).t) && fitZ (js.getD (m + 1) j0).t z && decide (0 ≤ (js.getD (m + 1) j0).k) && decide ((js.getD (m + 1) j0).k < n)) := by
  show ((decide (m + 1 = 0) || decide ((js.getD m j0).t < (js.getD (m + 1) j0).t)) && _ && _ && _) = _
  simp
/-- Jumps that are right. -/
def rjB (js : List Jmp) (n : Nat) (z : Int) : Bool := decide (js.length ≤ 5000) && allB js.length (rjOne js n z)
def pvT (ls : List Lep) (i : Nat) : Int := if i = 0 then -1 else (ls.getD (i - 1) l0).t
def pvC (ls : List Lep) (i : Nat) : Int := if i = 0 then 0 else (ls.getD (i - 1) l0).c
def idleB (ls : List Lep) (ver : Int) (i : Nat) : Bool := decide (ver = 4) && decide (0 < i) && decide (i + 1 = ls.length) && decide ((ls.getD i l0).c = pvC ls i)
def rlOne (ls : List Lep) (z ver : Int) (i : Nat) : Bool := decide (pvT ls i < (ls.getD i l0).t) && fitZ (ls.getD i l0).t z && (decide ((ls.getD i l0).c = pvC ls i + 1) || decide ((ls.getD i l0).c = pvC ls i - 1) || idleB ls ver i)
theorem rlOne_eq {ls : List Lep} {z ver : Int} {k q : Nat} {t c pt pc : Int} (hq : ls.length = q) (e1 : (ls.getD k l0).t = t) (e2 : (ls.getD k l0).c = c) (e3 : pvT ls k = pt) (e4 : pvC ls k = pc) :
    rlOne ls z ver k = (decide (pt < t) && fitZ t z && (decide (c = pc + 1) || decide (c = pc - 1) || (decide (ver = 4) && decide (0 < k) && decide (k + 1 = q) && decide (c = pc)))) := by
  unfold rlOne idleB; rw [e1, e2, e3, e4, hq]
theorem pvT_succ (ls : List Lep) (k : Nat) : pvT ls (k + 1) = (ls.getD k l0).t := rfl
theorem pvC_succ (ls : List Lep) (k : Nat) : pvC ls (k + 1) = (ls.getD k l0).c := rfl
/-- Leap seconds that are right. -/
def rlB (ls : List Lep) (z ver : Int) : Bool := decide (ls.length ≤ 5000) && allB ls.length (rlOne ls z ver)
def zB (z : Int) : Bool := decide (z = 4) || decide (z = 8)
/-- A block that is right. -/
def rightB (x : Blk) (z ver : Int) : Bool := zB z && rkB x.ks && rmB x.sd x.ut x.ks.length && rjB x.js x.ks.length z && rlB x.ls z ver

theorem pv_bd {ls : List Lep} {z ver : Int} {k : Nat} (h : ∀ i, i < k → rlOne ls z ver i = true) : -(k : Int) ≤ pvC ls k ∧ pvC ls k ≤ k := by
  induction k with
  | zero => simp [pvC]
  | succ k ih =>
    have h1 := ih fun i hi => h i (by omega)
    have h2 := h k (by omega)
    unfold rlOne idleB at h2
    simp only [Bool.and_eq_true, Bool.or_eq_true, decide_eq_true_eq] at h2
    have e : pvC ls (k + 1) = (ls.getD k l0).c := by unfold pvC; simp
    rw [e]
    omega

/-- A number with a sign, as one of 64 bits without. -/
def un (n : Int) : Nat := (n % 18446744073709551616).toNat
/-- A truth as a byte. -/
def mkB (b : Bool) : UInt8 := if b then 1 else 0
/-- The lowest byte. -/
def loB (n : Int) : UInt8 := UInt8.ofNat (n % 256).toNat
def mtB (z : Nat) (js : List Jmp) : List UInt8 := js.flatMap fun j => beB z (un j.t)
def mjB (js : List Jmp) : List UInt8 := js.map fun j => loB j.k
def tkB (ns : List ByteArray) (ks : List Knd) : List UInt8 := ks.flatMap fun k => beB 4 (un k.off) ++ [mkB k.dst, loB (plcN ns k.name)]
def tlB (z : Nat) (ls : List Lep) : List UInt8 := ls.flatMap fun l => beB z (un l.t) ++ beB 4 (un l.c)
def tmB (bs : List Bool) : List UInt8 := bs.map mkB
/-- The names of a block's kinds. -/
def nmB (x : Blk) : List UInt8 := layN (x.ks.map Knd.name) x.ks.length
/-- The bytes of a block. -/
def encL (x : Blk) (z : Nat) : List UInt8 := mtB z x.js ++ mjB x.js ++ tkB (x.ks.map Knd.name) x.ks ++ nmB x ++ tlB z x.ls ++ tmB x.sd ++ tmB x.ut
theorem fm_take {α : Type} (f : α → List UInt8) (l : List α) (d : α) {k : Nat} (h : k < l.length) : (l.take (k + 1)).flatMap f = (l.take k).flatMap f ++ f (l.getD k d) := by
  rw [List.take_succ_eq_append_getElem h, List.flatMap_append]
  simp [List.getD, h]
theorem mp_take {α : Type} (f : α → UInt8) (l : List α) (d : α) {k : Nat} (h : k < l.length) : (l.take (k + 1)).map f = (l.take k).map f ++ [f (l.getD k d)] := by
  rw [List.take_succ_eq_append_getElem h, List.map_append]
  simp [List.getD, h]
theorem fm_len {α : Type} (f : α → List UInt8) (m : Nat) (hf : ∀ a, (f a).length = m) (l : List α) : (l.flatMap f).length = l.length * m := by
  induction l with
  | nil => simp
  | cons a l ih => rw [List.flatMap_cons, List.length_append, hf, ih, List.length_cons, Nat.succ_mul]; omega
theorem mtB_len (z : Nat) (js : List Jmp) : (mtB z js).length = js.length * z := fm_len _ z (fun _ => beB_len _ _) js
theorem mjB_len (js : List Jmp) : (mjB js).length = js.length := by simp [mjB]
theorem tkB_len (ns : List ByteArray) (ks : List Knd) : (tkB ns ks).length = ks.length * 6 := fm_len _ 6 (fun _ => by simp [beB_len]) ks
theorem tlB_len (z : Nat) (ls : List Lep) : (tlB z ls).length = ls.length * (z + 4) := fm_len _ (z + 4) (fun _ => by simp [beB_len]) ls
theorem tmB_len (bs : List Bool) : (tmB bs).length = bs.length := by simp [tmB]
theorem encL_len (x : Blk) (z : Nat) : (encL x z).length = x.js.length * z + x.js.length + x.ks.length * 6 + (nmB x).length + x.ls.length * (z + 4) + x.sd.length + x.ut.length := by
  unfold encL
  simp only [List.length_append, mtB_len, mjB_len, tkB_len, tlB_len, tmB_len]
end Lc
