/-
  Blocks, plain: kinds, jumps, leap seconds, marks; what is right; names that are laid once each. Nothing of the program stands here.
-/
import Derived.Test.YtaljddoenjgbfaaGreatLcMa
import Derived.Test.YtaljddoenjgbfaaGreatLcMb
import Derived.Lib.IndexAny
namespace Lc

/-- A kind of local time. -/
structure Knd where
  off : Int
  dst : Bool
  name : ByteArray
/-- A jump. -/
structure Jmp where
  t : Int
  k : Int
/-- A leap second. -/
structure Lep where
  t : Int
  c : Int
def k0 : Knd := ⟨0, false, ByteArray.empty⟩
def j0 : Jmp := ⟨0, 0⟩
def l0 : Lep := ⟨0, 0⟩
/-- A block. -/
structure Blk where
  ks : List Knd
  js : List Jmp
  ls : List Lep
  sd : List Bool
  ut : List Bool

/-- Of all numbers below n. -/
def allB (n : Nat) (p : Nat → Bool) : Bool := (List.range n).all p
set_option maxRecDepth 100000 in
theorem allB_true {n : Nat} {p : Nat → Bool} : allB n p = true ↔ ∀ i, i < n → p i = true := by simp [allB]
set_option maxRecDepth 100000 in
theorem allB_no {n : Nat} {p : Nat → Bool} {k : Nat} (h : k < n) (hp : p k = false) : allB n p = false := by
  cases c : allB n p with
  | false => rfl
  | true => have := allB_true.1 c k h; rw [hp] at this; cases this
set_option maxRecDepth 100000 in
theorem allB_false {n : Nat} {p : Nat → Bool} (h : allB n p = false) : ∃ k, k < n ∧ p k = false := by
  unfold allB at h
  rw [List.all_eq_false] at h
  obtain ⟨k, hk, hp⟩ := h
  exact ⟨k, List.mem_range.1 hk, by simpa using hp⟩

set_option maxRecDepth 100000 in
theorem getD_out {α : Type} {l : List α} {k : Nat} {d : α} (h : l.length ≤ k) : l.getD k d = d := by simp [List.getD, h]
/-- The bytes of a text. -/
abbrev tx (s : ByteArray) : List UInt8 := s.data.toList
instance memDec (s : ByteArray) : (l : List ByteArray) → Decidable (s ∈ l)
  | [] => isFalse (by simp)
  | x :: l =>
    if h : s = x then isTrue (by simp [h])
    else match memDec s l with
      | isTrue g => isTrue (List.mem_cons_of_mem _ g)
      | isFalse g => isFalse (by simp [h, g])
/-- The first k names, each once, each with a byte 0 behind. -/
def layN (ns : List ByteArray) : Nat → List UInt8
  | 0 => []
  | k + 1 => if ns.getD k ByteArray.empty ∈ ns.take k then layN ns k else layN ns k ++ (tx (ns.getD k ByteArray.empty) ++ [0])
/-- Where a name is first. -/
def idx (s : ByteArray) : List ByteArray → Nat
  | [] => 0
  | x :: l => if x = s then 0 else idx s l + 1
/-- The place of a name. -/
def plcN (ns : List ByteArray) (s : ByteArray) : Nat := (layN ns (idx s ns)).length
set_option maxRecDepth 100000 in
theorem layN_old {ns : List ByteArray} {k : Nat} (h : ns.getD k ByteArray.empty ∈ ns.take k) : layN ns (k + 1) = layN ns k := by
  rw [layN, if_pos h]
set_option maxRecDepth 100000 in
theorem layN_new {ns : List ByteArray} {k : Nat} (h : ¬ ns.getD k ByteArray.empty ∈ ns.take k) : layN ns (k + 1) = layN ns k ++ (tx (ns.getD k ByteArray.empty) ++ [0]) := by
  rw [layN, if_neg h]
set_option maxRecDepth 100000 in
theorem layN_le (ns : List ByteArray) (k m : Nat) (h : ∀ i, i < k → (ns.getD i ByteArray.empty).size ≤ m) : (layN ns k).length ≤ k * (m + 1) := by
  induction k with
  | zero => simp [layN]
  | succ k ih =>
    have h1 := ih fun i hi => h i (by omega)
    have h2 := h k (by omega)
    rw [layN, Nat.succ_mul]
    split
    · omega
    · have : (tx (ns.getD k ByteArray.empty)).length = (ns.getD k ByteArray.empty).size := rfl
      simp only [List.length_append, List.length_cons, List.length_nil]; omega
set_option maxRecDepth 100000 in
theorem layN_mono (ns : List ByteArray) {i k : Nat} (h : i ≤ k) : (layN ns i).length ≤ (layN ns k).length := by
  induction k with
  | zero => have : i = 0 := by omega
            subst this; exact Nat.le_refl _
  | succ k ih =>
    rcases Nat.lt_or_ge i (k + 1) with h1 | h1
    · have := ih (by omega)
      rw [layN]; split
      · exact this
      · simp; omega
    · have : i = k + 1 := by omega
      subst this; exact Nat.le_refl _
set_option maxRecDepth 100000 in
theorem getD_mem {ns : List ByteArray} {k : Nat} (h : k < ns.length) : ns.getD k ByteArray.empty ∈ ns := by
  simp [List.getD, h]
set_option maxRecDepth 100000 in
/-- A name that was not there till k is first at k. -/
theorem idx_new {ns : List ByteArray} {k : Nat} (h : k < ns.length) (hn : ¬ ns.getD k ByteArray.empty ∈ ns.take k) : idx (ns.getD k ByteArray.empty) ns = k := by
  induction ns generalizing k with
  | nil => simp at h
  | cons x l ih =>
    cases k with
    | zero => simp [idx]
    | succ k =>
      simp only [List.getD_cons_succ, List.take_succ_cons, List.mem_cons, not_or] at hn ⊢
      rw [idx, if_neg (fun e => hn.1 e.symm), ih (by simpa using h) hn.2]
set_option maxRecDepth 100000 in
theorem idx_lt {ns : List ByteArray} {k : Nat} {s : ByteArray} (h : s ∈ ns.take k) : idx s ns < k := by
  induction ns generalizing k with
  | nil => simp at h
  | cons x l ih =>
    cases k with
    | zero => simp at h
    | succ k =>
      rw [idx]
      split
      · omega
      · rename_i hx
        simp only [List.take_succ_cons, List.mem_cons] at h
        rcases h with h | h
        · exact absurd h.symm hx
        · have := ih h; omega
set_option maxRecDepth 100000 in
theorem idx_get {ns : List ByteArray} {s : ByteArray} (h : s ∈ ns) : ns.getD (idx s ns) ByteArray.empty = s := by
  induction ns with
  | nil => simp at h
  | cons x l ih =>
    rw [idx]
    split
    · simpa using ‹x = s›
    · rename_i hx
      rcases List.mem_cons.1 h with h | h
      · exact absurd h.symm hx
      · simpa using ih h
set_option maxRecDepth 100000 in
theorem idx_min {ns : List ByteArray} {s : ByteArray} : ¬ s ∈ ns.take (idx s ns) := fun h => by
  have := idx_lt h; omega

/-- A number fits so many bytes. -/
def fitZ (n z : Int) : Bool := decide (z = 8) || (decide (-2147483648 ≤ n) && decide (n ≤ 2147483647))
/-- A text without a byte 0. -/
def noz (s : ByteArray) : Bool := !(tx s).contains 0
def rkOne (k : Knd) : Bool := decide (-2147483647 ≤ k.off) && decide (k.off ≤ 2147483647) && decide (k.name.size < 256) && noz k.name
/-- Kinds that are right. -/
def rkB (ks : List Knd) : Bool := decide (1 ≤ ks.length) && decide (ks.length ≤ 256) && allB ks.length (fun i => rkOne (ks.getD i k0)) && decide ((layN (ks.map Knd.name) ks.length).length ≤ 256)
/-- Marks that are right. -/
def rmB (sd ut : List Bool) (n : Nat) : Bool := (decide (sd.length = 0) || decide (sd.length = n)) && (decide (ut.length = 0) || decide (ut.length = n)) && allB ut.length (fun i => !ut.getD i false || sd.getD i false)
def rjOne (js : List Jmp) (n : Nat) (z : Int) (i : Nat) : Bool := (decide (i = 0) || decide ((js.getD (i - 1) j0).t < (js.getD i j0).t)) && fitZ (js.getD i j0).t z && decide (0 ≤ (js.getD i j0).k) && decide ((js.getD i j0).k < n)
set_option maxRecDepth 100000 in
theorem rjOne_succ (js : List Jmp) (n : Nat) (z : Int) (m : Nat) : rjOne js n z (m + 1) = (decide ((js.getD m j0).t < (js.getD (m + 1) j0).t) && fitZ (js.getD (m + 1) j0).t z && decide (0 ≤ (js.getD (m + 1) j0).k) && decide ((js.getD (m + 1) j0).k < n)) := by
  show ((decide (m + 1 = 0) || decide ((js.getD m j0).t < (js.getD (m + 1) j0).t)) && _ && _ && _) = _
  simp
/-- Jumps that are right. -/
def rjB (js : List Jmp) (n : Nat) (z : Int) : Bool := decide (js.length ≤ 5000) && allB js.length (rjOne js n z)
def pvT (ls : List Lep) (i : Nat) : Int := if i = 0 then -1 else (ls.getD (i - 1) l0).t
def pvC (ls : List Lep) (i : Nat) : Int := if i = 0 then 0 else (ls.getD (i - 1) l0).c
def idleB (ls : List Lep) (ver : Int) (i : Nat) : Bool := decide (ver = 4) && decide (0 < i) && decide (i + 1 = ls.length) && decide ((ls.getD i l0).c = pvC ls i)
def rlOne (ls : List Lep) (z ver : Int) (i : Nat) : Bool := decide (pvT ls i < (ls.getD i l0).t) && fitZ (ls.getD i l0).t z && (decide ((ls.getD i l0).c = pvC ls i + 1) || decide ((ls.getD i l0).c = pvC ls i - 1) || idleB ls ver i)
set_option maxRecDepth 100000 in
theorem rlOne_eq {ls : List Lep} {z ver : Int} {k q : Nat} {t c pt pc : Int} (hq : ls.length = q) (e1 : (ls.getD k l0).t = t) (e2 : (ls.getD k l0).c = c) (e3 : pvT ls k = pt) (e4 : pvC ls k = pc) :
    rlOne ls z ver k = (decide (pt < t) && fitZ t z && (decide (c = pc + 1) || decide (c = pc - 1) || (decide (ver = 4) && decide (0 < k) && decide (k + 1 = q) && decide (c = pc)))) := by
  unfold rlOne idleB; rw [e1, e2, e3, e4, hq]
set_option maxRecDepth 100000 in
theorem pvT_succ (ls : List Lep) (k : Nat) : pvT ls (k + 1) = (ls.getD k l0).t := rfl
set_option maxRecDepth 100000 in
theorem pvC_succ (ls : List Lep) (k : Nat) : pvC ls (k + 1) = (ls.getD k l0).c := rfl
/-- Leap seconds that are right. -/
def rlB (ls : List Lep) (z ver : Int) : Bool := decide (ls.length ≤ 5000) && allB ls.length (rlOne ls z ver)
def zB (z : Int) : Bool := decide (z = 4) || decide (z = 8)
/-- A block that is right. -/
def rightB (x : Blk) (z ver : Int) : Bool := zB z && rkB x.ks && rmB x.sd x.ut x.ks.length && rjB x.js x.ks.length z && rlB x.ls z ver

set_option maxRecDepth 100000 in
theorem pv_bd {ls : List Lep} {z ver : Int} {k : Nat} (h : ∀ i, i < k → rlOne ls z ver i = true) : -(k : Int) ≤ pvC ls k ∧ pvC ls k ≤ k := by
  induction k with
  | zero => simp [pvC]
  | succ k ih =>
    have h1 := ih fun i hi => h i (by omega)
    have h2 := h k (by omega)
    unfold rlOne idleB at h2
    simp only [Bool.and_eq_true, Bool.or_eq_true, decide_eq_true_eq] at h2
    have e : pvC ls (k + 1) = (ls.getD k l0).c := by unfold pvC; simp
    rw [e]
    omega

/-- A number with a sign, as one of 64 bits without. -/
def un (n : Int) : Nat := (n % 18446744073709551616).toNat
/-- A truth as a byte. -/
def mkB (b : Bool) : UInt8 := if b then 1 else 0
/-- The lowest byte. -/
def loB (n : Int) : UInt8 := UInt8.ofNat (n % 256).toNat
def mtB (z : Nat) (js : List Jmp) : List UInt8 := js.flatMap fun j => beB z (un j.t)
def mjB (js : List Jmp) : List UInt8 := js.map fun j => loB j.k
def tkB (ns : List ByteArray) (ks : List Knd) : List UInt8 := ks.flatMap fun k => beB 4 (un k.off) ++ [mkB k.dst, loB (plcN ns k.name)]
def tlB (z : Nat) (ls : List Lep) : List UInt8 := ls.flatMap fun l => beB z (un l.t) ++ beB 4 (un l.c)
def tmB (bs : List Bool) : List UInt8 := bs.map mkB
/-- The names of a block's kinds. -/
def nmB (x : Blk) : List UInt8 := layN (x.ks.map Knd.name) x.ks.length
/-- The bytes of a block. -/
def encL (x : Blk) (z : Nat) : List UInt8 := mtB z x.js ++ mjB x.js ++ tkB (x.ks.map Knd.name) x.ks ++ nmB x ++ tlB z x.ls ++ tmB x.sd ++ tmB x.ut
set_option maxRecDepth 100000 in
theorem fm_take {α : Type} (f : α → List UInt8) (l : List α) (d : α) {k : Nat} (h : k < l.length) : (l.take (k + 1)).flatMap f = (l.take k).flatMap f ++ f (l.getD k d) := by
  rw [List.take_succ_eq_append_getElem h, List.flatMap_append]
  simp [List.getD, h]
set_option maxRecDepth 100000 in
theorem mp_take {α : Type} (f : α → UInt8) (l : List α) (d : α) {k : Nat} (h : k < l.length) : (l.take (k + 1)).map f = (l.take k).map f ++ [f (l.getD k d)] := by
  rw [List.take_succ_eq_append_getElem h, List.map_append]
  simp [List.getD, h]
set_option maxRecDepth 100000 in
theorem fm_len {α : Type} (f : α → List UInt8) (m : Nat) (hf : ∀ a, (f a).length = m) (l : List α) : (l.flatMap f).length = l.length * m := by
  induction l with
  | nil => simp
  | cons a l ih => rw [List.flatMap_cons, List.length_append, hf, ih, List.length_cons, Nat.succ_mul]; omega
set_option maxRecDepth 100000 in
theorem mtB_len (z : Nat) (js : List Jmp) : (mtB z js).length = js.length * z := fm_len _ z (fun _ => beB_len _ _) js
set_option maxRecDepth 100000 in
theorem mjB_len (js : List Jmp) : (mjB js).length = js.length := by simp [mjB]
set_option maxRecDepth 100000 in
theorem tkB_len (ns : List ByteArray) (ks : List Knd) : (tkB ns ks).length = ks.length * 6 := fm_len _ 6 (fun _ => by simp [beB_len]) ks
set_option maxRecDepth 100000 in
theorem tlB_len (z : Nat) (ls : List Lep) : (tlB z ls).length = ls.length * (z + 4) := fm_len _ (z + 4) (fun _ => by simp [beB_len]) ls
set_option maxRecDepth 100000 in
theorem tmB_len (bs : List Bool) : (tmB bs).length = bs.length := by simp [tmB]
set_option maxRecDepth 100000 in
theorem encL_len (x : Blk) (z : Nat) : (encL x z).length = x.js.length * z + x.js.length + x.ks.length * 6 + (nmB x).length + x.ls.length * (z + 4) + x.sd.length + x.ut.length := by
  unfold encL
  simp only [List.length_append, mtB_len, mjB_len, tkB_len, tlB_len, tmB_len]
end Lc
/-
  Slices of kinds, jumps, leap seconds and marks, as cells; a block as a value.
-/
namespace Go.Proofs.YtaljddoenjgbfaaGreat
open Go.ChangeShapes Go.WideShapes Go.ChangeAt Go.RowKit Lc

/-- From this address on the values vs lie in memory. -/
def Rc (w : World) (A : Option Addr) (vs : List Value) : Prop :=
  0 < vs.length → ∃ b o, A = some ⟨b, o, none⟩ ∧ ∀ i v, vs[i]? = some v → w.cell? ⟨b, o + i, none⟩ = some v
set_option maxRecDepth 100000 in
theorem Rc.up {w w' : World} {A : Option Addr} {vs : List Value} (h : Rc w A vs) (u : Up w w') : Rc w' A vs := fun h0 => by
  obtain ⟨b, o, e, hc⟩ := h h0
  exact ⟨b, o, e, fun i v hi => u.cell (hc i v hi)⟩
set_option maxRecDepth 100000 in
theorem Rc.nil (w : World) (A : Option Addr) : Rc w A [] := fun h => absurd h (by simp)

/-- The cells of so many kinds. -/
def kc (ks : List Knd) : List Value := ks.flatMap fun k => [.int .i64 k.off, .bool k.dst, .string k.name]
def jc (js : List Jmp) : List Value := js.flatMap fun j => [.int .i64 j.t, .int .i64 j.k]
def lc (ls : List Lep) : List Value := ls.flatMap fun l => [.int .i64 l.t, .int .i64 l.c]
def oc (bs : List Bool) : List Value := bs.map .bool
set_option maxRecDepth 100000 in
theorem kc_len (ks : List Knd) : (kc ks).length = ks.length * 3 := by induction ks with
  | nil => rfl
  | cons k ks ih => simp only [kc, List.flatMap_cons, List.length_append, List.length_cons, List.length_nil] at ih ⊢; omega
set_option maxRecDepth 100000 in
theorem jc_len (ks : List Jmp) : (jc ks).length = ks.length * 2 := by induction ks with
  | nil => rfl
  | cons k ks ih => simp only [jc, List.flatMap_cons, List.length_append, List.length_cons, List.length_nil] at ih ⊢; omega
set_option maxRecDepth 100000 in
theorem lc_len (ks : List Lep) : (lc ks).length = ks.length * 2 := by induction ks with
  | nil => rfl
  | cons k ks ih => simp only [lc, List.flatMap_cons, List.length_append, List.length_cons, List.length_nil] at ih ⊢; omega
set_option maxRecDepth 100000 in
theorem oc_len (bs : List Bool) : (oc bs).length = bs.length := by simp [oc]
set_option maxRecDepth 100000 in
theorem kc_append (a b : List Knd) : kc (a ++ b) = kc a ++ kc b := by simp [kc]
set_option maxRecDepth 100000 in
theorem jc_append (a b : List Jmp) : jc (a ++ b) = jc a ++ jc b := by simp [jc]
set_option maxRecDepth 100000 in
theorem lc_append (a b : List Lep) : lc (a ++ b) = lc a ++ lc b := by simp [lc]
set_option maxRecDepth 100000 in
theorem oc_append (a b : List Bool) : oc (a ++ b) = oc a ++ oc b := by simp [oc]
set_option maxRecDepth 100000 in
theorem kc_get {ks : List Knd} {i : Nat} (h : i < ks.length) : (kc ks)[i * 3]? = some (.int .i64 (ks.getD i k0).off) ∧ (kc ks)[i * 3 + 1]? = some (.bool (ks.getD i k0).dst) ∧ (kc ks)[i * 3 + 2]? = some (.string (ks.getD i k0).name) := by
  induction ks generalizing i with
  | nil => simp at h
  | cons k ks ih =>
    cases i with
    | zero => exact ⟨rfl, rfl, rfl⟩
    | succ i =>
      obtain ⟨a, b, c⟩ := ih (i := i) (by simpa using h)
      have e : kc (k :: ks) = .int .i64 k.off :: .bool k.dst :: .string k.name :: kc ks := rfl
      rw [e, show (i + 1) * 3 = i * 3 + 1 + 1 + 1 by omega]
      simp only [List.getElem?_cons_succ, List.getD_cons_succ]
      exact ⟨a, b, c⟩
set_option maxRecDepth 100000 in
theorem jc_get {ks : List Jmp} {i : Nat} (h : i < ks.length) : (jc ks)[i * 2]? = some (.int .i64 (ks.getD i j0).t) ∧ (jc ks)[i * 2 + 1]? = some (.int .i64 (ks.getD i j0).k) := by
  induction ks generalizing i with
  | nil => simp at h
  | cons k ks ih =>
    cases i with
    | zero => exact ⟨rfl, rfl⟩
    | succ i =>
      obtain ⟨a, b⟩ := ih (i := i) (by simpa using h)
      have e : jc (k :: ks) = .int .i64 k.t :: .int .i64 k.k :: jc ks := rfl
      rw [e, show (i + 1) * 2 = i * 2 + 1 + 1 by omega]
      simp only [List.getElem?_cons_succ, List.getD_cons_succ]
      exact ⟨a, b⟩
set_option maxRecDepth 100000 in
theorem lc_get {ks : List Lep} {i : Nat} (h : i < ks.length) : (lc ks)[i * 2]? = some (.int .i64 (ks.getD i l0).t) ∧ (lc ks)[i * 2 + 1]? = some (.int .i64 (ks.getD i l0).c) := by
  induction ks generalizing i with
  | nil => simp at h
  | cons k ks ih =>
    cases i with
    | zero => exact ⟨rfl, rfl⟩
    | succ i =>
      obtain ⟨a, b⟩ := ih (i := i) (by simpa using h)
      have e : lc (k :: ks) = .int .i64 k.t :: .int .i64 k.c :: lc ks := rfl
      rw [e, show (i + 1) * 2 = i * 2 + 1 + 1 by omega]
      simp only [List.getElem?_cons_succ, List.getD_cons_succ]
      exact ⟨a, b⟩
set_option maxRecDepth 100000 in
theorem oc_get {bs : List Bool} {i : Nat} (h : i < bs.length) : (oc bs)[i]? = some (.bool (bs.getD i false)) := by simp [oc, h]

set_option maxRecDepth 100000 in
/-- A kind in memory. -/
theorem Rc.knd {w : World} {A : Option Addr} {ks : List Knd} (h : Rc w A (kc ks)) {i : Nat} (hi : i < ks.length) : ∃ b o, A = some ⟨b, o, none⟩ ∧ w.cell? ⟨b, o + i * 3, none⟩ = some (.int .i64 (ks.getD i k0).off) ∧ w.cell? ⟨b, o + i * 3 + 1, none⟩ = some (.bool (ks.getD i k0).dst) ∧ w.cell? ⟨b, o + i * 3 + 2, none⟩ = some (.string (ks.getD i k0).name) := by
  obtain ⟨b, o, e, hc⟩ := h (by rw [kc_len]; omega)
  obtain ⟨x, y, z⟩ := kc_get hi
  exact ⟨b, o, e, hc _ _ x, by rw [Nat.add_assoc]; exact hc _ _ y, by rw [Nat.add_assoc]; exact hc _ _ z⟩
set_option maxRecDepth 100000 in
theorem Rc.jmp {w : World} {A : Option Addr} {ks : List Jmp} (h : Rc w A (jc ks)) {i : Nat} (hi : i < ks.length) : ∃ b o, A = some ⟨b, o, none⟩ ∧ ∀ i, i < ks.length → w.cell? ⟨b, o + i * 2, none⟩ = some (.int .i64 (ks.getD i j0).t) ∧ w.cell? ⟨b, o + i * 2 + 1, none⟩ = some (.int .i64 (ks.getD i j0).k) := by
  obtain ⟨b, o, e, hc⟩ := h (by rw [jc_len]; omega)
  refine ⟨b, o, e, fun i hi => ?_⟩
  obtain ⟨x, y⟩ := jc_get hi
  exact ⟨hc _ _ x, by rw [Nat.add_assoc]; exact hc _ _ y⟩
set_option maxRecDepth 100000 in
theorem Rc.lep {w : World} {A : Option Addr} {ks : List Lep} (h : Rc w A (lc ks)) {i : Nat} (hi : i < ks.length) : ∃ b o, A = some ⟨b, o, none⟩ ∧ w.cell? ⟨b, o + i * 2, none⟩ = some (.int .i64 (ks.getD i l0).t) ∧ w.cell? ⟨b, o + i * 2 + 1, none⟩ = some (.int .i64 (ks.getD i l0).c) := by
  obtain ⟨b, o, e, hc⟩ := h (by rw [lc_len]; omega)
  obtain ⟨x, y⟩ := lc_get hi
  exact ⟨b, o, e, hc _ _ x, by rw [Nat.add_assoc]; exact hc _ _ y⟩
set_option maxRecDepth 100000 in
theorem Rc.bol {w : World} {A : Option Addr} {bs : List Bool} (h : Rc w A (oc bs)) {i : Nat} (hi : i < bs.length) : ∃ b o, A = some ⟨b, o, none⟩ ∧ w.cell? ⟨b, o + i, none⟩ = some (.bool (bs.getD i false)) := by
  obtain ⟨b, o, e, hc⟩ := h (by rw [oc_len]; omega)
  exact ⟨b, o, e, hc _ _ (oc_get hi)⟩

/-- The slice v reads as these cells, so many elements. -/
def Sl (w : World) (v : Value) (n : Nat) (vs : List Value) : Prop := ∃ A c, v = .slice A n c ∧ n ≤ c ∧ c ≤ maxLen ∧ Rc w A vs
set_option maxRecDepth 100000 in
theorem Sl.up {w w' : World} {v : Value} {n : Nat} {vs : List Value} (h : Sl w v n vs) (u : Up w w') : Sl w' v n vs := by
  obtain ⟨A, c, e, h1, h2, r⟩ := h
  exact ⟨A, c, e, h1, h2, r.up u⟩
/-- The value v reads as the block x. -/
def BkR (w : World) (v : Value) (x : Blk) : Prop := ∃ a b c d e, v = .agg #[a, b, c, d, e] ∧ Sl w a x.ks.length (kc x.ks) ∧ Sl w b x.js.length (jc x.js) ∧ Sl w c x.ls.length (lc x.ls) ∧ Sl w d x.sd.length (oc x.sd) ∧ Sl w e x.ut.length (oc x.ut)
set_option maxRecDepth 100000 in
theorem BkR.up {w w' : World} {v : Value} {x : Blk} (h : BkR w v x) (u : Up w w') : BkR w' v x := by
  obtain ⟨a, b, c, d, e, hv, h1, h2, h3, h4, h5⟩ := h
  exact ⟨a, b, c, d, e, hv, h1.up u, h2.up u, h3.up u, h4.up u, h5.up u⟩
end Go.Proofs.YtaljddoenjgbfaaGreat
/-
  The program's block, small calls: within, rightSize, fits, mark, readMark, cut, number; strings.Contains of a byte 0.
-/
namespace Go.Proofs.YtaljddoenjgbfaaGreat
open Go.ChangeShapes Go.WideShapes Go.ChangeAt Go.RowKit Lc

set_option maxRecDepth 100000 in
theorem bwithin_any (n a b : Int) (w : World) : Calls Tryz.prog 45 #[.int .i64 n, .int .i64 a, .int .i64 b] w fun e w' => e = .returned (.bool (decide (a ≤ n) && decide (n ≤ b))) ∧ w = w' := by
  by_cases h : a ≤ n
  · go_enter Tryz.func45, Tryz.ntmps45
    go_wp2
    go_ret
    exact ⟨ret_b (by simp [h]), rfl⟩
  · go_enter Tryz.func45, Tryz.ntmps45
    go_wp2
    go_ret
    exact ⟨ret_b (by simp; omega), rfl⟩

set_option maxRecDepth 100000 in
theorem rsize_any (z : Int) (w : World) : Calls Tryz.prog 29 #[.int .i64 z] w fun e w' => e = .returned (.bool (zB z)) ∧ w = w' := by
  unfold zB
  by_cases h : z = 4
  · subst h
    go_enter Tryz.func29, Tryz.ntmps29
    go_wp2
    go_ret
    exact ⟨rfl, rfl⟩
  · go_enter Tryz.func29, Tryz.ntmps29
    go_wp2
    go_ret
    exact ⟨ret_b (by rw [Bool.eq_iff_iff]; simp [h]), rfl⟩

set_option maxRecDepth 100000 in
theorem bfits_any (n z : Int) (w : World) : Calls Tryz.prog 47 #[.int .i64 n, .int .i64 z] w fun e w' => e = .returned (.bool (fitZ n z)) ∧ w = w' := by
  have E := Lib.hid (show fitZ n z = (decide (z = 8) || (decide (-2147483648 ≤ n) && decide (n ≤ 2147483647))) from rfl)
  by_cases h : z = 8
  · subst h
    go_enter Tryz.func47, Tryz.ntmps47
    go_wp2
    go_ret
    exact ⟨ret_b (by rw [E.out]; simp), rfl⟩
  · by_cases h2 : -2147483648 ≤ n
    · go_enter Tryz.func47, Tryz.ntmps47
      go_wp2
      go_ret
      exact ⟨ret_b (by rw [E.out]; simp [h, h2]), rfl⟩
    · go_enter Tryz.func47, Tryz.ntmps47
      go_wp2
      go_ret
      exact ⟨ret_b (by rw [E.out, Bool.eq_iff_iff]; simp; omega), rfl⟩

set_option maxRecDepth 100000 in
theorem ret_bb {a b c d : Bool} (h : a = b) (g : c = d) : Ending.returned (.tuple #[.bool a, .bool c]) = .returned (.tuple #[.bool b, .bool d]) := by rw [h, g]
set_option maxRecDepth 100000 in
theorem mark_any (b : Bool) (w : World) : Calls Tryz.prog 74 #[.bool b] w fun e w' => e = .returned (.int .u8 (mkB b).toNat) ∧ w = w' := by
  cases b
  all_goals
    go_enter Tryz.func74, Tryz.ntmps74
    go_wp2
    go_ret
    exact ⟨rfl, rfl⟩

set_option maxRecDepth 100000 in
theorem rmark_any (b : UInt8) (w : World) : Calls Tryz.prog 113 #[.int .u8 b.toNat] w fun e w' => e = .returned (.tuple #[.bool (decide (b = 1)), .bool (decide (b.toNat ≤ 1))]) ∧ w = w' := by
  have E := Lib.hid (show decide (b = 1) = decide (b.toNat = 1) by
    rw [Bool.eq_iff_iff]; simp only [decide_eq_true_eq]
    exact ⟨fun e => by rw [e]; rfl, fun e => UInt8.toNat_inj.1 e⟩)
  go_enter Tryz.func113, Tryz.ntmps113
  go_wp2
  go_ret2
  exact ⟨ret_bb (by rw [E.out, Bool.eq_iff_iff]; simp; omega) (by rw [Bool.eq_iff_iff]; simp; omega), rfl⟩

set_option maxRecDepth 100000 in
theorem number_any (A : Option Addr) (l : List UInt8) (c a k : Nat) (w : World) (hc : l.length ≤ c) (hcm : c ≤ maxLen) (h1 : 1 ≤ k) (h8 : k ≤ 8) (h : a + k ≤ l.length) (hr : Rd w A l) :
    Calls Tryz.prog 115 #[.slice A l.length c, .int .i64 a, .int .i64 k] w fun e w' => e = .returned (.int .i64 (sgI k (beN ((l.drop a).take k)))) ∧ w = w' := by
  have C := Lib.hid (int_yes A l c a k w hc hcm h1 h8 h hr)
  clear hr h hc hcm h1 h8
  generalize sgI k (beN ((l.drop a).take k)) = x at *
  go_enter Tryz.func115, Tryz.ntmps115
  go_wp2_with (go_at_call 118; refine C.out.mono ?_; rintro e w' ⟨rfl, rfl⟩)
  go_ret
  exact ⟨rfl, rfl⟩
end Go.Proofs.YtaljddoenjgbfaaGreat
/-
  strings.Contains of a byte 0.
-/
namespace Go.Proofs.YtaljddoenjgbfaaGreat
open Go.ChangeShapes Go.WideShapes Go.ChangeAt Go.RowKit Lc

set_option maxRecDepth 100000 in
theorem ibyte_any (s : ByteArray) (w : World) : Calls Tryz.prog 83 #[.string s, .int .u8 0] w fun e w' => e = .returned (.int .i64 (Lib.indexByte s.data.toList 0)) ∧ w = w' := by
  have R := Lib.hid (Lib.run_indexByteString (P := Tryz.prog) s 0 w)
  go_enter Tryz.func83, Tryz.ntmps83
  go_wp2
  rw [run_callFunc_extern Tryz.func98 (by kernel_rfl) (by kernel_rfl) (by kernel_rfl) (e := Extern.BytealgIndexByte.indexByte) (by kernel_rfl), R.out]
  simp only [Result.andThen]
  rw [Oper.upon_value]
  go_wp2
  go_ret
  exact ⟨rfl, rfl⟩
set_option maxRecDepth 100000 in
theorem sindex_any (s : ByteArray) (w : World) : Calls Tryz.prog 68 #[.string s, .string ⟨#[0]⟩] w fun e w' => e = .returned (.int .i64 (Lib.indexByte s.data.toList 0)) ∧ w = w' := by
  have C := fun w => ibyte_any s w
  by_cases h : ([0] == s.toList) = true
  · have hx : Lib.indexByte s.data.toList 0 = 0 := by
      have h1 : s.toList = [0] := by simpa using (beq_iff_eq.1 h).symm
      rw [ByteArray.toList_eq] at h1
      rw [h1]; rfl
    rw [hx]
    go_enter Tryz.func68, Tryz.ntmps68
    go_wp2
    go_ret
    exact ⟨rfl, rfl⟩
  · have h' : ([0] == s.toList) = false := by simpa using h
    clear h
    generalize Lib.indexByte s.data.toList 0 = x at *
    go_enter Tryz.func68, Tryz.ntmps68
    go_wp2_with (go_at_call 83; refine (C _).mono ?_; rintro e w' ⟨rfl, rfl⟩)
    go_ret
    exact ⟨rfl, rfl⟩
set_option maxRecDepth 100000 in
theorem index0_any (s : ByteArray) (w : World) : Calls Tryz.prog 48 #[.string s, .string ⟨#[0]⟩] w fun e w' => e = .returned (.int .i64 (Lib.indexByte s.data.toList 0)) ∧ w = w' := by
  have C := fun w => sindex_any s w
  generalize Lib.indexByte s.data.toList 0 = x at *
  go_enter Tryz.func48, Tryz.ntmps48
  go_wp2_with (go_at_call 68; refine (C _).mono ?_; rintro e w' ⟨rfl, rfl⟩)
  go_ret
  exact ⟨rfl, rfl⟩
set_option maxRecDepth 100000 in
theorem contains0_any (s : ByteArray) (w : World) : Calls Tryz.prog 34 #[.string s, .string ⟨#[0]⟩] w fun e w' => e = .returned (.bool (!noz s)) ∧ w = w' := by
  have C := fun w => index0_any s w
  have E := Lib.hid (show (!noz s) = decide (0 ≤ Lib.indexByte s.data.toList 0) by
    unfold noz; rw [Bool.not_not]; exact Lib.contains_iff_indexByte _ _)
  generalize Lib.indexByte s.data.toList 0 = x at *
  generalize (!noz s) = r at *
  go_enter Tryz.func34, Tryz.ntmps34
  go_wp2_with (go_at_call 48; refine (C _).mono ?_; rintro e w' ⟨rfl, rfl⟩)
  go_ret
  exact ⟨ret_b E.out.symm, rfl⟩
end Go.Proofs.YtaljddoenjgbfaaGreat
