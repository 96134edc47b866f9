/-
  Blocks, plain: what bytes tell. Nothing of the program stands here.
-/
import Derived.Test.YtaljddoenjgbfaaGreatLcMc
import Derived.Lib.Bytealg
import Derived.Laws.MakeOwn
import Derived.StillTailTactics
import Derived.Test.YtaljddoenjgbfaaGreatLcMb
import Derived.Lib.IndexLaws
import Derived.Test.YtaljddoenjgbfaaGreatLcMh
namespace Lc

/-- So many bytes from a place on. -/
def slcB (b : List UInt8) (a k : Nat) : List UInt8 := (b.drop a).take k
set_option maxRecDepth 100000 in
theorem slcB_len {b : List UInt8} {a k : Nat} (h : a + k ≤ b.length) : (slcB b a k).length = k := by unfold slcB; rw [List.length_take, List.length_drop]; omega
set_option maxRecDepth 100000 in
theorem slcB_get {b : List UInt8} {a k i : Nat} (h : i < k) : (slcB b a k).getD i 0 = b.getD (a + i) 0 := by
  unfold slcB; simp [List.getD, List.getElem?_take_of_lt h]
set_option maxRecDepth 100000 in
theorem slcB_slcB {b : List UInt8} {a k i m : Nat} (h : i + m ≤ k) : slcB (slcB b a k) i m = slcB b (a + i) m := by
  unfold slcB
  rw [List.drop_take, List.take_take, List.drop_drop, Nat.min_eq_left (by omega)]
set_option maxRecDepth 100000 in
theorem slcB_append_left {b c : List UInt8} {a k : Nat} (h : a + k ≤ b.length) : slcB (b ++ c) a k = slcB b a k := by
  unfold slcB
  rw [List.drop_append_of_le_length (by omega), List.take_append_of_le_length (by rw [List.length_drop]; omega)]
set_option maxRecDepth 100000 in
theorem slcB_append_right {b c : List UInt8} {a k : Nat} (h : b.length = a) : slcB (b ++ c) a k = c.take k := by
  unfold slcB; rw [List.drop_left' h]

def rdJ (mo ju : List UInt8) (z i : Nat) : Jmp := ⟨sgI z (beN (slcB mo (i * z) z) : Nat), ((ju.getD i 0).toNat : Int)⟩
def dJ (mo ju : List UInt8) (n z : Nat) : List Jmp := (List.range n).map (rdJ mo ju z)
def rdL (b : List UInt8) (z i : Nat) : Lep := ⟨sgI z (beN (slcB b (i * (z + 4)) z) : Nat), sgI 4 (beN (slcB b (i * (z + 4) + z) 4) : Nat)⟩
def dL (b : List UInt8) (n z : Nat) : List Lep := (List.range n).map (rdL b z)
def rdM (b : List UInt8) (i : Nat) : Bool := decide (b.getD i 0 = 1)
def dM (b : List UInt8) (n : Nat) : List Bool := (List.range n).map (rdM b)
def mOk (b : List UInt8) (n : Nat) : Bool := allB n (fun i => decide ((b.getD i 0).toNat ≤ 1))
/-- Where the name ends, from its place on; -1: nowhere. -/
def nmIx (na : List UInt8) (p : Nat) : Int := Go.Lib.indexByte (na.drop p) 0
def nmOf (na : List UInt8) (p : Nat) : ByteArray := ⟨((na.drop p).take (nmIx na p).toNat).toArray⟩
def kPl (b : List UInt8) (i : Nat) : Nat := (b.getD (i * 6 + 5) 0).toNat
def kGo (b na : List UInt8) (i : Nat) : Bool := decide ((b.getD (i * 6 + 4) 0).toNat ≤ 1) && decide (0 ≤ nmIx na (kPl b i))
def kOk (b na : List UInt8) (n : Nat) : Bool := allB n (kGo b na)
def rdK (b na : List UInt8) (i : Nat) : Knd := ⟨sgI 4 (beN (slcB b (i * 6) 4) : Nat), decide (b.getD (i * 6 + 4) 0 = 1), nmOf na (kPl b i)⟩
def dK (b na : List UInt8) (n : Nat) : List Knd := (List.range n).map (rdK b na)
/-- The seven parts of a body. -/
def pMo (b : List UInt8) (t z : Nat) : List UInt8 := slcB b 0 (t * z)
def pJu (b : List UInt8) (t z : Nat) : List UInt8 := slcB b (t * z) t
def pKi (b : List UInt8) (t y z : Nat) : List UInt8 := slcB b (t * z + t) (y * 6)
def pNa (b : List UInt8) (t y c z : Nat) : List UInt8 := slcB b (t * z + t + y * 6) c
def pLe (b : List UInt8) (t y c l z : Nat) : List UInt8 := slcB b (t * z + t + y * 6 + c) (l * (z + 4))
def pSd (b : List UInt8) (t y c l s z : Nat) : List UInt8 := slcB b (t * z + t + y * 6 + c + l * (z + 4)) s
def pUt (b : List UInt8) (t y c l s u z : Nat) : List UInt8 := slcB b (t * z + t + y * 6 + c + l * (z + 4) + s) u
def dOk (b : List UInt8) (u s l t y c z : Nat) : Bool := kOk (pKi b t y z) (pNa b t y c z) y && mOk (pSd b t y c l s z) s && mOk (pUt b t y c l s u z) u
def dBk (b : List UInt8) (u s l t y c z : Nat) : Blk := ⟨dK (pKi b t y z) (pNa b t y c z) y, dJ (pMo b t z) (pJu b t z) t z, dL (pLe b t y c l z) l z, dM (pSd b t y c l s z) s, dM (pUt b t y c l s u z) u⟩
/-- No block. -/
def bk0 : Blk := ⟨[], [], [], [], []⟩

/-- A row that is filled, so far. -/
def stL {α : Type} (d : α) (f : Nat → α) (n k : Nat) : List α := (List.range k).map f ++ List.replicate (n - k) d
set_option maxRecDepth 100000 in
theorem stL_zero {α : Type} (d : α) (f : Nat → α) (n : Nat) : stL d f n 0 = List.replicate n d := by simp [stL]
set_option maxRecDepth 100000 in
theorem stL_end {α : Type} (d : α) (f : Nat → α) (n : Nat) : stL d f n n = (List.range n).map f := by simp [stL]
set_option maxRecDepth 100000 in
theorem stL_len {α : Type} (d : α) (f : Nat → α) {n k : Nat} (h : k ≤ n) : (stL d f n k).length = n := by simp [stL]; omega
set_option maxRecDepth 100000 in
theorem stL_set {α : Type} (d : α) (f : Nat → α) {n k : Nat} (h : k < n) : (stL d f n k).set k (f k) = stL d f n (k + 1) := by
  unfold stL
  rw [List.set_append_right _ _ (by simp), List.range_succ, List.map_append, List.append_assoc]
  congr 1
  rw [show n - k = (n - (k + 1)) + 1 by omega, List.replicate_succ]
  simp
end Lc
/-
  Rows of kinds, jumps, leap seconds and marks that a call makes and fills.
-/
namespace Go.Proofs.YtaljddoenjgbfaaGreat
open Go.ChangeShapes Go.WideShapes Go.ChangeAt Go.RowKit Lc

/-- The slice v is nil, or lies in new memory. -/
def Fr (w : World) (v : Value) : Prop := ∀ k, v.ownBlock = some k → w.heap.size ≤ k
set_option maxRecDepth 100000 in
theorem Fr.nil (w : World) : Fr w (.slice none 0 0) := fun k hk => by cases hk
set_option maxRecDepth 100000 in
theorem Fr.new (w : World) (n c : Nat) : Fr w (.slice (some ⟨w.heap.size, 0, none⟩) n c) := fun k hk => by
  have : some w.heap.size = some k := hk
  injection this with this
  omega
/-- Block g begins with these cells, and they may be written. -/
def Rw (w : World) (g : Nat) (vs : List Value) : Prop := ∀ j v, vs[j]? = some v → w.cell? ⟨g, j, none⟩ = some v ∧ w.frozen? ⟨g, j, none⟩ = false
set_option maxRecDepth 100000 in
theorem Rw.rc {w : World} {g : Nat} {vs : List Value} (h : Rw w g vs) : Rc w (some ⟨g, 0, none⟩) vs := fun _ => ⟨g, 0, rfl, fun i v hi => by rw [Nat.zero_add]; exact (h i v hi).1⟩
set_option maxRecDepth 100000 in
theorem Rw.up {w w' : World} {g : Nat} {vs : List Value} (h : Rw w g vs) (u : Up w w') : Rw w' g vs := fun j v hj => by
  have lt := cell_lt (h j v hj).1
  exact ⟨u.cell (h j v hj).1, by rw [World.frozen?_of_block (Below.block u _ lt)]; exact (h j v hj).2⟩
set_option maxRecDepth 100000 in
theorem Rw.set {w : World} {g : Nat} {vs : List Value} (h : Rw w g vs) {i : Nat} (hi : i < vs.length) (u : Value) : Rw (w.setCell ⟨g, i, none⟩ u) g (vs.set i u) := fun j v hj => by
  obtain ⟨x, hx⟩ : ∃ x, vs[i]? = some x := ⟨_, List.getElem?_eq_getElem hi⟩
  by_cases e : i = j
  · subst e
    rw [List.getElem?_set_self hi] at hj
    injection hj with hj
    subst hj
    exact ⟨World.cell?_setCell_same _ _ _ (h i x hx).1, by rw [World.frozen?_setCell]; exact (h i x hx).2⟩
  · rw [List.getElem?_set_ne e] at hj
    exact ⟨by rw [World.cell?_setCell_other _ _ _ _ (fun c => e (by injection c with _ c))]; exact (h j v hj).1, by rw [World.frozen?_setCell]; exact (h j v hj).2⟩
set_option maxRecDepth 100000 in
theorem Rw.new (w : World) (cs : Array Value) (t : TypeId) : Rw (w.alloc (.cells cs t)) w.heap.size cs.toList := fun j v hj => by
  have hj' : cs[j]? = some v := by simpa using hj
  refine ⟨?_, (Free.new w cs t).2 j⟩
  simp [hj']

set_option maxRecDepth 100000 in
theorem kc_set {ks : List Knd} {k : Nat} (h : k < ks.length) (x : Knd) : (((kc ks).set (k * 3) (.int .i64 x.off)).set (k * 3 + 1) (.bool x.dst)).set (k * 3 + 2) (.string x.name) = kc (ks.set k x) := by
  induction ks generalizing k with
  | nil => simp at h
  | cons y ks ih =>
    have e : kc (y :: ks) = .int .i64 y.off :: .bool y.dst :: .string y.name :: kc ks := rfl
    cases k with
    | zero => rw [e]; rfl
    | succ k =>
      rw [e, show (k + 1) * 3 = k * 3 + 1 + 1 + 1 by omega]
      simp only [List.set_cons_succ]
      have := ih (k := k) (by simpa using h)
      rw [show k * 3 + 1 + 1 = k * 3 + 2 from rfl]
      show _ = Value.int .i64 y.off :: .bool y.dst :: .string y.name :: kc (ks.set k x)
      rw [← this]
set_option maxRecDepth 100000 in
theorem jc_set {ks : List Jmp} {k : Nat} (h : k < ks.length) (x : Jmp) : ((jc ks).set (k * 2) (.int .i64 x.t)).set (k * 2 + 1) (.int .i64 x.k) = jc (ks.set k x) := by
  induction ks generalizing k with
  | nil => simp at h
  | cons y ks ih =>
    have e : jc (y :: ks) = .int .i64 y.t :: .int .i64 y.k :: jc ks := rfl
    cases k with
    | zero => rw [e]; rfl
    | succ k =>
      rw [e, show (k + 1) * 2 = k * 2 + 1 + 1 by omega]
      simp only [List.set_cons_succ]
      show _ = Value.int .i64 y.t :: .int .i64 y.k :: jc (ks.set k x)
      rw [← ih (k := k) (by simpa using h)]
set_option maxRecDepth 100000 in
theorem lc_set {ks : List Lep} {k : Nat} (h : k < ks.length) (x : Lep) : ((lc ks).set (k * 2) (.int .i64 x.t)).set (k * 2 + 1) (.int .i64 x.c) = lc (ks.set k x) := by
  induction ks generalizing k with
  | nil => simp at h
  | cons y ks ih =>
    have e : lc (y :: ks) = .int .i64 y.t :: .int .i64 y.c :: lc ks := rfl
    cases k with
    | zero => rw [e]; rfl
    | succ k =>
      rw [e, show (k + 1) * 2 = k * 2 + 1 + 1 by omega]
      simp only [List.set_cons_succ]
      show _ = Value.int .i64 y.t :: .int .i64 y.c :: lc (ks.set k x)
      rw [← ih (k := k) (by simpa using h)]
set_option maxRecDepth 100000 in
theorem oc_set (bs : List Bool) (k : Nat) (x : Bool) : (oc bs).set k (.bool x) = oc (bs.set k x) := by simp [oc, List.map_set]

set_option maxRecDepth 100000 in
theorem Rw.knd {w : World} {g : Nat} {ks : List Knd} (h : Rw w g (kc ks)) {k : Nat} (hk : k < ks.length) (x : Knd) : Rw (((w.setCell ⟨g, k * 3, none⟩ (.int .i64 x.off)).setCell ⟨g, k * 3 + 1, none⟩ (.bool x.dst)).setCell ⟨g, k * 3 + 2, none⟩ (.string x.name)) g (kc (ks.set k x)) := by
  rw [← kc_set hk]
  exact ((h.set (by rw [kc_len]; omega) _).set (by rw [List.length_set, kc_len]; omega) _).set (by rw [List.length_set, List.length_set, kc_len]; omega) _
set_option maxRecDepth 100000 in
theorem Rw.jmp {w : World} {g : Nat} {ks : List Jmp} (h : Rw w g (jc ks)) {k : Nat} (hk : k < ks.length) (x : Jmp) : Rw ((w.setCell ⟨g, k * 2, none⟩ (.int .i64 x.t)).setCell ⟨g, k * 2 + 1, none⟩ (.int .i64 x.k)) g (jc (ks.set k x)) := by
  rw [← jc_set hk]
  exact (h.set (by rw [jc_len]; omega) _).set (by rw [List.length_set, jc_len]; omega) _
set_option maxRecDepth 100000 in
theorem Rw.lep {w : World} {g : Nat} {ks : List Lep} (h : Rw w g (lc ks)) {k : Nat} (hk : k < ks.length) (x : Lep) : Rw ((w.setCell ⟨g, k * 2, none⟩ (.int .i64 x.t)).setCell ⟨g, k * 2 + 1, none⟩ (.int .i64 x.c)) g (lc (ks.set k x)) := by
  rw [← lc_set hk]
  exact (h.set (by rw [lc_len]; omega) _).set (by rw [List.length_set, lc_len]; omega) _
set_option maxRecDepth 100000 in
theorem Rw.bol {w : World} {g : Nat} {bs : List Bool} (h : Rw w g (oc bs)) {k : Nat} (hk : k < bs.length) (x : Bool) : Rw (w.setCell ⟨g, k, none⟩ (.bool x)) g (oc (bs.set k x)) := by
  rw [← oc_set]; exact h.set (by rw [oc_len]; exact hk) _

set_option maxRecDepth 100000 in
theorem kndInfo : (Tryz.prog.info? 51).map (fun i => (i.zero, i.size, i.bytes)) = some (some (.agg #[.int .i64 0, .bool false, .string ByteArray.empty]), 3, 32) := by kernel_rfl
set_option maxRecDepth 100000 in
theorem jmpInfo : (Tryz.prog.info? 70).map (fun i => (i.zero, i.size, i.bytes)) = some (some (.agg #[.int .i64 0, .int .i64 0]), 2, 16) := by kernel_rfl
set_option maxRecDepth 100000 in
theorem lepInfo : (Tryz.prog.info? 73).map (fun i => (i.zero, i.size, i.bytes)) = some (some (.agg #[.int .i64 0, .int .i64 0]), 2, 16) := by kernel_rfl
set_option maxRecDepth 100000 in
theorem bolInfo : (Tryz.prog.info? 4).map (fun i => (i.zero, i.size, i.bytes)) = some (some (.bool false), 1, 1) := by kernel_rfl

set_option maxRecDepth 100000 in
theorem made3 (a b c : Value) (n : Nat) : (madeCells #[a, b, c] (n * 3)).toList = (List.replicate n [a, b, c]).flatten := by
  unfold madeCells
  rw [Array.toList_map, Array.toList_range]
  induction n with
  | zero => rfl
  | succ n ih =>
    rw [show (n + 1) * 3 = n * 3 + 1 + 1 + 1 by omega, List.range_succ, List.range_succ, List.range_succ]
    simp only [List.map_append, List.map_cons, List.map_nil]
    rw [ih, List.replicate_succ', List.flatten_append]
    have h0 : n * 3 % 3 = 0 := by omega
    have h1 : (n * 3 + 1) % 3 = 1 := by omega
    have h2 : (n * 3 + 1 + 1) % 3 = 2 := by omega
    simp [h0, h1, h2]
set_option maxRecDepth 100000 in
theorem made2 (a b : Value) (n : Nat) : (madeCells #[a, b] (n * 2)).toList = (List.replicate n [a, b]).flatten := by
  unfold madeCells
  rw [Array.toList_map, Array.toList_range]
  induction n with
  | zero => rfl
  | succ n ih =>
    rw [show (n + 1) * 2 = n * 2 + 1 + 1 by omega, List.range_succ, List.range_succ]
    simp only [List.map_append, List.map_cons, List.map_nil]
    rw [ih, List.replicate_succ', List.flatten_append]
    have h0 : n * 2 % 2 = 0 := by omega
    have h1 : (n * 2 + 1) % 2 = 1 := by omega
    simp [h0, h1]
set_option maxRecDepth 100000 in
theorem made1 (a : Value) (n : Nat) : (madeCells #[a] n).toList = List.replicate n a := by
  unfold madeCells
  rw [Array.toList_map, Array.toList_range]
  induction n with
  | zero => rfl
  | succ n ih =>
    rw [List.range_succ, List.map_append, ih, List.replicate_succ']
    simp [Nat.mod_one]
set_option maxRecDepth 100000 in
theorem kc_rep (n : Nat) : kc (List.replicate n k0) = (List.replicate n [.int .i64 0, .bool false, .string ByteArray.empty]).flatten := by
  induction n with
  | zero => rfl
  | succ n ih => rw [List.replicate_succ, List.replicate_succ, List.flatten_cons, ← ih]; rfl
set_option maxRecDepth 100000 in
theorem jc_rep (n : Nat) : jc (List.replicate n j0) = (List.replicate n [.int .i64 0, .int .i64 0]).flatten := by
  induction n with
  | zero => rfl
  | succ n ih => rw [List.replicate_succ, List.replicate_succ, List.flatten_cons, ← ih]; rfl
set_option maxRecDepth 100000 in
theorem lc_rep (n : Nat) : lc (List.replicate n l0) = (List.replicate n [.int .i64 0, .int .i64 0]).flatten := by
  induction n with
  | zero => rfl
  | succ n ih => rw [List.replicate_succ, List.replicate_succ, List.flatten_cons, ← ih]; rfl

set_option maxRecDepth 100000 in
theorem make_knd (w : World) (n : Nat) (hn : n ≤ 1000000) : (Instr.makeSlice 22 (.int .i64 n) (.int .i64 n)).run Tryz.prog w = .ok (.slice (some ⟨w.heap.size, 0, none⟩) n n) (w.alloc (.cells (madeCells #[.int .i64 0, .bool false, .string ByteArray.empty] (n * 3)) 51)) := by
  obtain ⟨i0, hi, hz0, hz1, hz2⟩ := info_parts kndInfo
  have h := run_make (P := Tryz.prog) w 22 51 i0 _ Tryz.underlying22 hi hz0 .i64 .i64 n n (by omega) (by omega) (by rw [hz2]; omega) (by omega)
  rw [hz1] at h
  exact h
set_option maxRecDepth 100000 in
theorem make_jmp (w : World) (n : Nat) (hn : n ≤ 1000000) : (Instr.makeSlice 23 (.int .i64 n) (.int .i64 n)).run Tryz.prog w = .ok (.slice (some ⟨w.heap.size, 0, none⟩) n n) (w.alloc (.cells (madeCells #[.int .i64 0, .int .i64 0] (n * 2)) 70)) := by
  obtain ⟨i0, hi, hz0, hz1, hz2⟩ := info_parts jmpInfo
  have h := run_make (P := Tryz.prog) w 23 70 i0 _ Tryz.underlying23 hi hz0 .i64 .i64 n n (by omega) (by omega) (by rw [hz2]; omega) (by omega)
  rw [hz1] at h
  exact h
set_option maxRecDepth 100000 in
theorem make_lep (w : World) (n : Nat) (hn : n ≤ 1000000) : (Instr.makeSlice 24 (.int .i64 n) (.int .i64 n)).run Tryz.prog w = .ok (.slice (some ⟨w.heap.size, 0, none⟩) n n) (w.alloc (.cells (madeCells #[.int .i64 0, .int .i64 0] (n * 2)) 73)) := by
  obtain ⟨i0, hi, hz0, hz1, hz2⟩ := info_parts lepInfo
  have h := run_make (P := Tryz.prog) w 24 73 i0 _ Tryz.underlying24 hi hz0 .i64 .i64 n n (by omega) (by omega) (by rw [hz2]; omega) (by omega)
  rw [hz1] at h
  exact h
set_option maxRecDepth 100000 in
theorem make_bol (w : World) (n : Nat) (hn : n ≤ 1000000) : (Instr.makeSlice 25 (.int .i64 n) (.int .i64 n)).run Tryz.prog w = .ok (.slice (some ⟨w.heap.size, 0, none⟩) n n) (w.alloc (.cells (madeCells #[.bool false] n) 4)) := by
  obtain ⟨i0, hi, hz0, hz1, hz2⟩ := info_parts bolInfo
  have h := run_make (P := Tryz.prog) w 25 4 i0 _ Tryz.underlying25 hi hz0 .i64 .i64 n n (by omega) (by omega) (by rw [hz2]; omega) (by omega)
  rw [hz1, Int.toNat_natCast, Nat.mul_one] at h
  exact h
set_option maxRecDepth 100000 in
theorem Rw.madeK (w : World) (n : Nat) : Rw (w.alloc (.cells (madeCells #[.int .i64 0, .bool false, .string ByteArray.empty] (n * 3)) 51)) w.heap.size (kc (List.replicate n k0)) := by
  rw [kc_rep, ← made3]; exact Rw.new _ _ _
set_option maxRecDepth 100000 in
theorem Rw.madeJ (w : World) (n : Nat) : Rw (w.alloc (.cells (madeCells #[.int .i64 0, .int .i64 0] (n * 2)) 70)) w.heap.size (jc (List.replicate n j0)) := by
  rw [jc_rep, ← made2]; exact Rw.new _ _ _
set_option maxRecDepth 100000 in
theorem Rw.madeL (w : World) (n : Nat) : Rw (w.alloc (.cells (madeCells #[.int .i64 0, .int .i64 0] (n * 2)) 73)) w.heap.size (lc (List.replicate n l0)) := by
  rw [lc_rep, ← made2]; exact Rw.new _ _ _
set_option maxRecDepth 100000 in
theorem Rw.madeB (w : World) (n : Nat) : Rw (w.alloc (.cells (madeCells #[.bool false] n) 4)) w.heap.size (oc (List.replicate n false)) := by
  have h := Rw.new w (madeCells #[.bool false] n) 4
  rw [made1] at h
  unfold oc
  rw [List.map_replicate]; exact h
end Go.Proofs.YtaljddoenjgbfaaGreat
/-
  The program's block: readMarks.
-/
namespace Go.Proofs.YtaljddoenjgbfaaGreat
open Go.ChangeShapes Go.WideShapes Go.ChangeAt Go.RowKit Lc

set_option maxRecDepth 100000 in
theorem snocD {p : Nat → Bool} {k : Nat} (h : ∀ j, j < k → p j = true) (hk : p k = true) : ∀ j, j < k + 1 → p j = true := fun j hj => by
  rcases Nat.lt_or_ge j k with h1 | h1
  · exact h j h1
  · have : j = k := by omega
    subst this; exact hk
set_option maxRecDepth 100000 in
theorem ret_vb {v : Value} {c d : Bool} (g : c = d) : Ending.returned (.tuple #[v, .bool c]) = .returned (.tuple #[v, .bool d]) := by rw [g]
set_option maxRecDepth 100000 in
set_option maxHeartbeats 2000000 in
theorem rdmarks_any (A : Option Addr) (l : List UInt8) (c n : Nat) (w : World) (hl : n ≤ l.length) (hn : n ≤ 10000) (hr : Rd w A l) :
    Calls Tryz.prog 102 #[.slice A l.length c, .int .i64 n] w fun e w' => ∃ v, e = .returned (.tuple #[v, .bool (mOk l n)]) ∧ (mOk l n = true → Sl w' v n (oc (dM l n))) ∧ Fr w v ∧ Up w w' := by
  have HR := Lib.hid hr
  clear hr
  have E := Lib.hid (show mOk l n = allB n (fun i => decide ((l.getD i 0).toNat ≤ 1)) from rfl)
  generalize mOk l n = r at *
  have mk := make_bol w n (by omega)
  have M0 := Lib.hid (Rw.madeB w n)
  rw [← stL_zero false (rdM l) n] at M0
  have U0 := Lib.hid (Up.alloc w (.cells (madeCells #[.bool false] n) 4))
  have DM := Lib.hid (show dM l n = stL false (rdM l) n n from (stL_end _ _ _).symm)
  generalize madeCells #[.bool false] n = MC at *
  go_enter Tryz.func102, Tryz.ntmps102
  go_wp2
  clear mk
  go_loopw [13] (fun i wr => ∃ k : Nat, k ≤ n ∧ i = .int .i64 k ∧ Rw wr w.heap.size (oc (stL false (rdM l) n k)) ∧ Up w wr ∧ ∀ j, j < k → decide ((l.getD j 0).toNat ≤ 1) = true) (fun i _ => n - (intOf i).toNat)
  case atStart => exact ⟨0, Nat.zero_le _, rfl, M0.out, U0.out, fun j hj => absurd hj (Nat.not_lt_zero j)⟩
  case round =>
    clear M0 U0
    obtain ⟨k, hk, rfl, hw, hu, hall⟩ := hrel
    have HW := Lib.hid hw
    have HU := Lib.hid hu
    have HA := Lib.hid hall
    clear hw hu hall
    by_cases hlt : k < n
    · obtain ⟨b, o, rfl, hcell⟩ := (HR.out.up HU.out) (by omega)
      have c1 := hcell k (by omega)
      clear hcell
      have SL := stL_len false (rdM l) hk
      have KB := Lib.hid (HW.out.bol (k := k) (by omega) (rdM l k))
      rw [stL_set false (rdM l) hlt] at KB
      obtain ⟨c2, f2⟩ := HW.out k _ (oc_get (by omega))
      have HV := Lib.hid SL
      clear SL
      have MK := fun w => rmark_any (l.getD k 0) w
      obtain ⟨y, hy⟩ : ∃ y, l.getD k 0 = y := ⟨_, rfl⟩
      have ED : Hid (rdM l k = decide (y = 1)) := Lib.hid (by unfold rdM; rw [hy])
      rw [hy] at c1 MK
      rw [ED.out] at KB
      have yl := y.toNat_lt
      cases ho : decide (y.toNat ≤ 1)
      · have hf : Hid (r = false) := Lib.hid (by
          rw [E.out]; refine allB_no (k := k) hlt ?_; rw [hy]; exact ho)
        rw [ho] at MK
        clear HA hy ho KB ED
        generalize decide (y = 1) = d at *
        go_wp2_with (go_at_call 113; refine (MK _).mono ?_; rintro e w' ⟨rfl, rfl⟩)
        go_ret2
        exact ⟨_, ret_vb hf.out.symm, (fun h => absurd h (by rw [hf.out]; decide)), Fr.nil _, HU.out⟩
      · have HA' : Hid (∀ j, j < k + 1 → decide ((l.getD j 0).toNat ≤ 1) = true) := Lib.hid (snocD (p := fun j => decide ((l.getD j 0).toNat ≤ 1)) HA.out (by show decide ((l.getD k 0).toNat ≤ 1) = true; rw [hy]; exact ho))
        rw [ho] at MK
        have HUS : Hid (Up w (wr.setCell ⟨w.heap.size, k, none⟩ (.bool (decide (y = 1))))) := Lib.hid (HU.out.setCell' (Nat.le_refl _) _)
        clear HA hy ho ED
        generalize decide (y = 1) = d at *
        go_wp2_with (go_at_call 113; refine (MK _).mono ?_; rintro e w' ⟨rfl, rfl⟩)
        go_roundw
        case rel => exact ⟨k + 1, by omega, by go_num, KB.out, HUS.out, HA'.out⟩
        case measure => simp [intOf]; omega
    · have hkq : k = n := by omega
      subst hkq
      have hf : Hid (r = true) := Lib.hid (by rw [E.out, allB_true]; exact HA.out)
      go_wp2
      go_ret2
      refine ⟨_, ret_vb hf.out.symm, fun _ => ⟨_, _, rfl, Nat.le_refl _, by unfold maxLen; omega, ?_⟩, Fr.new _ _ _, HU.out⟩
      rw [DM.out]; exact HW.out.rc
end Go.Proofs.YtaljddoenjgbfaaGreat
/-
  The program's block: readLeaps, readJumps.
-/
namespace Go.Proofs.YtaljddoenjgbfaaGreat
open Go.ChangeShapes Go.WideShapes Go.ChangeAt Go.RowKit Lc

set_option maxRecDepth 100000 in
theorem flipD {f : FuncId} {args : Array Value} {w : World} {v : Value} (h : Calls Tryz.prog f args w fun e w' => e = .returned v ∧ w = w') : Calls Tryz.prog f args w fun e w' => e = .returned v ∧ w' = w :=
  h.mono fun _ _ ⟨a, b⟩ => ⟨a, b.symm⟩
set_option maxRecDepth 100000 in
/-- A number at a place that is told as a whole number. -/
theorem number_at (A : Option Addr) (l : List UInt8) (c a k : Nat) (K : Int) (w : World) (hK : K = (a : Int)) (hc : l.length ≤ c) (hcm : c ≤ maxLen) (h1 : 1 ≤ k) (h8 : k ≤ 8) (h : a + k ≤ l.length) (hr : Rd w A l) :
    Calls Tryz.prog 115 #[.slice A l.length c, .int .i64 K, .int .i64 k] w fun e w' => e = .returned (.int .i64 (sgI k (beN (slcB l a k) : Nat))) ∧ w = w' := by
  subst hK
  exact number_any A l c a k w hc hcm h1 h8 h hr
set_option maxRecDepth 100000 in
theorem mul_mono {k n z : Nat} (h : k < n) : k * z + z ≤ n * z := by
  have := Nat.mul_le_mul_right z (show k + 1 ≤ n by omega)
  rw [Nat.succ_mul] at this; exact this

set_option maxRecDepth 100000 in
set_option maxHeartbeats 2000000 in
theorem rdleaps_any (A : Option Addr) (l : List UInt8) (c n z : Nat) (hz : z = 4 ∨ z = 8) (w : World) (hc : l.length ≤ c) (hcm : c ≤ maxLen) (hl : n * (z + 4) ≤ l.length) (hn : n ≤ 10000) (hr : Rd w A l) :
    Calls Tryz.prog 104 #[.slice A l.length c, .int .i64 n, .int .i64 z] w fun e w' => ∃ v, e = .returned v ∧ Sl w' v n (lc (dL l n z)) ∧ Fr w v ∧ Up w w' := by
  have HR := Lib.hid hr
  have hcm' := Lib.hid hcm
  clear hr
  unfold maxLen at hcm
  have mk := make_lep w n (by omega)
  have M0 := Lib.hid (Rw.madeL w n)
  rw [← stL_zero l0 (rdL l z) n] at M0
  have U0 := Lib.hid (Up.alloc w (.cells (madeCells #[.int .i64 0, .int .i64 0] (n * 2)) 73))
  have DM := Lib.hid (show dL l n z = stL l0 (rdL l z) n n from (stL_end _ _ _).symm)
  generalize madeCells #[.int .i64 0, .int .i64 0] (n * 2) = MC at *
  have HL := Lib.hid hl
  clear hl
  go_enter Tryz.func104, Tryz.ntmps104
  go_wp2
  clear mk
  go_loopw [13] (fun i wr => ∃ k : Nat, k ≤ n ∧ i = .int .i64 k ∧ Rw wr w.heap.size (lc (stL l0 (rdL l z) n k)) ∧ Up w wr) (fun i _ => n - (intOf i).toNat)
  case atStart => exact ⟨0, Nat.zero_le _, rfl, M0.out, U0.out⟩
  case round =>
    clear M0 U0
    obtain ⟨k, hk, rfl, hw, hu⟩ := hrel
    have HW := Lib.hid hw
    have HU := Lib.hid hu
    clear hw hu
    by_cases hlt : k < n
    · have SL := stL_len l0 (rdL l z) hk
      have mm := mul_mono (z := z + 4) hlt
      have hll := HL.out
      have KB := Lib.hid (HW.out.lep (k := k) (by omega) (rdL l z k))
      rw [stL_set l0 (rdL l z) hlt] at KB
      obtain ⟨c2, f2⟩ := HW.out _ _ (lc_get (i := k) (by omega)).1
      obtain ⟨c3, f3⟩ := HW.out _ _ (lc_get (i := k) (by omega)).2
      have e1 := Lib.hid (show (rdL l z k).t = sgI z (beN (slcB l (k * (z + 4)) z) : Nat) from rfl)
      have e2 := Lib.hid (show (rdL l z k).c = sgI 4 (beN (slcB l (k * (z + 4) + z) 4) : Nat) from rfl)
      have C1 := Lib.hid (fun K (hK : K = ((k * (z + 4) : Nat) : Int)) => number_at A l c (k * (z + 4)) z K wr hK hc hcm'.out (by omega) (by omega) (by omega) (HR.out.up HU.out))
      have C2 := Lib.hid (fun K (hK : K = ((k * (z + 4) + z : Nat) : Int)) => number_at A l c (k * (z + 4) + z) 4 K wr hK hc hcm'.out (by omega) (by omega) (by omega) (HR.out.up HU.out))
      rw [← e1.out] at C1
      rw [← e2.out] at C2
      have HUS := Lib.hid ((HU.out.setCell' (p := ⟨w.heap.size, k * 2, none⟩) (Nat.le_refl _) (.int .i64 (rdL l z k).t)).setCell' (p := ⟨w.heap.size, k * 2 + 1, none⟩) (Nat.le_refl _) (.int .i64 (rdL l z k).c))
      generalize (rdL l z k).t = x1 at *
      generalize (rdL l z k).c = x2 at *
      have HV := Lib.hid SL
      have b1 : ((k : Int) * ((z : Int) + 4)) = ((k * (z + 4) : Nat) : Int) := by simp
      have b2 : ((k * (z + 4) : Nat) : Int) ≤ 200000 := by
        have : k * (z + 4) ≤ 10000 * 12 := Nat.mul_le_mul (by omega) (by omega)
        omega
      have b3 : (0 : Int) ≤ (k : Int) * ((z : Int) + 4) := by rw [b1]; omega
      have b4 : (k : Int) * ((z : Int) + 4) ≤ 200000 := by rw [b1]; exact b2
      have B1 := Lib.hid b1
      have hz8 : z ≤ 8 := by omega
      clear SL b1 b2 mm hll HW e1 e2
      go_wp2_with fail
      refine (C1.out _ ?e1).mono ?_
      case e1 => rw [← B1.out]
      rintro e w' ⟨rfl, rfl⟩
      go_wp2_with fail
      refine (C2.out _ ?e2).mono ?_
      case e2 => rw [Int.natCast_add, ← B1.out]
      rintro e w' ⟨rfl, rfl⟩
      go_wp2_with fail
      go_roundw
      case rel => exact ⟨k + 1, by omega, by go_num, KB.out, HUS.out⟩
      case measure => simp [intOf]; omega
    · have hkq : k = n := by omega
      subst hkq
      go_wp2
      go_ret
      refine ⟨_, rfl, ⟨_, _, rfl, Nat.le_refl _, by unfold maxLen; omega, ?_⟩, Fr.new _ _ _, HU.out⟩
      rw [DM.out]; exact HW.out.rc
end Go.Proofs.YtaljddoenjgbfaaGreat
/-
  The program's block: readJumps.
-/
namespace Go.Proofs.YtaljddoenjgbfaaGreat
open Go.ChangeShapes Go.WideShapes Go.ChangeAt Go.RowKit Lc

set_option maxRecDepth 100000 in
set_option maxHeartbeats 2000000 in
theorem rdjumps_any (A B : Option Addr) (l m : List UInt8) (c d n z : Nat) (hz : z = 4 ∨ z = 8) (w : World) (hc : l.length ≤ c) (hcm : c ≤ maxLen) (hl : n * z ≤ l.length) (hm : n ≤ m.length) (hn : n ≤ 10000) (hr : Rd w A l) (hs : Rd w B m) :
    Calls Tryz.prog 103 #[.slice A l.length c, .slice B m.length d, .int .i64 n, .int .i64 z] w fun e w' => ∃ v, e = .returned v ∧ Sl w' v n (jc (dJ l m n z)) ∧ Fr w v ∧ Up w w' := by
  have HR := Lib.hid hr
  have HS := Lib.hid hs
  have hcm' := Lib.hid hcm
  clear hr hs
  unfold maxLen at hcm
  have mk := make_jmp w n (by omega)
  have M0 := Lib.hid (Rw.madeJ w n)
  rw [← stL_zero j0 (rdJ l m z) n] at M0
  have U0 := Lib.hid (Up.alloc w (.cells (madeCells #[.int .i64 0, .int .i64 0] (n * 2)) 70))
  have DM := Lib.hid (show dJ l m n z = stL j0 (rdJ l m z) n n from (stL_end _ _ _).symm)
  generalize madeCells #[.int .i64 0, .int .i64 0] (n * 2) = MC at *
  have HL := Lib.hid hl
  clear hl
  go_enter Tryz.func103, Tryz.ntmps103
  go_wp2
  clear mk
  go_loopw [14] (fun i wr => ∃ k : Nat, k ≤ n ∧ i = .int .i64 k ∧ Rw wr w.heap.size (jc (stL j0 (rdJ l m z) n k)) ∧ Up w wr) (fun i _ => n - (intOf i).toNat)
  case atStart => exact ⟨0, Nat.zero_le _, rfl, M0.out, U0.out⟩
  case round =>
    clear M0 U0
    obtain ⟨k, hk, rfl, hw, hu⟩ := hrel
    have HW := Lib.hid hw
    have HU := Lib.hid hu
    clear hw hu
    by_cases hlt : k < n
    · obtain ⟨b, o, rfl, hcell⟩ := (HS.out.up HU.out) (by omega)
      have c1 := hcell k (by omega)
      clear hcell
      have SL := stL_len j0 (rdJ l m z) hk
      have mm := mul_mono (z := z) hlt
      have hll := HL.out
      obtain ⟨c2, f2⟩ := HW.out _ _ (jc_get (i := k) (by omega)).1
      obtain ⟨c3, f3⟩ := HW.out _ _ (jc_get (i := k) (by omega)).2
      have e1 := Lib.hid (show (rdJ l m z k).t = sgI z (beN (slcB l (k * z) z) : Nat) from rfl)
      have e2 := Lib.hid (show (rdJ l m z k).k = ((m.getD k 0).toNat : Int) from rfl)
      have HV := Lib.hid SL
      clear SL
      have b1 : ((k : Int) * (z : Int)) = ((k * z : Nat) : Int) := by simp
      have b2 : ((k * z : Nat) : Int) ≤ 200000 := by
        have : k * z ≤ 10000 * 8 := Nat.mul_le_mul (by omega) (by omega)
        omega
      have b5 : IntKind.i64.wrap ((k : Int) * (z : Int)) = (k : Int) * (z : Int) := IntWalk.i64_in _ (by rw [b1]; omega)
      have b6 : (k : Int) < (n : Int) := by omega
      have b7 : (k : Int) < (m.length : Int) := by omega
      have b8 : (0 : Int) ≤ (k : Int) := by omega
      have B1 := Lib.hid b1
      clear b1 b2
      obtain ⟨y, hy⟩ : ∃ y, m.getD k 0 = y := ⟨_, rfl⟩
      rw [hy] at c1 e2
      have yl := y.toNat_lt
      go_wp2_with fail
      refine wp_region_still_tail 15 (by kernel_rfl) (by kernel_rfl) ?_
      replace c1 : ({ wr with drawn := wr.drawn + 1 } : World).cell? ⟨b, o + k, none⟩ = some (.int .u8 y.toNat) := c1
      replace c2 : ({ wr with drawn := wr.drawn + 1 } : World).cell? ⟨w.heap.size, k * 2, none⟩ = some (.int .i64 ((stL j0 (rdJ l m z) n k).getD k j0).t) := c2
      replace c3 : ({ wr with drawn := wr.drawn + 1 } : World).cell? ⟨w.heap.size, k * 2 + 1, none⟩ = some (.int .i64 ((stL j0 (rdJ l m z) n k).getD k j0).k) := c3
      replace f2 : ({ wr with drawn := wr.drawn + 1 } : World).frozen? ⟨w.heap.size, k * 2, none⟩ = false := f2
      replace f3 : ({ wr with drawn := wr.drawn + 1 } : World).frozen? ⟨w.heap.size, k * 2 + 1, none⟩ = false := f3
      replace HU : Hid (Up w ({ wr with drawn := wr.drawn + 1 } : World)) := Lib.hid (HU.out.drewN' 1)
      replace HW : Hid (Rw ({ wr with drawn := wr.drawn + 1 } : World) w.heap.size (jc (stL j0 (rdJ l m z) n k))) := Lib.hid (HW.out.up (Up.drewN wr 1))
      generalize ({ wr with drawn := wr.drawn + 1 } : World) = V at *
      have KB := Lib.hid (HW.out.jmp (k := k) (by rw [HV.out]; exact hlt) (rdJ l m z k))
      rw [stL_set j0 (rdJ l m z) hlt] at KB
      have C1 := Lib.hid (number_at A l c (k * z) z ((k : Int) * (z : Int)) V B1.out hc hcm'.out (by omega) (by omega) (by omega) (HR.out.up HU.out))
      rw [← e1.out] at C1
      have HUS := Lib.hid ((HU.out.setCell' (p := ⟨w.heap.size, k * 2, none⟩) (Nat.le_refl _) (.int .i64 (rdJ l m z k).t)).setCell' (p := ⟨w.heap.size, k * 2 + 1, none⟩) (Nat.le_refl _) (.int .i64 (rdJ l m z k).k))
      rw [e2.out] at KB HUS
      generalize (rdJ l m z k).t = x1 at *
      clear e1 e2 HW mm hll hy
      simp only [List.take_succ_cons, List.take_zero, List.drop_succ_cons, List.drop_zero]
      repeat still_step
      still_call (flipD C1.out)
      repeat still_step
      refine wpStill_nil ?_
      clear C1
      go_wp2_with fail
      go_roundw
      case rel => exact ⟨k + 1, by omega, by go_num, KB.out, HUS.out⟩
      case measure => simp [intOf]; omega
    · have hkq : k = n := by omega
      subst hkq
      go_wp2
      go_ret
      refine ⟨_, rfl, ⟨_, _, rfl, Nat.le_refl _, by unfold maxLen; omega, ?_⟩, Fr.new _ _ _, HU.out⟩
      rw [DM.out]; exact HW.out.rc
end Go.Proofs.YtaljddoenjgbfaaGreat
/-
  The program's block: readKinds.
-/
namespace Go.Proofs.YtaljddoenjgbfaaGreat
open Go.ChangeShapes Go.WideShapes Go.ChangeAt Go.RowKit Lc

set_option maxRecDepth 100000 in
/-- The program's Name, at a byte's place. -/
theorem name_any (A : Option Addr) (na : List UInt8) (c p : Nat) (w : World) (hc : na.length ≤ c) (hcm : c ≤ maxLen) (hr : Rd w A na) :
    Calls Tryz.prog 114 #[.slice A na.length c, .int .i64 p] w fun e w' => ∃ s, e = .returned (.tuple #[.string s, .bool (decide (0 ≤ nmIx na p))]) ∧ (0 ≤ nmIx na p → s = nmOf na p) ∧ w = w' := by
  rcases Nat.lt_or_ge na.length p with h | h
  · have hi : nmIx na p = -1 := by unfold nmIx; rw [List.drop_eq_nil_of_le (by omega)]; rfl
    refine (name_out A na.length c p w (.inr (by omega))).mono ?_
    rintro e w' ⟨rfl, rfl⟩
    exact ⟨_, by rw [hi]; rfl, fun g => by rw [hi] at g; omega, rfl⟩
  · have ge := Lib.indexByte_ge (na.drop p) 0
    by_cases g : 0 ≤ nmIx na p
    · obtain ⟨e, he⟩ := Int.eq_ofNat_of_zero_le g
      have hx := (Lib.indexByte_some (l := na.drop p) (c := 0) (o := e) he).1
      have hlt : e < (na.drop p).length := (List.getElem?_eq_some_iff.1 hx).1
      rw [List.length_drop] at hlt
      refine (name_yes A na c p e w hc hcm (by omega) hr he).mono ?_
      rintro e' w' ⟨rfl, rfl⟩
      refine ⟨_, by rw [decide_eq_true g], fun _ => ?_, rfl⟩
      unfold nmOf str
      rw [he]; rfl
    · have hi : nmIx na p = -1 := by unfold nmIx at g ⊢; omega
      refine (name_none A na c p w hc h hr hi).mono ?_
      rintro e w' ⟨rfl, rfl⟩
      exact ⟨_, by rw [hi]; rfl, fun g => by rw [hi] at g; omega, rfl⟩

set_option maxRecDepth 100000 in
set_option maxHeartbeats 4000000 in
theorem rdkinds_any (A B : Option Addr) (l na : List UInt8) (c d n : Nat) (w : World) (hc : l.length ≤ c) (hcm : c ≤ maxLen) (hd : na.length ≤ d) (hdm : d ≤ maxLen) (hl : n * 6 ≤ l.length) (hn : n ≤ 10000) (hr : Rd w A l) (hs : Rd w B na) :
    Calls Tryz.prog 101 #[.slice A l.length c, .slice B na.length d, .int .i64 n] w fun e w' => ∃ v, e = .returned (.tuple #[v, .bool (kOk l na n)]) ∧ (kOk l na n = true → Sl w' v n (kc (dK l na n))) ∧ Fr w v ∧ Up w w' := by
  have HR := Lib.hid hr
  have HS := Lib.hid hs
  have hcm' := Lib.hid hcm
  have hdm' := Lib.hid hdm
  clear hr hs
  unfold maxLen at hcm hdm
  have E := Lib.hid (show kOk l na n = allB n (kGo l na) from rfl)
  generalize kOk l na n = r at *
  have mk := make_knd w n (by omega)
  have M0 := Lib.hid (Rw.madeK w n)
  rw [← stL_zero k0 (rdK l na) n] at M0
  have U0 := Lib.hid (Up.alloc w (.cells (madeCells #[.int .i64 0, .bool false, .string ByteArray.empty] (n * 3)) 51))
  have DM := Lib.hid (show dK l na n = stL k0 (rdK l na) n n from (stL_end _ _ _).symm)
  generalize madeCells #[.int .i64 0, .bool false, .string ByteArray.empty] (n * 3) = MC at *
  go_enter Tryz.func101, Tryz.ntmps101
  go_wp2
  clear mk
  go_loopw [18] (fun i wr => ∃ k : Nat, k ≤ n ∧ i = .int .i64 k ∧ Rw wr w.heap.size (kc (stL k0 (rdK l na) n k)) ∧ Up w wr ∧ ∀ j, j < k → kGo l na j = true) (fun i _ => n - (intOf i).toNat)
  case atStart => exact ⟨0, Nat.zero_le _, rfl, M0.out, U0.out, fun j hj => absurd hj (Nat.not_lt_zero j)⟩
  case round =>
    clear M0 U0
    obtain ⟨k, hk, rfl, hw, hu, hall⟩ := hrel
    have HW := Lib.hid hw
    have HU := Lib.hid hu
    have HA := Lib.hid hall
    clear hw hu hall
    by_cases hlt : k < n
    · obtain ⟨b, o, rfl, hcell⟩ := (HR.out.up HU.out) (by omega)
      have c4 := hcell (k * 6 + 4) (by omega)
      have c5 := hcell (k * 6 + 5) (by omega)
      clear hcell
      have SL := stL_len k0 (rdK l na) hk
      have KB := Lib.hid (HW.out.knd (k := k) (by omega) (rdK l na k))
      rw [stL_set k0 (rdK l na) hlt] at KB
      obtain ⟨g1, f1⟩ := HW.out _ _ (kc_get (i := k) (by omega)).1
      obtain ⟨g2, f2⟩ := HW.out _ _ (kc_get (i := k) (by omega)).2.1
      obtain ⟨g3, f3⟩ := HW.out _ _ (kc_get (i := k) (by omega)).2.2
      have e1 := Lib.hid (show (rdK l na k).off = sgI 4 (beN (slcB l (k * 6) 4) : Nat) from rfl)
      have e2 := Lib.hid (show (rdK l na k).dst = decide (l.getD (k * 6 + 4) 0 = 1) from rfl)
      have e3 := Lib.hid (show (rdK l na k).name = nmOf na (l.getD (k * 6 + 5) 0).toNat from rfl)
      have EG := Lib.hid (show kGo l na k = (decide ((l.getD (k * 6 + 4) 0).toNat ≤ 1) && decide (0 ≤ nmIx na (l.getD (k * 6 + 5) 0).toNat)) from rfl)
      have HUS := Lib.hid (((HU.out.setCell' (p := ⟨w.heap.size, k * 3, none⟩) (Nat.le_refl _) (.int .i64 (rdK l na k).off)).setCell' (p := ⟨w.heap.size, k * 3 + 1, none⟩) (Nat.le_refl _) (.bool (rdK l na k).dst)).setCell' (p := ⟨w.heap.size, k * 3 + 2, none⟩) (Nat.le_refl _) (.string (rdK l na k).name))
      have C1 := Lib.hid (fun K (hK : K = ((k * 6 : Nat) : Int)) => number_at (some ⟨b, o, none⟩) l c (k * 6) 4 K wr hK hc hcm'.out (by omega) (by omega) (by omega) (HR.out.up HU.out))
      rw [← e1.out] at C1
      have MK := Lib.hid (fun w => rmark_any (l.getD (k * 6 + 4) 0) w)
      rw [← e2.out] at MK
      have NN := Lib.hid (name_any B na d (l.getD (k * 6 + 5) 0).toNat wr hd hdm'.out (HS.out.up HU.out))
      rw [← e3.out] at NN
      have z4 := (l.getD (k * 6 + 4) 0).toNat_lt
      have z5 := (l.getD (k * 6 + 5) 0).toNat_lt
      have HV := Lib.hid SL
      have NX : Hid (0 ≤ nmIx na (l.getD (k * 6 + 5) 0).toNat ↔ decide (0 ≤ nmIx na (l.getD (k * 6 + 5) 0).toNat) = true) := Lib.hid (by simp)
      clear SL e1 e2 e3
      generalize (l.getD (k * 6 + 4) 0).toNat = y4 at *
      generalize (l.getD (k * 6 + 5) 0).toNat = y5 at *
      generalize (rdK l na k).off = x1 at *
      generalize (rdK l na k).dst = x2 at *
      generalize (rdK l na k).name = x3 at *
      generalize decide (y4 ≤ 1) = t4 at *
      generalize decide (0 ≤ nmIx na y5) = t5 at *
      go_wp2_with fail
      refine (MK.out _).mono ?_; rintro e w' ⟨rfl, rfl⟩
      go_wp2_with fail
      refine NN.out.mono ?_; rintro e w' ⟨s, rfl, hs, rfl⟩
      have HSN := Lib.hid hs
      clear hs
      clear MK NN c4 c5
      cases t4
      · have hf : Hid (r = false) := Lib.hid (by rw [E.out]; refine allB_no (k := k) hlt ?_; rw [EG.out]; rfl)
        clear HA KB HUS EG
        go_wp2_with fail
        go_ret2
        exact ⟨_, ret_vb hf.out.symm, (fun h => absurd h (by rw [hf.out]; decide)), Fr.nil _, HU.out⟩
      · cases t5
        · have hf : Hid (r = false) := Lib.hid (by rw [E.out]; refine allB_no (k := k) hlt ?_; rw [EG.out]; rfl)
          clear HA KB HUS EG
          go_wp2_with fail
          go_ret2
          exact ⟨_, ret_vb hf.out.symm, (fun h => absurd h (by rw [hf.out]; decide)), Fr.nil _, HU.out⟩
        · obtain rfl : s = x3 := HSN.out (NX.out.2 rfl)
          have HA' : Hid (∀ j, j < k + 1 → kGo l na j = true) := Lib.hid (snocD HA.out (by rw [EG.out]; rfl))
          clear HA EG HSN NX HW
          go_wp2_with fail
          refine (C1.out _ ?e1).mono ?_
          case e1 => omega
          rintro e w' ⟨rfl, rfl⟩
          go_wp2_with fail
          go_roundw
          case rel => exact ⟨k + 1, by omega, by go_num, KB.out, HUS.out, HA'.out⟩
          case measure => simp [intOf]; omega
    · have hkq : k = n := by omega
      subst hkq
      have hf : Hid (r = true) := Lib.hid (by rw [E.out, allB_true]; exact HA.out)
      go_wp2
      go_ret2
      refine ⟨_, ret_vb hf.out.symm, fun _ => ⟨_, _, rfl, Nat.le_refl _, by unfold maxLen; omega, ?_⟩, Fr.new _ _ _, HU.out⟩
      rw [DM.out]; exact HW.out.rc
end Go.Proofs.YtaljddoenjgbfaaGreat
/-
  The program's block: cut, split.
-/
namespace Go.Proofs.YtaljddoenjgbfaaGreat
open Go.ChangeShapes Go.WideShapes Go.ChangeAt Go.RowKit Lc

/-- The slice v reads as these bytes. -/
def Sb (w : World) (v : Value) (l : List UInt8) : Prop := ∃ A c, v = .slice A l.length c ∧ l.length ≤ c ∧ c ≤ maxLen ∧ Rd w A l
set_option maxRecDepth 100000 in
theorem Sb.up {w w' : World} {v : Value} {l : List UInt8} (h : Sb w v l) (u : Up w w') : Sb w' v l := by
  obtain ⟨A, c, e, h1, h2, r⟩ := h
  exact ⟨A, c, e, h1, h2, r.up u⟩

set_option maxRecDepth 100000 in
theorem Sb.form {w : World} {v : Value} {l : List UInt8} (h : Sb w v l) : ∃ A n c, v = .slice A n c := by
  obtain ⟨A, c, e, _⟩ := h
  exact ⟨A, _, c, e⟩
set_option maxRecDepth 100000 in
set_option maxHeartbeats 1000000 in
theorem cut_any (w0 : World) (v : Value) (l : List UInt8) (k : Nat) (w : World) (h : k ≤ l.length) (hv : Sb w0 v l) :
    Calls Tryz.prog 105 #[v, .int .i64 k] w fun e w' => ∃ v1 v2, e = .returned (.tuple #[v1, v2]) ∧ Sb w0 v1 (l.take k) ∧ Sb w0 v2 (l.drop k) ∧ Dr w w' := by
  obtain ⟨A, c, rfl, hc, hcm, hr⟩ := hv
  have S1 : Hid (Sb w0 (.slice A k c) (l.take k)) := Lib.hid ⟨A, c, by rw [List.length_take, Nat.min_eq_left h], by rw [List.length_take]; omega, hcm, hr.take k⟩
  have hcm' := hcm
  unfold maxLen at hcm
  have x1 : (0 : Int) ≤ (k : Int) := by omega
  have x2 : (k : Int) ≤ (c : Int) := by omega
  have x3 : (k : Int) ≤ (l.length : Int) := by omega
  by_cases hca : c = k
  · have hl : l.length = k := by omega
    have S2 : Hid (Sb w0 (.slice A 0 0) (l.drop k)) := Lib.hid ⟨A, 0, by rw [List.length_drop, hl, Nat.sub_self], by rw [List.length_drop]; omega, by unfold maxLen; omega, by rw [List.drop_eq_nil_of_le (by omega)]; exact Rd.nil _ _⟩
    rw [hl]
    subst hca
    clear hr hcm' hl hc h
    go_enter Tryz.func105, Tryz.ntmps105
    go_wp2
    go_quiet (fail)
    go_wp2
    go_ret2
    exact ⟨_, _, rfl, S1.out, by simpa using S2.out, Dr.drewN _ _⟩
  · have S2 : Hid (Sb w0 (.slice (Option.map (fun x => x.add k) A) (l.length - k) (c - k)) (l.drop k)) := Lib.hid ⟨_, c - k, by rw [List.length_drop], by rw [List.length_drop]; omega, by unfold maxLen at hcm' ⊢; omega, hr.cut k⟩
    generalize l.length = n at *
    clear hr hcm'
    go_enter Tryz.func105, Tryz.ntmps105
    go_wp2
    go_quiet (fail)
    go_wp2
    go_ret2
    exact ⟨_, _, rfl, S1.out, by simpa [hca] using S2.out, Dr.drewN _ _⟩

set_option maxRecDepth 100000 in
theorem cut_at (w0 : World) (v : Value) (l : List UInt8) (k : Nat) (K : Int) (w : World) (hK : K = (k : Int)) (h : k ≤ l.length) (hv : Sb w0 v l) :
    Calls Tryz.prog 105 #[v, .int .i64 K] w fun e w' => ∃ v1 v2, e = .returned (.tuple #[v1, v2]) ∧ Sb w0 v1 (l.take k) ∧ Sb w0 v2 (l.drop k) ∧ Dr w w' := by
  subst hK
  exact cut_any w0 v l k w h hv

set_option maxRecDepth 100000 in
set_option maxHeartbeats 4000000 in
theorem split_any (v : Value) (b : List UInt8) (ver : Int) (u s l t y c z : Nat) (hz : z = 4 ∨ z = 8) (w : World) (hu : u ≤ 256) (hs : s ≤ 256) (hl : l ≤ 5000) (ht : t ≤ 5000) (hy : y ≤ 256) (hc : c ≤ 256) (hb : t * z + t + y * 6 + c + l * (z + 4) + s + u ≤ b.length) (hvb : Sb w v b) :
    Calls Tryz.prog 90 #[v, hv ver u s l t y c, .int .i64 z] w fun e w' => ∃ v0 v1 v2 v3 v4 v5 v6, e = .returned (.agg #[v0, v1, v2, v3, v4, v5, v6]) ∧ Sb w v0 (pMo b t z) ∧ Sb w v1 (pJu b t z) ∧ Sb w v2 (pKi b t y z) ∧ Sb w v3 (pNa b t y c z) ∧ Sb w v4 (pLe b t y c l z) ∧ Sb w v5 (pSd b t y c l s z) ∧ Sb w v6 (pUt b t y c l s u z) ∧ Up w w' := by
  have SV := Lib.hid hvb
  have HB := Lib.hid hb
  clear hvb hb
  have q1 : ((t : Int) * (z : Int)) = ((t * z : Nat) : Int) := by simp
  have q2 : t * z ≤ 5000 * 8 := Nat.mul_le_mul ht (by omega)
  have q3 : (0 : Int) ≤ (t : Int) * (z : Int) := by rw [q1]; omega
  have q4 : (t : Int) * (z : Int) ≤ 200000 := by rw [q1]; omega
  have r1 : ((l : Int) * ((z : Int) + 4)) = ((l * (z + 4) : Nat) : Int) := by simp
  have r2 : l * (z + 4) ≤ 5000 * 12 := Nat.mul_le_mul hl (by omega)
  have r3 : (0 : Int) ≤ (l : Int) * ((z : Int) + 4) := by rw [r1]; omega
  have r4 : (l : Int) * ((z : Int) + 4) ≤ 200000 := by rw [r1]; omega
  have Q1 := Lib.hid q1
  have R1 := Lib.hid r1
  have hz8 : z ≤ 8 := by omega
  clear q1 r1 q2 r2 hz
  go_enter Tryz.func90, Tryz.ntmps90
  go_wp2_with fail
  refine (cut_at w _ (b) (t * z) _ _ (Q1.out) ?h0 SV.out).mono ?_
  case h0 => have := HB.out; (try simp only [List.length_drop]); omega
  rintro e w' ⟨a0, b0, rfl, s0, t0, n0, rfl⟩
  have S0 := Lib.hid s0
  have T0 := Lib.hid t0
  obtain ⟨A0, m0, c0, rfl⟩ := s0.form
  clear s0 t0
  go_wp2_with fail
  refine (cut_at w _ ((b).drop (t * z)) (t) _ _ (rfl) ?h1 T0.out).mono ?_
  case h1 => have := HB.out; (try simp only [List.length_drop]); omega
  rintro e w' ⟨a1, b1, rfl, s1, t1, n1, rfl⟩
  have S1 := Lib.hid s1
  have T1 := Lib.hid t1
  obtain ⟨A1, m1, c1, rfl⟩ := s1.form
  clear s1 t1
  go_wp2_with fail
  refine (cut_at w _ (((b).drop (t * z)).drop (t)) (y * 6) _ _ (by simp) ?h2 T1.out).mono ?_
  case h2 => have := HB.out; (try simp only [List.length_drop]); omega
  rintro e w' ⟨a2, b2, rfl, s2, t2, n2, rfl⟩
  have S2 := Lib.hid s2
  have T2 := Lib.hid t2
  obtain ⟨A2, m2, c2, rfl⟩ := s2.form
  clear s2 t2
  go_wp2_with fail
  refine (cut_at w _ ((((b).drop (t * z)).drop (t)).drop (y * 6)) (c) _ _ (rfl) ?h3 T2.out).mono ?_
  case h3 => have := HB.out; (try simp only [List.length_drop]); omega
  rintro e w' ⟨a3, b3, rfl, s3, t3, n3, rfl⟩
  have S3 := Lib.hid s3
  have T3 := Lib.hid t3
  obtain ⟨A3, m3, c3, rfl⟩ := s3.form
  clear s3 t3
  go_wp2_with fail
  refine (cut_at w _ (((((b).drop (t * z)).drop (t)).drop (y * 6)).drop (c)) (l * (z + 4)) _ _ (R1.out) ?h4 T3.out).mono ?_
  case h4 => have := HB.out; (try simp only [List.length_drop]); omega
  rintro e w' ⟨a4, b4, rfl, s4, t4, n4, rfl⟩
  have S4 := Lib.hid s4
  have T4 := Lib.hid t4
  obtain ⟨A4, m4, c4, rfl⟩ := s4.form
  clear s4 t4
  go_wp2_with fail
  refine (cut_at w _ ((((((b).drop (t * z)).drop (t)).drop (y * 6)).drop (c)).drop (l * (z + 4))) (s) _ _ (rfl) ?h5 T4.out).mono ?_
  case h5 => have := HB.out; (try simp only [List.length_drop]); omega
  rintro e w' ⟨a5, b5, rfl, s5, t5, n5, rfl⟩
  have S5 := Lib.hid s5
  have T5 := Lib.hid t5
  obtain ⟨A5, m5, c5, rfl⟩ := s5.form
  clear s5 t5
  go_wp2_with fail
  refine (cut_at w _ (((((((b).drop (t * z)).drop (t)).drop (y * 6)).drop (c)).drop (l * (z + 4))).drop (s)) (u) _ _ (rfl) ?h6 T5.out).mono ?_
  case h6 => have := HB.out; (try simp only [List.length_drop]); omega
  rintro e w' ⟨a6, b6, rfl, s6, t6, n6, rfl⟩
  have S6 := Lib.hid s6
  have T6 := Lib.hid t6
  obtain ⟨A6, m6, c6, rfl⟩ := s6.form
  clear s6 t6
  go_wp2_with fail
  refine bodyPost_ret (v := .agg #[.slice A0 m0 c0, .slice A1 m1 c1, .slice A2 m2 c2, .slice A3 m3 c3, .slice A4 m4 c4, .slice A5 m5 c5, .slice A6 m6 c6]) (by simp [results, Tryz.results90, go_sem]) rfl ?_
  refine ⟨_, _, _, _, _, _, _, rfl, ?_, ?_, ?_, ?_, ?_, ?_, ?_, ?_⟩
  · simpa only [pMo, slcB, List.drop_zero] using S0.out
  · simpa only [pJu, slcB, List.drop_drop] using S1.out
  · simpa only [pKi, slcB, List.drop_drop] using S2.out
  · simpa only [pNa, slcB, List.drop_drop] using S3.out
  · simpa only [pLe, slcB, List.drop_drop] using S4.out
  · simpa only [pSd, slcB, List.drop_drop] using S5.out
  · simpa only [pUt, slcB, List.drop_drop] using S6.out
  · clear S0 S1 S2 S3 S4 S5 S6 T0 T1 T2 T3 T4 T5 T6 SV HB
    repeat' (first | (with_reducible exact Up.refl _) | (with_reducible apply Up.drewN') | (with_reducible apply Up.setCell') | (with_reducible apply Up.alloc') | (simp only []; omega))
end Go.Proofs.YtaljddoenjgbfaaGreat
