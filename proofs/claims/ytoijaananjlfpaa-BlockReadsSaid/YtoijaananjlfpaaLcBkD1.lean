/-
  Rows of kinds, jumps, leap seconds and marks that a call makes and fills.
-/
import Derived.Test.YtoijaananjlfpaaLcBkS
import Derived.Test.YtoijaananjlfpaaLcBkD0
import Derived.Laws.MakeOwn
namespace Go.Proofs.Ytoijaananjlfpaa
open Go.ChangeShapes Go.WideShapes Go.ChangeAt Go.RowKit Lc

/-- The slice v is nil, or lies in new memory. -/
def Fr (w : World) (v : Value) : Prop := ∀ k, v.ownBlock = some k → w.heap.size ≤ k
theorem Fr.nil (w : World) : Fr w (.slice none 0 0) := fun k hk => by cases hk
theorem Fr.new (w : World) (n c : Nat) : Fr w (.slice (some ⟨w.heap.size, 0, none⟩) n c) := fun k hk => by
  have : some w.heap.size = some k := hk
  injection this with this
  omega
/-- Block g begins with these cells, and they may be written. -/
def Rw (w : World) (g : Nat) (vs : List Value) : Prop := ∀ j v, vs[j]? = some v → w.cell? ⟨g, j, none⟩ = some v ∧ w.frozen? ⟨g, j, none⟩ = false
theorem Rw.rc {w : World} {g : Nat} {vs : List Value} (h : Rw w g vs) : Rc w (some ⟨g, 0, none⟩) vs := fun _ => ⟨g, 0, rfl, fun i v hi => by rw [Nat.zero_add]; exact (h i v hi).1⟩
theorem Rw.up {w w' : World} {g : Nat} {vs : List Value} (h : Rw w g vs) (u : Up w w') : Rw w' g vs := fun j v hj => by
  have lt := cell_lt (h j v hj).1
  exact ⟨u.cell (h j v hj).1, by rw [World.frozen?_of_block (Below.block u _ lt)]; exact (h j v hj).2⟩
theorem Rw.set {w : World} {g : Nat} {vs : List Value} (h : Rw w g vs) {i : Nat} (hi : i < vs.length) (u : Value) : Rw (w.setCell ⟨g, i, none⟩ u) g (vs.set i u) := fun j v hj => by
  obtain ⟨x, hx⟩ : ∃ x, vs[i]? = some x := ⟨_, List.getElem?_eq_getElem hi⟩
  by_cases e : i = j
  · subst e
    rw [List.getElem?_set_self hi] at hj
    injection hj with hj
    subst hj
    exact ⟨World.cell?_setCell_same _ _ _ (h i x hx).1, by rw [World.frozen?_setCell]; exact (h i x hx).2⟩
  · rw [List.getElem?_set_ne e] at hj
    exact ⟨by rw [World.cell?_setCell_other _ _ _ _ (fun c => e (by injection c with _ c))]; exact (h j v hj).1, by rw [World.frozen?_setCell]; exact (h j v hj).2⟩
theorem Rw.new (w : World) (cs : Array Value) (t : TypeId) : Rw (w.alloc (.cells cs t)) w.heap.size cs.toList := fun j v hj => by
  have hj' : cs[j]? = some v := by simpa using hj
  refine ⟨?_, (Free.new w cs t).2 j⟩
  simp [hj']

theorem kc_set {ks : List Knd} {k : Nat} (h : k < ks.length) (x : Knd) : (((kc ks).set (k * 3) (.int .i64 x.off)).set (k * 3 + 1) (.bool x.dst)).set (k * 3 + 2) (.string x.name) = kc (ks.set k x) := by
  induction ks generalizing k with
  | nil => simp at h
  | cons y ks ih =>
    have e : kc (y :: ks) = .int .i64 y.off :: .bool y.dst :: .string y.name :: kc ks := rfl
    cases k with
    | zero => rw [e]; rfl
    | succ k =>
      rw [e, show (k + 1) * 3 = k * 3 + 1 + 1 + 1 by omega]
      simp only [List.set_cons_succ]
      have := ih (k := k) (by simpa using h)
      rw [show k * 3 + 1 + 1 = k * 3 + 2 from rfl]
      show _ = Value.int .i64 y.off :: .bool y.dst :: .string y.name :: kc (ks.set k x)
      rw [← this]
theorem jc_set {ks : List Jmp} {k : Nat} (h : k < ks.length) (x : Jmp) : ((jc ks).set (k * 2) (.int .i64 x.t)).set (k * 2 + 1) (.int .i64 x.k) = jc (ks.set k x) := by
  induction ks generalizing k with
  | nil => simp at h
  | cons y ks ih =>
    have e : jc (y :: ks) = .int .i64 y.t :: .int .i64 y.k :: jc ks := rfl
    cases k with
    | zero => rw [e]; rfl
    | succ k =>
      rw [e, show (k + 1) * 2 = k * 2 + 1 + 1 by omega]
      simp only [List.set_cons_succ]
      show _ = Value.int .i64 y.t :: .int .i64 y.k :: jc (ks.set k x)
      rw [← ih (k := k) (by simpa using h)]
theorem lc_set {ks : List Lep} {k : Nat} (h : k < ks.length) (x : Lep) : ((lc ks).set (k * 2) (.int .i64 x.t)).set (k * 2 + 1) (.int .i64 x.c) = lc (ks.set k x) := by
  induction ks generalizing k with
  | nil => simp at h
  | cons y ks ih =>
    have e : lc (y :: ks) = .int .i64 y.t :: .int .i64 y.c :: lc ks := rfl
    cases k with
    | zero => rw [e]; rfl
    | succ k =>
      rw [e, show (k + 1) * 2 = k * 2 + 1 + 1 by omega]
      simp only [List.set_cons_succ]
      show _ = Value.int .i64 y.t :: .int .i64 y.c :: lc (ks.set k x)
      rw [← ih (k := k) (by simpa using h)]
theorem oc_set (bs : List Bool) (k : Nat) (x : Bool) : (oc bs).set k (.bool x) = oc (bs.set k x) := by simp [oc, List.map_set]

theorem Rw.knd {w : World} {g : Nat} {ks : List Knd} (h : Rw w g (kc ks)) {k : Nat} (hk : k < ks.length) (x : Knd) : Rw (((w.setCell ⟨g, k * 3, none⟩ (.int .i64 x.off)).setCell ⟨g, k * 3 + 1, none⟩ (.bool x.dst)).setCell ⟨g, k * 3 + 2, none⟩ (.string x.name)) g (kc (ks.set k x)) := by
  rw [← kc_set hk]
  exact ((h.set (by rw [kc_len]; omega) _).set (by rw [List.length_set, kc_len]; omega) _).set (by rw [List.length_set, List.length_set, kc_len]; omega) _
theorem Rw.jmp {w : World} {g : Nat} {ks : List Jmp} (h : Rw w g (jc ks)) {k : Nat} (hk : k < ks.length) (x : Jmp) : Rw ((w.setCell ⟨g, k * 2, none⟩ (.int .i64 x.t)).setCell ⟨g, k * 2 + 1, none⟩ (.int .i64 x.k)) g (jc (ks.set k x)) := by
  rw [← jc_set hk]
  exact (h.set (by rw [jc_len]; omega) _).set (by rw [List.length_set, jc_len]; omega) _
theorem Rw.lep {w : World} {g : Nat} {ks : List Lep} (h : Rw w g (lc ks)) {k : Nat} (hk : k < ks.length) (x : Lep) : Rw ((w.setCell ⟨g, k * 2, none⟩ (.int .i64 x.t)).setCell ⟨g, k * 2 + 1, none⟩ (.int .i64 x.c)) g (lc (ks.set k x)) := by
  rw [← lc_set hk]
  exact (h.set (by rw [lc_len]; omega) _).set (by rw [List.length_set, lc_len]; omega) _
theorem Rw.bol {w : World} {g : Nat} {bs : List Bool} (h : Rw w g (oc bs)) {k : Nat} (hk : k < bs.length) (x : Bool) : Rw (w.setCell ⟨g, k, none⟩ (.bool x)) g (oc (bs.set k x)) := by
  rw [← oc_set]; exact h.set (by rw [oc_len]; exact hk) _

theorem kndInfo : (Try.prog.info? 56).map (fun i => (i.zero, i.size, i.bytes)) = some (some (.agg #[.int .i64 0, .bool false, .string ByteArray.empty]), 3, 32) := by kernel_rfl
theorem jmpInfo : (Try.prog.info? 54).map (fun i => (i.zero, i.size, i.bytes)) = some (some (.agg #[.int .i64 0, .int .i64 0]), 2, 16) := by kernel_rfl
theorem lepInfo : (Try.prog.info? 67).map (fun i => (i.zero, i.size, i.bytes)) = some (some (.agg #[.int .i64 0, .int .i64 0]), 2, 16) := by kernel_rfl
theorem bolInfo : (Try.prog.info? 4).map (fun i => (i.zero, i.size, i.bytes)) = some (some (.bool false), 1, 1) := by kernel_rfl

theorem made3 (a b c : Value) (n : Nat) : (madeCells #[a, b, c] (n * 3)).toList = (List.replicate n [a, b, c]).flatten := by
  unfold madeCells
  rw [Array.toList_map, Array.toList_range]
  induction n with
  | zero => rfl
  | succ n ih =>
    rw [show (n + 1) * 3 = n * 3 + 1 + 1 + 1 by omega, List.range_succ, List.range_succ, List.range_succ]
    simp only [List.map_append, List.map_cons, List.map_nil]
    rw [ih, List.replicate_succ', List.flatten_append]
    have h0 : n * 3 % 3 = 0 := by omega
    have h1 : (n * 3 + 1) % 3 = 1 := by omega
    have h2 : (n * 3 + 1 + 1) % 3 = 2 := by omega
    simp [h0, h1, h2]
theorem made2 (a b : Value) (n : Nat) : (madeCells #[a, b] (n * 2)).toList = (List.replicate n [a, b]).flatten := by
  unfold madeCells
  rw [Array.toList_map, Array.toList_range]
  induction n with
  | zero => rfl
  | succ n ih =>
    rw [show (n + 1) * 2 = n * 2 + 1 + 1 by omega, List.range_succ, List.range_succ]
    simp only [List.map_append, List.map_cons, List.map_nil]
    rw [ih, List.replicate_succ', List.flatten_append]
    have h0 : n * 2 % 2 = 0 := by omega
    have h1 : (n * 2 + 1) % 2 = 1 := by omega
    simp [h0, h1]
theorem made1 (a : Value) (n : Nat) : (madeCells #[a] n).toList = List.replicate n a := by
  unfold madeCells
  rw [Array.toList_map, Array.toList_range]
  induction n with
  | zero => rfl
  | succ n ih =>
    rw [List.range_succ, List.map_append, ih, List.replicate_succ']
    simp [Nat.mod_one]
theorem kc_rep (n : Nat) : kc (List.replicate n k0) = (List.replicate n [.int .i64 0, .bool false, .string ByteArray.empty]).flatten := by
  induction n with
  | zero => rfl
  | succ n ih => rw [List.replicate_succ, List.replicate_succ, List.flatten_cons, ← ih]; rfl
theorem jc_rep (n : Nat) : jc (List.replicate n j0) = (List.replicate n [.int .i64 0, .int .i64 0]).flatten := by
  induction n with
  | zero => rfl
  | succ n ih => rw [List.replicate_succ, List.replicate_succ, List.flatten_cons, ← ih]; rfl
theorem lc_rep (n : Nat) : lc (List.replicate n l0) = (List.replicate n [.int .i64 0, .int .i64 0]).flatten := by
  induction n with
  | zero => rfl
  | succ n ih => rw [List.replicate_succ, List.replicate_succ, List.flatten_cons, ← ih]; rfl

theorem make_knd (w : World) (n : Nat) (hn : n ≤ 1000000) : (Instr.makeSlice 22 (.int .i64 n) (.int .i64 n)).run Try.prog w = .ok (.slice (some ⟨w.heap.size, 0, none⟩) n n) (w.alloc (.cells (madeCells #[.int .i64 0, .bool false, .string ByteArray.empty] (n * 3)) 56)) := by
  obtain ⟨i0, hi, hz0, hz1, hz2⟩ := info_parts kndInfo
  have h := run_make (P := Try.prog) w 22 56 i0 _ Try.underlying22 hi hz0 .i64 .i64 n n (by omega) (by omega) (by rw [hz2]; omega) (by omega)
  rw [hz1] at h
  exact h
theorem make_jmp (w : World) (n : Nat) (hn : n ≤ 1000000) : (Instr.makeSlice 23 (.int .i64 n) (.int .i64 n)).run Try.prog w = .ok (.slice (some ⟨w.heap.size, 0, none⟩) n n) (w.alloc (.cells (madeCells #[.int .i64 0, .int .i64 0] (n * 2)) 54)) := by
  obtain ⟨i0, hi, hz0, hz1, hz2⟩ := info_parts jmpInfo
  have h := run_make (P := Try.prog) w 23 54 i0 _ Try.underlying23 hi hz0 .i64 .i64 n n (by omega) (by omega) (by rw [hz2]; omega) (by omega)
  rw [hz1] at h
  exact h
theorem make_lep (w : World) (n : Nat) (hn : n ≤ 1000000) : (Instr.makeSlice 24 (.int .i64 n) (.int .i64 n)).run Try.prog w = .ok (.slice (some ⟨w.heap.size, 0, none⟩) n n) (w.alloc (.cells (madeCells #[.int .i64 0, .int .i64 0] (n * 2)) 67)) := by
  obtain ⟨i0, hi, hz0, hz1, hz2⟩ := info_parts lepInfo
  have h := run_make (P := Try.prog) w 24 67 i0 _ Try.underlying24 hi hz0 .i64 .i64 n n (by omega) (by omega) (by rw [hz2]; omega) (by omega)
  rw [hz1] at h
  exact h
theorem make_bol (w : World) (n : Nat) (hn : n ≤ 1000000) : (Instr.makeSlice 25 (.int .i64 n) (.int .i64 n)).run Try.prog w = .ok (.slice (some ⟨w.heap.size, 0, none⟩) n n) (w.alloc (.cells (madeCells #[.bool false] n) 4)) := by
  obtain ⟨i0, hi, hz0, hz1, hz2⟩ := info_parts bolInfo
  have h := run_make (P := Try.prog) w 25 4 i0 _ Try.underlying25 hi hz0 .i64 .i64 n n (by omega) (by omega) (by rw [hz2]; omega) (by omega)
  rw [hz1, Int.toNat_natCast, Nat.mul_one] at h
  exact h
theorem Rw.madeK (w : World) (n : Nat) : Rw (w.alloc (.cells (madeCells #[.int .i64 0, .bool false, .string ByteArray.empty] (n * 3)) 56)) w.heap.size (kc (List.replicate n k0)) := by
  rw [kc_rep, ← made3]; exact Rw.new _ _ _
theorem Rw.madeJ (w : World) (n : Nat) : Rw (w.alloc (.cells (madeCells #[.int .i64 0, .int .i64 0] (n * 2)) 54)) w.heap.size (jc (List.replicate n j0)) := by
  rw [jc_rep, ← made2]; exact Rw.new _ _ _
theorem Rw.madeL (w : World) (n : Nat) : Rw (w.alloc (.cells (madeCells #[.int .i64 0, .int .i64 0] (n * 2)) 67)) w.heap.size (lc (List.replicate n l0)) := by
  rw [lc_rep, ← made2]; exact Rw.new _ _ _
theorem Rw.madeB (w : World) (n : Nat) : Rw (w.alloc (.cells (madeCells #[.bool false] n) 4)) w.heap.size (oc (List.replicate n false)) := by
  have h := Rw.new w (madeCells #[.bool false] n) 4
  rw [made1] at h
  unfold oc
  rw [List.map_replicate]; exact h
end Go.Proofs.Ytoijaananjlfpaa
