/-
  Slices of kinds, jumps, leap seconds and marks, as cells; a block as a value.
-/
import Derived.Test.YtoijaananjlfpaaLcByt
import Derived.Test.YtoijaananjlfpaaLcBk0
namespace Go.Proofs.Ytoijaananjlfpaa
open Go.ChangeShapes Go.WideShapes Go.ChangeAt Go.RowKit Lc

/-- From this address on the values vs lie in memory. -/
def Rc (w : World) (A : Option Addr) (vs : List Value) : Prop :=
  0 < vs.length → ∃ b o, A = some ⟨b, o, none⟩ ∧ ∀ i v, vs[i]? = some v → w.cell? ⟨b, o + i, none⟩ = some v
theorem Rc.up {w w' : World} {A : Option Addr} {vs : List Value} (h : Rc w A vs) (u : Up w w') : Rc w' A vs := fun h0 => by
  obtain ⟨b, o, e, hc⟩ := h h0
  exact ⟨b, o, e, fun i v hi => u.cell (hc i v hi)⟩
theorem Rc.nil (w : World) (A : Option Addr) : Rc w A [] := fun h => absurd h (by simp)

/-- The cells of so many kinds. -/
def kc (ks : List Knd) : List Value := ks.flatMap fun k => [.int .i64 k.off, .bool k.dst, .string k.name]
def jc (js : List Jmp) : List Value := js.flatMap fun j => [.int .i64 j.t, .int .i64 j.k]
def lc (ls : List Lep) : List Value := ls.flatMap fun l => [.int .i64 l.t, .int .i64 l.c]
def oc (bs : List Bool) : List Value := bs.map .bool
theorem kc_len (ks : List Knd) : (kc ks).length = ks.length * 3 := by induction ks with
  | nil => rfl
  | cons k ks ih => simp only [kc, List.flatMap_cons, List.length_append, List.length_cons, List.length_nil] at ih ⊢; omega
theorem jc_len (ks : List Jmp) : (jc ks).length = ks.length * 2 := by induction ks with
  | nil => rfl
  | cons k ks ih => simp only [jc, List.flatMap_cons, List.length_append, List.length_cons, List.length_nil] at ih ⊢; omega
theorem lc_len (ks : List Lep) : (lc ks).length = ks.length * 2 := by induction ks with
  | nil => rfl
  | cons k ks ih => simp only [lc, List.flatMap_cons, List.length_append, List.length_cons, List.length_nil] at ih ⊢; omega
theorem oc_len (bs : List Bool) : (oc bs).length = bs.length := by simp [oc]
theorem kc_append (a b : List Knd) : kc (a ++ b) = kc a ++ kc b := by simp [kc]
theorem jc_append (a b : List Jmp) : jc (a ++ b) = jc a ++ jc b := by simp [jc]
theorem lc_append (a b : List Lep) : lc (a ++ b) = lc a ++ lc b := by simp [lc]
theorem oc_append (a b : List Bool) : oc (a ++ b) = oc a ++ oc b := by simp [oc]
theorem kc_get {ks : List Knd} {i : Nat} (h : i < ks.length) : (kc ks)[i * 3]? = some (.int .i64 (ks.getD i k0).off) ∧ (kc ks)[i * 3 + 1]? = some (.bool (ks.getD i k0).dst) ∧ (kc ks)[i * 3 + 2]? = some (.string (ks.getD i k0).name) := by
  induction ks generalizing i with
  | nil => simp at h
  | cons k ks ih =>
    cases i with
    | zero => exact ⟨rfl, rfl, rfl⟩
    | succ i =>
      obtain ⟨a, b, c⟩ := ih (i := i) (by simpa using h)
      have e : kc (k :: ks) = .int .i64 k.off :: .bool k.dst :: .string k.name :: kc ks := rfl
      rw [e, show (i + 1) * 3 = i * 3 + 1 + 1 + 1 by omega]
      simp only [List.getElem?_cons_succ, List.getD_cons_succ]
      exact ⟨a, b, c⟩
theorem jc_get {ks : List Jmp} {i : Nat} (h : i < ks.length) : (jc ks)[i * 2]? = some (.int .i64 (ks.getD i j0).t) ∧ (jc ks)[i * 2 + 1]? = some (.int .i64 (ks.getD i j0).k) := by
  induction ks generalizing i with
  | nil => simp at h
  | cons k ks ih =>
    cases i with
    | zero => exact ⟨rfl, rfl⟩
    | succ i =>
      obtain ⟨a, b⟩ := ih (i := i) (by simpa using h)
      have e : jc (k :: ks) = .int .i64 k.t :: .int .i64 k.k :: jc ks := rfl
      rw [e, show (i + 1) * 2 = i * 2 + 1 + 1 by omega]
      simp only [List.getElem?_cons_succ, List.getD_cons_succ]
      exact ⟨a, b⟩
theorem lc_get {ks : List Lep} {i : Nat} (h : i < ks.length) : (lc ks)[i * 2]? = some (.int .i64 (ks.getD i l0).t) ∧ (lc ks)[i * 2 + 1]? = some (.int .i64 (ks.getD i l0).c) := by
  induction ks generalizing i with
  | nil => simp at h
  | cons k ks ih =>
    cases i with
    | zero => exact ⟨rfl, rfl⟩
    | succ i =>
      obtain ⟨a, b⟩ := ih (i := i) (by simpa using h)
      have e : lc (k :: ks) = .int .i64 k.t :: .int .i64 k.c :: lc ks := rfl
      rw [e, show (i + 1) * 2 = i * 2 + 1 + 1 by omega]
      simp only [List.getElem?_cons_succ, List.getD_cons_succ]
      exact ⟨a, b⟩
theorem oc_get {bs : List Bool} {i : Nat} (h : i < bs.length) : (oc bs)[i]? = some (.bool (bs.getD i false)) := by simp [oc, h]

/-- A kind in memory. -/
theorem Rc.knd {w : World} {A : Option Addr} {ks : List Knd} (h : Rc w A (kc ks)) {i : Nat} (hi : i < ks.length) : ∃ b o, A = some ⟨b, o, none⟩ ∧ w.cell? ⟨b, o + i * 3, none⟩ = some (.int .i64 (ks.getD i k0).off) ∧ w.cell? ⟨b, o + i * 3 + 1, none⟩ = some (.bool (ks.getD i k0).dst) ∧ w.cell? ⟨b, o + i * 3 + 2, none⟩ = some (.string (ks.getD i k0).name) := by
  obtain ⟨b, o, e, hc⟩ := h (by rw [kc_len]; omega)
  obtain ⟨x, y, z⟩ := kc_get hi
  exact ⟨b, o, e, hc _ _ x, by rw [Nat.add_assoc]; exact hc _ _ y, by rw [Nat.add_assoc]; exact hc _ _ z⟩
theorem Rc.jmp {w : World} {A : Option Addr} {ks : List Jmp} (h : Rc w A (jc ks)) {i : Nat} (hi : i < ks.length) : ∃ b o, A = some ⟨b, o, none⟩ ∧ ∀ i, i < ks.length → w.cell? ⟨b, o + i * 2, none⟩ = some (.int .i64 (ks.getD i j0).t) ∧ w.cell? ⟨b, o + i * 2 + 1, none⟩ = some (.int .i64 (ks.getD i j0).k) := by
  obtain ⟨b, o, e, hc⟩ := h (by rw [jc_len]; omega)
  refine ⟨b, o, e, fun i hi => ?_⟩
  obtain ⟨x, y⟩ := jc_get hi
  exact ⟨hc _ _ x, by rw [Nat.add_assoc]; exact hc _ _ y⟩
theorem Rc.lep {w : World} {A : Option Addr} {ks : List Lep} (h : Rc w A (lc ks)) {i : Nat} (hi : i < ks.length) : ∃ b o, A = some ⟨b, o, none⟩ ∧ w.cell? ⟨b, o + i * 2, none⟩ = some (.int .i64 (ks.getD i l0).t) ∧ w.cell? ⟨b, o + i * 2 + 1, none⟩ = some (.int .i64 (ks.getD i l0).c) := by
  obtain ⟨b, o, e, hc⟩ := h (by rw [lc_len]; omega)
  obtain ⟨x, y⟩ := lc_get hi
  exact ⟨b, o, e, hc _ _ x, by rw [Nat.add_assoc]; exact hc _ _ y⟩
theorem Rc.bol {w : World} {A : Option Addr} {bs : List Bool} (h : Rc w A (oc bs)) {i : Nat} (hi : i < bs.length) : ∃ b o, A = some ⟨b, o, none⟩ ∧ w.cell? ⟨b, o + i, none⟩ = some (.bool (bs.getD i false)) := by
  obtain ⟨b, o, e, hc⟩ := h (by rw [oc_len]; omega)
  exact ⟨b, o, e, hc _ _ (oc_get hi)⟩

/-- The slice v reads as these cells, so many elements. -/
def Sl (w : World) (v : Value) (n : Nat) (vs : List Value) : Prop := ∃ A c, v = .slice A n c ∧ n ≤ c ∧ c ≤ maxLen ∧ Rc w A vs
theorem Sl.up {w w' : World} {v : Value} {n : Nat} {vs : List Value} (h : Sl w v n vs) (u : Up w w') : Sl w' v n vs := by
  obtain ⟨A, c, e, h1, h2, r⟩ := h
  exact ⟨A, c, e, h1, h2, r.up u⟩
/-- The value v reads as the block x. -/
def BkR (w : World) (v : Value) (x : Blk) : Prop := ∃ a b c d e, v = .agg #[a, b, c, d, e] ∧ Sl w a x.ks.length (kc x.ks) ∧ Sl w b x.js.length (jc x.js) ∧ Sl w c x.ls.length (lc x.ls) ∧ Sl w d x.sd.length (oc x.sd) ∧ Sl w e x.ut.length (oc x.ut)
theorem BkR.up {w w' : World} {v : Value} {x : Blk} (h : BkR w v x) (u : Up w w') : BkR w' v x := by
  obtain ⟨a, b, c, d, e, hv, h1, h2, h3, h4, h5⟩ := h
  exact ⟨a, b, c, d, e, hv, h1.up u, h2.up u, h3.up u, h4.up u, h5.up u⟩
end Go.Proofs.Ytoijaananjlfpaa
