/-
  Files and blocks handed in by value: opened (out of XLcBkO, round 7).
-/
import Derived.Test.YtaljddoenjgbfaaGreatLcTz0
import Derived.Deep.Slices
import Derived.ChangeSame
import Derived.OpenShut
import Derived.WideShapes
namespace Go.Proofs.YtaljddoenjgbfaaGreat
open Go.ChangeShapes Go.WideShapes Go.ChangeAt Go.RowKit Go.Deep Lc

set_option maxRecDepth 100000 in
theorem kc_all {l : List Knd} {Pr : Nat → Value → Prop} (h : ∀ i, i < l.length → Pr (i * 3) (.int .i64 (l.getD i k0).off) ∧ Pr (i * 3 + 1) (.bool (l.getD i k0).dst) ∧ Pr (i * 3 + 2) (.string (l.getD i k0).name)) (j : Nat) (v : Value) (hj : (kc l)[j]? = some v) : Pr j v := by
  have lt : j < l.length * 3 := by
    rw [← kc_len]
    rcases Nat.lt_or_ge j (kc l).length with g | g
    · exact g
    · rw [List.getElem?_eq_none g] at hj; cases hj
  obtain ⟨i, hi, e⟩ : ∃ i, i < l.length ∧ (j = i * 3 ∨ j = i * 3 + 1 ∨ j = i * 3 + 2) := ⟨j / 3, by omega, by omega⟩
  obtain ⟨a, b, c⟩ := kc_get hi
  obtain ⟨x, y, z⟩ := h i hi
  rcases e with rfl | rfl | rfl
  · rw [a] at hj; injection hj with hj; rw [← hj]; exact x
  · rw [b] at hj; injection hj with hj; rw [← hj]; exact y
  · rw [c] at hj; injection hj with hj; rw [← hj]; exact z
set_option maxRecDepth 100000 in
theorem jc_all {l : List Jmp} {Pr : Nat → Value → Prop} (h : ∀ i, i < l.length → Pr (i * 2) (.int .i64 (l.getD i j0).t) ∧ Pr (i * 2 + 1) (.int .i64 (l.getD i j0).k)) (j : Nat) (v : Value) (hj : (jc l)[j]? = some v) : Pr j v := by
  have lt : j < l.length * 2 := by
    rw [← jc_len]
    rcases Nat.lt_or_ge j (jc l).length with g | g
    · exact g
    · rw [List.getElem?_eq_none g] at hj; cases hj
  obtain ⟨i, hi, e⟩ : ∃ i, i < l.length ∧ (j = i * 2 ∨ j = i * 2 + 1) := ⟨j / 2, by omega, by omega⟩
  obtain ⟨a, b⟩ := jc_get hi
  obtain ⟨x, y⟩ := h i hi
  rcases e with rfl | rfl
  · rw [a] at hj; injection hj with hj; rw [← hj]; exact x
  · rw [b] at hj; injection hj with hj; rw [← hj]; exact y
set_option maxRecDepth 100000 in
theorem lc_all {l : List Lep} {Pr : Nat → Value → Prop} (h : ∀ i, i < l.length → Pr (i * 2) (.int .i64 (l.getD i l0).t) ∧ Pr (i * 2 + 1) (.int .i64 (l.getD i l0).c)) (j : Nat) (v : Value) (hj : (lc l)[j]? = some v) : Pr j v := by
  have lt : j < l.length * 2 := by
    rw [← lc_len]
    rcases Nat.lt_or_ge j (lc l).length with g | g
    · exact g
    · rw [List.getElem?_eq_none g] at hj; cases hj
  obtain ⟨i, hi, e⟩ : ∃ i, i < l.length ∧ (j = i * 2 ∨ j = i * 2 + 1) := ⟨j / 2, by omega, by omega⟩
  obtain ⟨a, b⟩ := lc_get hi
  obtain ⟨x, y⟩ := h i hi
  rcases e with rfl | rfl
  · rw [a] at hj; injection hj with hj; rw [← hj]; exact x
  · rw [b] at hj; injection hj with hj; rw [← hj]; exact y
set_option maxRecDepth 100000 in
theorem kndCells : Tryz.prog.cellsOf 51 = 3 := by kernel_rfl
set_option maxRecDepth 100000 in
theorem jmpCells : Tryz.prog.cellsOf 70 = 2 := by kernel_rfl
set_option maxRecDepth 100000 in
theorem lepCells : Tryz.prog.cellsOf 73 = 2 := by kernel_rfl
set_option maxRecDepth 100000 in
theorem bolCells : Tryz.prog.cellsOf 4 = 1 := by kernel_rfl
set_option maxRecDepth 100000 in
theorem strCells : Tryz.prog.cellsOf 9 = 1 := by kernel_rfl
set_option maxRecDepth 100000 in
theorem i64Cells : Tryz.prog.cellsOf 2 = 1 := by kernel_rfl
set_option maxRecDepth 100000 in
theorem intCells1 : Tryz.prog.cellsOf 3 = 1 := by kernel_rfl
set_option maxRecDepth 100000 in
theorem list3' {α : Type} {l : List α} (h : l.length = 3) : ∃ c0 c1 c2, l = [c0, c1, c2] := by
  match l, h with
  | [c0, c1, c2], _ => exact ⟨c0, c1, c2, rfl⟩
set_option maxRecDepth 100000 in
theorem list2' {α : Type} {l : List α} (h : l.length = 2) : ∃ c0 c1, l = [c0, c1] := by
  match l, h with
  | [c0, c1], _ => exact ⟨c0, c1, rfl⟩
set_option maxRecDepth 100000 in
theorem list5' {α : Type} {l : List α} (h : l.length = 5) : ∃ c0 c1 c2 c3 c4, l = [c0, c1, c2, c3, c4] := by
  match l, h with
  | [c0, c1, c2, c3, c4], _ => exact ⟨c0, c1, c2, c3, c4, rfl⟩
set_option maxRecDepth 100000 in
theorem wf64 {n : Int} (h : (Lit.int .i64 n).wf = true) : -9223372036854775808 ≤ n ∧ n ≤ 9223372036854775807 := by
  have h1 : IntKind.i64.min = -9223372036854775808 := rfl
  have h2 : IntKind.i64.max = 9223372036854775807 := rfl
  simp only [Lit.wf, Bool.and_eq_true, decide_eq_true_eq] at h
  omega
section
variable {H : Type} {enc : TypeId × Value → H} {w : World} {base : Nat} {spare : Nat → Bool} {held : Bool}
set_option maxRecDepth 100000 in
theorem open_kinds {n : Nat} {x : DataW H × List MemPlace} {c : Value} (h : DataW.trod enc Tryz.prog w base spare held n 22 [c] = some x) : ∃ l : List Knd, Sl w c l.length (kc l) := by
  rcases open_slice Tryz.underlying22 h with ⟨hc, _⟩ | ⟨a, len, cap, m, n', D, Pl, hc, _, hl, hm, hmm, _, hi⟩
  · injection hc with hc _; subst hc; exact ⟨[], ⟨_, _, rfl, Nat.le_refl _, Nat.zero_le _, Rc.nil _ _⟩⟩
  · injection hc with hc _; subst hc
    have hlm : len ≤ m := by rw [hmm]; split <;> omega
    rw [kndCells] at hi
    have E : ∀ i, i < len → ∃ k : Knd, w.cell? (a.add (i * 3 + 0)) = some (.int .i64 k.off) ∧ w.cell? (a.add (i * 3 + 1)) = some (.bool k.dst) ∧ w.cell? (a.add (i * 3 + 2)) = some (.string k.name) := fun i hi' => by
      obtain ⟨cs, h1, h2⟩ := hi i (by omega)
      obtain ⟨_, h3, hcell⟩ := World.cells?_some h1
      obtain ⟨c0, c1, c2, rfl⟩ := list3' h3
      obtain ⟨xs, nn, _, _, _, hlen, hg⟩ := DataW.trod_struct Tryz.underlying51 h2
      obtain ⟨y0, y1, y2, rfl⟩ := list3' (l := xs) hlen
      have g0 : DataW.trod enc Tryz.prog w base spare held nn 3 [c0] = some y0 := by
        have q : DataW.trod enc Tryz.prog w base spare held nn 3 (List.take (Tryz.prog.cellsOf 3) (List.drop 0 [c0, c1, c2])) = some y0 := hg 0 _ rfl
        rw [intCells1] at q; exact q
      have g1 : DataW.trod enc Tryz.prog w base spare held nn 4 [c1] = some y1 := by
        have q : DataW.trod enc Tryz.prog w base spare held nn 4 (List.take (Tryz.prog.cellsOf 4) (List.drop 1 [c0, c1, c2])) = some y1 := hg 1 _ rfl
        rw [bolCells] at q; exact q
      have g2 : DataW.trod enc Tryz.prog w base spare held nn 9 [c2] = some y2 := by
        have q : DataW.trod enc Tryz.prog w base spare held nn 9 (List.take (Tryz.prog.cellsOf 9) (List.drop 2 [c0, c1, c2])) = some y2 := hg 2 _ rfl
        rw [strCells] at q; exact q
      obtain ⟨z0, e0, _, w0⟩ := DataW.trod_int Tryz.underlying3 g0
      injection e0 with e0 _; subst e0
      obtain ⟨z1, e1, _⟩ := DataW.trod_bool Tryz.underlying4 g1
      injection e1 with e1 _; subst e1
      obtain ⟨z2, e2, _, _⟩ := DataW.trod_string Tryz.underlying9 g2
      injection e2 with e2 _; subst e2
      exact ⟨⟨z0, z1, z2⟩, by have := hcell 0 (by omega); rw [Go.Deep.add_add] at this; exact this, by have := hcell 1 (by omega); rw [Go.Deep.add_add] at this; exact this, by have := hcell 2 (by omega); rw [Go.Deep.add_add] at this; exact this⟩
    haveI : Inhabited Knd := ⟨k0⟩
    obtain ⟨f, hf⟩ := choose_lt E
    have ln : ((List.range len).map f).length = len := by simp
    have gd : ∀ i, i < len → ((List.range len).map f).getD i k0 = f i := fun i hi => by simp [List.getD, hi]
    refine ⟨(List.range len).map f, ⟨some a, cap, by rw [ln], by rw [ln]; exact hl, hm, fun h0 => ?_⟩⟩
    have l0 : 0 < len := by rw [kc_len, ln] at h0; omega
    obtain ⟨b, o, s⟩ := a
    obtain rfl : s = none := by have := (hf 0 l0).1; simpa [Addr.add] using World.cell?_spot this
    refine ⟨b, o, rfl, kc_all (Pr := fun j v => w.cell? ⟨b, o + j, none⟩ = some v) fun i hi => ?_⟩
    rw [ln] at hi
    rw [gd i hi]
    obtain ⟨q0, q1, q2⟩ := hf i hi
    rw [Go.WideShapes.add_plain] at q0 q1 q2
    exact ⟨q0, q1, q2⟩
set_option maxRecDepth 100000 in
theorem open_jumps {n : Nat} {x : DataW H × List MemPlace} {c : Value} (h : DataW.trod enc Tryz.prog w base spare held n 23 [c] = some x) : ∃ l : List Jmp, Sl w c l.length (jc l) ∧ ∀ i, i < l.length → -9223372036854775808 ≤ (l.getD i j0).t ∧ (l.getD i j0).t ≤ 9223372036854775807 := by
  rcases open_slice Tryz.underlying23 h with ⟨hc, _⟩ | ⟨a, len, cap, m, n', D, Pl, hc, _, hl, hm, hmm, _, hi⟩
  · injection hc with hc _; subst hc; exact ⟨[], ⟨_, _, rfl, Nat.le_refl _, Nat.zero_le _, Rc.nil _ _⟩, fun i hi => absurd hi (Nat.not_lt_zero i)⟩
  · injection hc with hc _; subst hc
    have hlm : len ≤ m := by rw [hmm]; split <;> omega
    rw [jmpCells] at hi
    have E : ∀ i, i < len → ∃ k : Jmp, w.cell? (a.add (i * 2 + 0)) = some (.int .i64 k.t) ∧ w.cell? (a.add (i * 2 + 1)) = some (.int .i64 k.k) ∧ -9223372036854775808 ≤ k.t ∧ k.t ≤ 9223372036854775807 := fun i hi' => by
      obtain ⟨cs, h1, h2⟩ := hi i (by omega)
      obtain ⟨_, h3, hcell⟩ := World.cells?_some h1
      obtain ⟨c0, c1, rfl⟩ := list2' h3
      obtain ⟨xs, nn, _, _, _, hlen, hg⟩ := DataW.trod_struct Tryz.underlying70 h2
      obtain ⟨y0, y1, rfl⟩ := list2' (l := xs) hlen
      have g0 : DataW.trod enc Tryz.prog w base spare held nn 2 [c0] = some y0 := by
        have q : DataW.trod enc Tryz.prog w base spare held nn 2 (List.take (Tryz.prog.cellsOf 2) (List.drop 0 [c0, c1])) = some y0 := hg 0 _ rfl
        rw [i64Cells] at q; exact q
      have g1 : DataW.trod enc Tryz.prog w base spare held nn 3 [c1] = some y1 := by
        have q : DataW.trod enc Tryz.prog w base spare held nn 3 (List.take (Tryz.prog.cellsOf 3) (List.drop 1 [c0, c1])) = some y1 := hg 1 _ rfl
        rw [intCells1] at q; exact q
      obtain ⟨z0, e0, _, w0⟩ := DataW.trod_int Tryz.underlying2 g0
      injection e0 with e0 _; subst e0
      obtain ⟨z1, e1, _, w1⟩ := DataW.trod_int Tryz.underlying3 g1
      injection e1 with e1 _; subst e1
      exact ⟨⟨z0, z1⟩, by have := hcell 0 (by omega); rw [Go.Deep.add_add] at this; exact this, by have := hcell 1 (by omega); rw [Go.Deep.add_add] at this; exact this, (wf64 w0).1, (wf64 w0).2⟩
    haveI : Inhabited Jmp := ⟨j0⟩
    obtain ⟨f, hf⟩ := choose_lt E
    have ln : ((List.range len).map f).length = len := by simp
    have gd : ∀ i, i < len → ((List.range len).map f).getD i j0 = f i := fun i hi => by simp [List.getD, hi]
    refine ⟨(List.range len).map f, ⟨some a, cap, by rw [ln], by rw [ln]; exact hl, hm, fun h0 => ?_⟩, ?_⟩
    · have l0 : 0 < len := by rw [jc_len, ln] at h0; omega
      obtain ⟨b, o, s⟩ := a
      obtain rfl : s = none := by have := (hf 0 l0).1; simpa [Addr.add] using World.cell?_spot this
      refine ⟨b, o, rfl, jc_all (Pr := fun j v => w.cell? ⟨b, o + j, none⟩ = some v) fun i hi => ?_⟩
      rw [ln] at hi
      rw [gd i hi]
      obtain ⟨q0, q1, _, _⟩ := hf i hi
      rw [Go.WideShapes.add_plain] at q0 q1
      exact ⟨q0, q1⟩
    · intro i hi
      rw [ln] at hi
      rw [gd i hi]
      exact (hf i hi).2.2
set_option maxRecDepth 100000 in
theorem open_leaps {n : Nat} {x : DataW H × List MemPlace} {c : Value} (h : DataW.trod enc Tryz.prog w base spare held n 24 [c] = some x) : ∃ l : List Lep, Sl w c l.length (lc l) ∧ ∀ i, i < l.length → -9223372036854775808 ≤ (l.getD i l0).t ∧ (l.getD i l0).t ≤ 9223372036854775807 := by
  rcases open_slice Tryz.underlying24 h with ⟨hc, _⟩ | ⟨a, len, cap, m, n', D, Pl, hc, _, hl, hm, hmm, _, hi⟩
  · injection hc with hc _; subst hc; exact ⟨[], ⟨_, _, rfl, Nat.le_refl _, Nat.zero_le _, Rc.nil _ _⟩, fun i hi => absurd hi (Nat.not_lt_zero i)⟩
  · injection hc with hc _; subst hc
    have hlm : len ≤ m := by rw [hmm]; split <;> omega
    rw [lepCells] at hi
    have E : ∀ i, i < len → ∃ k : Lep, w.cell? (a.add (i * 2 + 0)) = some (.int .i64 k.t) ∧ w.cell? (a.add (i * 2 + 1)) = some (.int .i64 k.c) ∧ -9223372036854775808 ≤ k.t ∧ k.t ≤ 9223372036854775807 := fun i hi' => by
      obtain ⟨cs, h1, h2⟩ := hi i (by omega)
      obtain ⟨_, h3, hcell⟩ := World.cells?_some h1
      obtain ⟨c0, c1, rfl⟩ := list2' h3
      obtain ⟨xs, nn, _, _, _, hlen, hg⟩ := DataW.trod_struct Tryz.underlying73 h2
      obtain ⟨y0, y1, rfl⟩ := list2' (l := xs) hlen
      have g0 : DataW.trod enc Tryz.prog w base spare held nn 2 [c0] = some y0 := by
        have q : DataW.trod enc Tryz.prog w base spare held nn 2 (List.take (Tryz.prog.cellsOf 2) (List.drop 0 [c0, c1])) = some y0 := hg 0 _ rfl
        rw [i64Cells] at q; exact q
      have g1 : DataW.trod enc Tryz.prog w base spare held nn 3 [c1] = some y1 := by
        have q : DataW.trod enc Tryz.prog w base spare held nn 3 (List.take (Tryz.prog.cellsOf 3) (List.drop 1 [c0, c1])) = some y1 := hg 1 _ rfl
        rw [intCells1] at q; exact q
      obtain ⟨z0, e0, _, w0⟩ := DataW.trod_int Tryz.underlying2 g0
      injection e0 with e0 _; subst e0
      obtain ⟨z1, e1, _, w1⟩ := DataW.trod_int Tryz.underlying3 g1
      injection e1 with e1 _; subst e1
      exact ⟨⟨z0, z1⟩, by have := hcell 0 (by omega); rw [Go.Deep.add_add] at this; exact this, by have := hcell 1 (by omega); rw [Go.Deep.add_add] at this; exact this, (wf64 w0).1, (wf64 w0).2⟩
    haveI : Inhabited Lep := ⟨l0⟩
    obtain ⟨f, hf⟩ := choose_lt E
    have ln : ((List.range len).map f).length = len := by simp
    have gd : ∀ i, i < len → ((List.range len).map f).getD i l0 = f i := fun i hi => by simp [List.getD, hi]
    refine ⟨(List.range len).map f, ⟨some a, cap, by rw [ln], by rw [ln]; exact hl, hm, fun h0 => ?_⟩, ?_⟩
    · have l0 : 0 < len := by rw [lc_len, ln] at h0; omega
      obtain ⟨b, o, s⟩ := a
      obtain rfl : s = none := by have := (hf 0 l0).1; simpa [Addr.add] using World.cell?_spot this
      refine ⟨b, o, rfl, lc_all (Pr := fun j v => w.cell? ⟨b, o + j, none⟩ = some v) fun i hi => ?_⟩
      rw [ln] at hi
      rw [gd i hi]
      obtain ⟨q0, q1, _, _⟩ := hf i hi
      rw [Go.WideShapes.add_plain] at q0 q1
      exact ⟨q0, q1⟩
    · intro i hi
      rw [ln] at hi
      rw [gd i hi]
      exact (hf i hi).2.2
set_option maxRecDepth 100000 in
theorem open_marks {n : Nat} {x : DataW H × List MemPlace} {c : Value} (h : DataW.trod enc Tryz.prog w base spare held n 25 [c] = some x) : ∃ l : List Bool, Sl w c l.length (oc l) := by
  rcases open_slice1 Tryz.underlying25 bolCells h with ⟨hc, _⟩ | ⟨a, len, cap, m, n', V, D, Pl, hc, _, hl, hm, hmm, _, hi⟩
  · injection hc with hc _; subst hc; exact ⟨[], ⟨_, _, rfl, Nat.le_refl _, Nat.zero_le _, Rc.nil _ _⟩⟩
  · injection hc with hc _; subst hc
    have hlm : len ≤ m := by rw [hmm]; split <;> omega
    have E : ∀ i, i < len → ∃ k : Bool, w.cell? (a.add i) = some (.bool k) := fun i hi' => by
      obtain ⟨h1, h2⟩ := hi i (by omega)
      obtain ⟨z, e, _⟩ := DataW.trod_bool Tryz.underlying4 h2
      injection e with e _
      exact ⟨z, by rw [h1, e]⟩
    obtain ⟨f, hf⟩ := choose_lt E
    have ln : ((List.range len).map f).length = len := by simp
    refine ⟨(List.range len).map f, some a, cap, by rw [ln], by rw [ln]; exact hl, hm, fun h0 => ?_⟩
    have l0 : 0 < len := by rw [oc_len, ln] at h0; exact h0
    obtain ⟨b, o, s⟩ := a
    obtain rfl : s = none := by have := hf 0 l0; simpa [Addr.add] using World.cell?_spot this
    refine ⟨b, o, rfl, fun i v hv => ?_⟩
    have lt : i < len := by
      rcases Nat.lt_or_ge i len with g | g
      · exact g
      · rw [List.getElem?_eq_none (by rw [oc_len, ln]; exact g)] at hv; cases hv
    have q := hf i lt
    rw [Go.WideShapes.add_plain] at q
    rw [q, ← hv]
    simp [oc, lt]
set_option maxRecDepth 100000 in
theorem blkCells : Tryz.prog.cellsOf 27 = 5 := by kernel_rfl
set_option maxRecDepth 100000 in
theorem slKCells : Tryz.prog.cellsOf 22 = 1 := by kernel_rfl
set_option maxRecDepth 100000 in
theorem slJCells : Tryz.prog.cellsOf 23 = 1 := by kernel_rfl
set_option maxRecDepth 100000 in
theorem slLCells : Tryz.prog.cellsOf 24 = 1 := by kernel_rfl
set_option maxRecDepth 100000 in
theorem slBCells : Tryz.prog.cellsOf 25 = 1 := by kernel_rfl
set_option maxRecDepth 100000 in
theorem blk_of {fuel : Nat} {c0 c1 c2 c3 c4 : Value} {y : DataW H × List MemPlace} (hf : DataW.trod enc Tryz.prog w base spare held fuel 27 [c0, c1, c2, c3, c4] = some y) : ∃ x : Blk, BkR w (.agg #[c0, c1, c2, c3, c4]) x ∧ BI x := by
  obtain ⟨xs, n, _, _, _, hlen, hg⟩ := DataW.trod_struct Tryz.underlying27 hf
  obtain ⟨y0, y1, y2, y3, y4, rfl⟩ := list5' (l := xs) hlen
  have g0 : DataW.trod enc Tryz.prog w base spare held n 22 [c0] = some y0 := by
    have q : DataW.trod enc Tryz.prog w base spare held n 22 (List.take (Tryz.prog.cellsOf 22) (List.drop 0 [c0, c1, c2, c3, c4])) = some y0 := hg 0 _ rfl
    rw [slKCells] at q; exact q
  have g1 : DataW.trod enc Tryz.prog w base spare held n 23 [c1] = some y1 := by
    have q : DataW.trod enc Tryz.prog w base spare held n 23 (List.take (Tryz.prog.cellsOf 23) (List.drop 1 [c0, c1, c2, c3, c4])) = some y1 := hg 1 _ rfl
    rw [slJCells] at q; exact q
  have g2 : DataW.trod enc Tryz.prog w base spare held n 24 [c2] = some y2 := by
    have q : DataW.trod enc Tryz.prog w base spare held n 24 (List.take (Tryz.prog.cellsOf 24) (List.drop 2 [c0, c1, c2, c3, c4])) = some y2 := hg 2 _ rfl
    rw [slLCells] at q; exact q
  have g3 : DataW.trod enc Tryz.prog w base spare held n 25 [c3] = some y3 := by
    have q : DataW.trod enc Tryz.prog w base spare held n 25 (List.take (Tryz.prog.cellsOf 25) (List.drop 3 [c0, c1, c2, c3, c4])) = some y3 := hg 3 _ rfl
    rw [slBCells] at q; exact q
  have g4 : DataW.trod enc Tryz.prog w base spare held n 25 [c4] = some y4 := by
    have q : DataW.trod enc Tryz.prog w base spare held n 25 (List.take (Tryz.prog.cellsOf 25) (List.drop 4 [c0, c1, c2, c3, c4])) = some y4 := hg 4 _ rfl
    rw [slBCells] at q; exact q
  obtain ⟨l0, s0⟩ := open_kinds g0
  obtain ⟨l1, s1, i1⟩ := open_jumps g1
  obtain ⟨l2, s2, i2⟩ := open_leaps g2
  obtain ⟨l3, s3⟩ := open_marks g3
  obtain ⟨l4, s4⟩ := open_marks g4
  exact ⟨⟨l0, l1, l2, l3, l4⟩, ⟨c0, c1, c2, c3, c4, rfl, s0, s1, s2, s3, s4⟩, i1, i2⟩
set_option maxRecDepth 100000 in
/-- A block handed in by value. -/
theorem open_blk {r : Reach} {b0 : Nat} {v : Value} {d : DataW H} {pl : List MemPlace} (hv' : Value.okWide Tryz.prog w r b0 27 v) (h : DataW.Trod enc Tryz.prog w base spare held 27 v d pl) : ∃ x : Blk, BkR w v x ∧ BI x := by
  obtain ⟨⟨cs⟩, rfl, hsz⟩ := okWide_struct Tryz.underlying27 hv'
  obtain ⟨c0, c1, c2, c3, c4, rfl⟩ := list5' (l := cs) (hsz.trans blkCells)
  obtain ⟨fuel, hf⟩ := h
  obtain ⟨xs, n, _, _, _, hlen, hg⟩ := DataW.trod_struct Tryz.underlying27 hf
  obtain ⟨y0, y1, y2, y3, y4, rfl⟩ := list5' (l := xs) hlen
  have g0 : DataW.trod enc Tryz.prog w base spare held n 22 [c0] = some y0 := by
    have q : DataW.trod enc Tryz.prog w base spare held n 22 (List.take (Tryz.prog.cellsOf 22) (List.drop 0 [c0, c1, c2, c3, c4])) = some y0 := hg 0 _ rfl
    rw [slKCells] at q; exact q
  have g1 : DataW.trod enc Tryz.prog w base spare held n 23 [c1] = some y1 := by
    have q : DataW.trod enc Tryz.prog w base spare held n 23 (List.take (Tryz.prog.cellsOf 23) (List.drop 1 [c0, c1, c2, c3, c4])) = some y1 := hg 1 _ rfl
    rw [slJCells] at q; exact q
  have g2 : DataW.trod enc Tryz.prog w base spare held n 24 [c2] = some y2 := by
    have q : DataW.trod enc Tryz.prog w base spare held n 24 (List.take (Tryz.prog.cellsOf 24) (List.drop 2 [c0, c1, c2, c3, c4])) = some y2 := hg 2 _ rfl
    rw [slLCells] at q; exact q
  have g3 : DataW.trod enc Tryz.prog w base spare held n 25 [c3] = some y3 := by
    have q : DataW.trod enc Tryz.prog w base spare held n 25 (List.take (Tryz.prog.cellsOf 25) (List.drop 3 [c0, c1, c2, c3, c4])) = some y3 := hg 3 _ rfl
    rw [slBCells] at q; exact q
  have g4 : DataW.trod enc Tryz.prog w base spare held n 25 [c4] = some y4 := by
    have q : DataW.trod enc Tryz.prog w base spare held n 25 (List.take (Tryz.prog.cellsOf 25) (List.drop 4 [c0, c1, c2, c3, c4])) = some y4 := hg 4 _ rfl
    rw [slBCells] at q; exact q
  obtain ⟨l0, s0⟩ := open_kinds g0
  obtain ⟨l1, s1, i1⟩ := open_jumps g1
  obtain ⟨l2, s2, i2⟩ := open_leaps g2
  obtain ⟨l3, s3⟩ := open_marks g3
  obtain ⟨l4, s4⟩ := open_marks g4
  exact ⟨⟨l0, l1, l2, l3, l4⟩, ⟨c0, c1, c2, c3, c4, rfl, s0, s1, s2, s3, s4⟩, i1, i2⟩
set_option maxRecDepth 100000 in
theorem open_bols {r : Reach} {b0 : Nat} {v : Value} {d : DataW H} {pl : List MemPlace} (hv' : Value.okWide Tryz.prog w r b0 25 v) (h : DataW.Trod enc Tryz.prog w base spare held 25 v d pl) : ∃ l : List Bool, Sl w v l.length (oc l) := by
  obtain ⟨a0, n, c, rfl⟩ := okWide_slice Tryz.underlying25 hv'
  obtain ⟨fuel, hf⟩ := h
  exact open_marks hf
set_option maxRecDepth 100000 in
theorem filCells : Tryz.prog.cellsOf 29 = 7 := by kernel_rfl
set_option maxRecDepth 100000 in
theorem intCellsF : Tryz.prog.cellsOf 3 = 1 := by kernel_rfl
set_option maxRecDepth 100000 in
theorem list3f {α : Type} {l : List α} (h : l.length = 3) : ∃ c0 c1 c2, l = [c0, c1, c2] := by
  match l, h with
  | [c0, c1, c2], _ => exact ⟨c0, c1, c2, rfl⟩
set_option maxRecDepth 100000 in
theorem list7' {α : Type} {l : List α} (h : l.length = 7) : ∃ c0 c1 c2 c3 c4 c5 c6, l = [c0, c1, c2, c3, c4, c5, c6] := by
  match l, h with
  | [c0, c1, c2, c3, c4, c5, c6], _ => exact ⟨c0, c1, c2, c3, c4, c5, c6, rfl⟩
set_option maxRecDepth 100000 in
/-- A file handed in by value. -/
theorem open_fil {r : Reach} {b0 : Nat} {v : Value} {d : DataW H} {pl : List MemPlace} (hv' : Value.okWide Tryz.prog w r b0 29 v) (h : DataW.Trod enc Tryz.prog w base spare held 29 v d pl) : ∃ x : Fil, FlR w v x ∧ BI x.blk ∧ (Lit.int .i64 x.ver).wf = true ∧ x.foot.size ≤ maxLen := by
  obtain ⟨⟨cs⟩, rfl, hsz⟩ := okWide_struct Tryz.underlying29 hv'
  obtain ⟨c0, c1, c2, c3, c4, c5, c6, rfl⟩ := list7' (l := cs) (hsz.trans filCells)
  obtain ⟨fuel, hf⟩ := h
  obtain ⟨xs, n, _, _, _, hlen, hg⟩ := DataW.trod_struct Tryz.underlying29 hf
  obtain ⟨y0, y1, y2, rfl⟩ := list3f (l := xs) hlen
  have g0 : DataW.trod enc Tryz.prog w base spare held n 3 [c0] = some y0 := by
    have q : DataW.trod enc Tryz.prog w base spare held n 3 (List.take (Tryz.prog.cellsOf 3) (List.drop 0 [c0, c1, c2, c3, c4, c5, c6])) = some y0 := hg 0 _ rfl
    rw [intCellsF] at q; exact q
  have g1 : DataW.trod enc Tryz.prog w base spare held n 27 [c1, c2, c3, c4, c5] = some y1 := by
    have q : DataW.trod enc Tryz.prog w base spare held n 27 (List.take (Tryz.prog.cellsOf 27) (List.drop 1 [c0, c1, c2, c3, c4, c5, c6])) = some y1 := hg 1 _ rfl
    rw [blkCells] at q; exact q
  have g2 : DataW.trod enc Tryz.prog w base spare held n 9 [c6] = some y2 := by
    have q : DataW.trod enc Tryz.prog w base spare held n 9 (List.take (Tryz.prog.cellsOf 9) (List.drop 6 [c0, c1, c2, c3, c4, c5, c6])) = some y2 := hg 2 _ rfl
    rw [strCells] at q; exact q
  obtain ⟨x0, e0, _, w0⟩ := DataW.trod_int Tryz.underlying3 g0
  obtain ⟨x, hx, hb⟩ := blk_of g1
  obtain ⟨z, e2, _, hz⟩ := DataW.trod_string Tryz.underlying9 g2
  have e0' : c0 = .int .i64 x0 := by injection e0
  have e2' : c6 = .string z := by injection e2
  subst e0' e2'
  exact ⟨⟨x0, x, z⟩, ⟨_, _, _, _, _, rfl, hx⟩, hb, w0, hz⟩
end
end Go.Proofs.YtaljddoenjgbfaaGreat
