/-
  BlockMarks answers true: a kind that is marked by Ut must be marked by Std.
-/
import Derived.Test.YtoijaananjlfpaaLcShown6
import Derived.Test.YtoijaananjlfpaaLcPst
import Derived.Test.YtoijaananjlfpaaLcHdO
import Derived.Test.YtoijaananjlfpaaLcBkO
import Derived.Test.YtoijaananjlfpaaLcBkW
import Derived.Test.YtoijaananjlfpaaLcTwo
import Derived.WalkKit
import Derived.Deep.RegionHeld
import Derived.BigQuiet
import Derived.ProofKit
import Derived.OpenShut
import Derived.Deep.CutRange
import Derived.StillTailTactics
namespace Go.Proofs.Ytoijaananjlfpaa.blockMarks
open Go.ChangeShapes Go.WideShapes Go.ChangeAt Go.RowKit Lc
set_option linter.unusedVariables false

theorem own : ownKnob Try.prog.godebug = none := by kernel_rfl

theorem mask16 (a : Int) : ∃ n : Nat, n < 65536 ∧ bits .and .i64 a 65535 = n := by
  refine ⟨(BitVec.ofInt 64 a).toNat &&& 65535, ?_, ?_⟩
  · have := Nat.and_le_right (n := (BitVec.ofInt 64 a).toNat) (m := 65535); omega
  · have l := Nat.and_le_right (n := (BitVec.ofInt 64 a).toNat) (m := 65535)
    show IntKind.i64.wrap (((BitVec.ofInt 64 a &&& BitVec.ofInt 64 65535).toNat : Nat) : Int) = _
    rw [BitVec.toNat_and, show (BitVec.ofInt 64 65535).toNat = 65535 from by decide]
    exact IntWalk.i64_in _ (by omega)
/-- Marks as they come in: those that are not there are not set. -/
def mkF (l : List Bool) (j : Nat) : Bool := l.getD j false
def xM (N : Nat) (sd ut : List Bool) : Blk := ⟨List.replicate N k0, [], [], sd, ut⟩
theorem xM_kinds {N : Nat} (h1 : 1 ≤ N) (h2 : N ≤ 20) : rkB (List.replicate N k0) = true := by
  unfold rkB
  have hl : (layN ((List.replicate N k0).map Knd.name) N).length ≤ N * (0 + 1) := layN_le _ _ 0 fun i hi => by
    simp [List.getD, hi, k0]
  simp only [List.length_replicate, Bool.and_eq_true, decide_eq_true_eq, allB_true]
  refine ⟨⟨⟨h1, by omega⟩, fun i hi => ?_⟩, by omega⟩
  have e : (List.replicate N k0).getD i k0 = k0 := by simp [List.getD, hi]
  rw [e]; decide
theorem xM_right {N : Nat} (h1 : 1 ≤ N) (h2 : N ≤ 20) (sd ut : List Bool) : rightB (xM N sd ut) 8 2 = rmB sd ut N := by
  unfold rightB xM
  simp only [xM_kinds h1 h2, List.length_replicate]
  have e1 : rjB [] N 8 = true := rfl
  have e2 : rlB [] 8 2 = true := rfl
  rw [e1, e2]
  simp [zB]
theorem rm_full {N : Nat} (f g : Nat → Bool) : rmB ((List.range N).map f) ((List.range N).map g) N = allB N (fun j => !g j || f j) := by
  unfold rmB
  simp only [List.length_map, List.length_range, decide_true, Bool.or_true, Bool.true_and]
  unfold allB
  rw [Bool.eq_iff_iff, List.all_eq_true, List.all_eq_true]
  refine forall_congr' fun i => imp_congr_right fun hi => ?_
  have hi' := List.mem_range.1 hi
  simp [List.getD, hi']
theorem rm_ut {N : Nat} (g : Nat → Bool) : rmB [] ((List.range N).map g) N = allB N (fun j => !g j) := by
  unfold rmB
  simp only [List.length_map, List.length_range, List.length_nil, decide_true, Bool.or_true, Bool.true_or, Bool.true_and]
  unfold allB
  rw [Bool.eq_iff_iff, List.all_eq_true, List.all_eq_true]
  refine forall_congr' fun i => imp_congr_right fun hi => ?_
  have hi' := List.mem_range.1 hi
  simp [List.getD, hi']
theorem rm_sd {N : Nat} (f : Nat → Bool) : rmB ((List.range N).map f) [] N = true := by
  unfold rmB
  simp [allB]
theorem allB_succ (n : Nat) (p : Nat → Bool) : allB (n + 1) p = (allB n p && p n) := by
  unfold allB; simp [List.range_succ]
theorem OwB.sdSet {w : World} {base g n d : Nat} {a b c e : Value} {x : Blk} (h : OwB w base (.agg #[a, b, c, .slice (some ⟨g, 0, none⟩) n d, e]) x) (hne : e.ownBlock ≠ some g) (k : Nat) (v : Bool) :
    OwB (w.setCell ⟨g, k, none⟩ (.bool v)) base (.agg #[a, b, c, .slice (some ⟨g, 0, none⟩) n d, e]) ⟨x.ks, x.js, x.ls, x.sd.set k v, x.ut⟩ := by
  obtain ⟨_, _, _, _, _, he, h1, h2, h3, h4, h5⟩ := h
  simp only [Value.agg.injEq, Array.mk.injEq, List.cons.injEq, and_true] at he
  obtain ⟨rfl, rfl, rfl, rfl, rfl⟩ := he
  obtain ⟨cur, hh⟩ : ∃ cur : Array Value, w.heap[g]? = some (.cells cur 4 (0, 0)) := by
    rcases h4.2 with ⟨hv, _⟩ | ⟨g', cap, cur, hv, _, hg, _⟩
    · cases hv
    · have : g = g' := by injection hv with hv; injection hv with hv; injection hv
      subst this; exact ⟨cur, hg⟩
  have hn : n = x.sd.length := by
    rcases h4.2 with ⟨hv, _⟩ | ⟨g', cap, cur, hv, _⟩
    · cases hv
    · injection hv
  subst hn
  have k1 := (World.ownsRow.stored h4 k (.bool v)).1
  rw [oc_set] at k1
  refine ⟨_, _, _, _, _, rfl, row_else h1 (row_ty h1 hh (by decide)) _ _, row_else h2 (row_ty h2 hh (by decide)) _ _, row_else h3 (row_ty h3 hh (by decide)) _ _, ?_, row_else h5 hne _ _⟩
  simp only [List.length_set]
  exact k1
theorem OwB.utSet {w : World} {base g n d : Nat} {a b c e : Value} {x : Blk} (h : OwB w base (.agg #[a, b, c, e, .slice (some ⟨g, 0, none⟩) n d]) x) (hne : e.ownBlock ≠ some g) (k : Nat) (v : Bool) :
    OwB (w.setCell ⟨g, k, none⟩ (.bool v)) base (.agg #[a, b, c, e, .slice (some ⟨g, 0, none⟩) n d]) ⟨x.ks, x.js, x.ls, x.sd, x.ut.set k v⟩ := by
  obtain ⟨_, _, _, _, _, he, h1, h2, h3, h4, h5⟩ := h
  simp only [Value.agg.injEq, Array.mk.injEq, List.cons.injEq, and_true] at he
  obtain ⟨rfl, rfl, rfl, rfl, rfl⟩ := he
  obtain ⟨cur, hh⟩ : ∃ cur : Array Value, w.heap[g]? = some (.cells cur 4 (0, 0)) := by
    rcases h5.2 with ⟨hv, _⟩ | ⟨g', cap, cur, hv, _, hg, _⟩
    · cases hv
    · have : g = g' := by injection hv with hv; injection hv with hv; injection hv
      subst this; exact ⟨cur, hg⟩
  have hn : n = x.ut.length := by
    rcases h5.2 with ⟨hv, _⟩ | ⟨g', cap, cur, hv, _⟩
    · cases hv
    · injection hv
  subst hn
  have k1 := (World.ownsRow.stored h5 k (.bool v)).1
  rw [oc_set] at k1
  refine ⟨_, _, _, _, _, rfl, row_else h1 (row_ty h1 hh (by decide)) _ _, row_else h2 (row_ty h2 hh (by decide)) _ _, row_else h3 (row_ty h3 hh (by decide)) _ _, row_else h4 hne _ _, ?_⟩
  simp only [List.length_set]
  exact k1
/-- What is known of the slots while the block is made. -/
def mG (base N : Nat) (t : Nat) (v : Value) (w : World) : Prop :=
  if t = 19 ∨ t = 21 ∨ t = 23 then v = .int .i64 N
  else if t = 20 then ∃ g, v = .slice (some ⟨g, 0, none⟩) N N ∧ w.ownsRow base 56 3 v N (kc (List.replicate N k0))
  else if t = 22 ∨ t = 24 then ∃ g, v = .slice (some ⟨g, 0, none⟩) N N ∧ w.ownsRow base 4 1 v N (oc (List.replicate N false))
  else if t = 25 then ∃ a d e, v = .agg #[a, .slice none 0 0, .slice none 0 0, d, e]
  else if t = 8 then ∃ b, v = .pointer (some ⟨b, 0, none⟩) ∧ base ≤ b ∧ w.heap[b]? = some (.cells #[.slice none 0 0, .slice none 0 0, .slice none 0 0, .slice none 0 0, .slice none 0 0] 27 (0, 0))
  else False
/-- The two rows of marks are two; the block is of the three rows. -/
def mD (t t' : Nat) (v u : Value) : Prop :=
  (t = 22 → t' = 24 → v.ownBlock ≠ u.ownBlock) ∧ (t = 24 → t' = 22 → v.ownBlock ≠ u.ownBlock) ∧
  (t = 25 → t' = 20 → ∃ d e, v = .agg #[u, .slice none 0 0, .slice none 0 0, d, e]) ∧ (t = 25 → t' = 22 → ∃ a e, v = .agg #[a, .slice none 0 0, .slice none 0 0, u, e]) ∧ (t = 25 → t' = 24 → ∃ a d, v = .agg #[a, .slice none 0 0, .slice none 0 0, d, u])
theorem mG_up {base N : Nat} (t : Nat) (v : Value) (w w' : World) (h : mG base N t v w) (u : Up w w') : mG base N t v w' := by
  unfold mG at *
  by_cases t1 : t = 19 ∨ t = 21 ∨ t = 23
  · rw [if_pos t1] at h ⊢; exact h
  rw [if_neg t1] at h ⊢
  by_cases t2 : t = 20
  · rw [if_pos t2] at h ⊢; obtain ⟨g, h1, h2⟩ := h; exact ⟨g, h1, row_up h2 u⟩
  rw [if_neg t2] at h ⊢
  by_cases t3 : t = 22 ∨ t = 24
  · rw [if_pos t3] at h ⊢; obtain ⟨g, h1, h2⟩ := h; exact ⟨g, h1, row_up h2 u⟩
  rw [if_neg t3] at h ⊢
  by_cases t4 : t = 25
  · rw [if_pos t4] at h ⊢; exact h
  rw [if_neg t4] at h ⊢
  by_cases t5 : t = 8
  · rw [if_pos t5] at h ⊢; obtain ⟨b, h1, h2, h3⟩ := h; exact ⟨b, h1, h2, heap_up u h3⟩
  rw [if_neg t5] at h ⊢
  exact h
theorem ex_move (w : World) (a : Act) (o : Oper) (t : Tmp) (v : Value) (h : a.tmps.getD t undef = v) (ho : o.op = .move (.tmp t)) : (execOp a.eval o).run Try.prog w = .ok (.value v) w := by
  unfold execOp; rw [ho]; simp [go_sem, tg h]
theorem ex_mkK (w : World) (a : Act) (o : Oper) (t : Tmp) (N : Nat) (hN : N ≤ 20) (h : a.tmps.getD t undef = .int .i64 N) (ho : o.op = .makeSlice 22 (.tmp t) (.tmp t)) : (execOp a.eval o).run Try.prog w = .ok (.value (.slice (some ⟨w.heap.size, 0, none⟩) N N)) (w.alloc (.cells (madeCells #[.int .i64 0, .bool false, .string ByteArray.empty] (N * 3)) 56)) := by
  have mk := make_knd w N (by omega)
  have e1 : a.eval (.tmp t) = .int .i64 N := h
  unfold execOp; rw [ho]; simp [e1, mk]
theorem ex_mkB (w : World) (a : Act) (o : Oper) (t : Tmp) (N : Nat) (hN : N ≤ 20) (h : a.tmps.getD t undef = .int .i64 N) (ho : o.op = .makeSlice 25 (.tmp t) (.tmp t)) : (execOp a.eval o).run Try.prog w = .ok (.value (.slice (some ⟨w.heap.size, 0, none⟩) N N)) (w.alloc (.cells (madeCells #[.bool false] N) 4)) := by
  have mk := make_bol w N (by omega)
  have e1 : a.eval (.tmp t) = .int .i64 N := h
  unfold execOp; rw [ho]; simp [e1, mk]
theorem ex_bld3 (w : World) (a : Act) (o : Oper) (A0 A3 A4 : Option Addr) (n0 n3 n4 c0 c3 c4 : Nat) (h0 : a.tmps.getD 20 undef = .slice A0 n0 c0) (h3 : a.tmps.getD 22 undef = .slice A3 n3 c3) (h4 : a.tmps.getD 24 undef = .slice A4 n4 c4) (ho : o.op = .build 27 #[(0, .tmp 20), (3, .tmp 22), (4, .tmp 24)]) : (execOp a.eval o).run Try.prog w = .ok (.value (.agg #[.slice A0 n0 c0, .slice none 0 0, .slice none 0 0, .slice A3 n3 c3, .slice A4 n4 c4])) w := by
  unfold execOp; rw [ho]; simp [go_sem, tg h0, tg h3, tg h4]
theorem row_new (w : World) (base N : Nat) (cs : Array Value) (e : TypeId) (size : Nat) (xs : List Value) (hb : base ≤ w.heap.size) (hN : N ≤ 20) (hl : xs.length = N * size) (hc : cs.toList = xs) : (w.alloc (.cells cs e)).ownsRow base e size (.slice (some ⟨w.heap.size, 0, none⟩) N N) N xs := by
  refine ⟨hl, .inr ⟨w.heap.size, N, cs, rfl, hb, heap_alloc_new w _, Nat.le_refl _, by unfold maxLen; omega, ?_, ?_⟩⟩
  · rw [← Array.length_toList, hc, hl]
  · rw [hc, List.take_of_length_le (by omega)]
theorem wp_sto8 (w : World) (a : Act) (o : Oper) (b : Nat) (P0 P1 P2 P3 P4 : Option Addr) (n0 n1 n2 n3 n4 d0 d1 d2 d3 d4 : Nat) (h3 : a.tmps.getD 8 undef = .pointer (some ⟨b, 0, none⟩)) (h50 : a.tmps.getD 25 undef = .agg #[.slice P0 n0 d0, .slice P1 n1 d1, .slice P2 n2 d2, .slice P3 n3 d3, .slice P4 n4 d4])
    {x0 x1 x2 x3 x4 : Value} (hx : Bx5 w b x0 x1 x2 x3 x4) (hf : Free w b) (hd : o.dst = none) (ho : o.op = .store 27 (.tmp 8) (.tmp 25)) {K : Act → World → Prop} {Q : Exit → Act → World → Prop}
    (k : K a (five w b (.slice P0 n0 d0) (.slice P1 n1 d1) (.slice P2 n2 d2) (.slice P3 n3 d3) (.slice P4 n4 d4))) : o.wp Try.prog a w K Q := by
  obtain ⟨e0, e1, e2, e3, e4⟩ := hx
  have f0 := hf.2 0; have f1 := hf.2 1; have f2 := hf.2 2; have f3 := hf.2 3; have f4 := hf.2 4
  unfold Oper.wp execOp
  rw [ho]
  simp [go_sem, tg h3, tg h50, e0, e1, e2, e3, e4, f0, f1, f2, f3, f4, Oper.upon, Act.put, hd]
  exact k
theorem mD_pair {t d : Nat} {v u : Value} (h1 : ¬ ((t = 22 ∨ t = 24) ∧ (d = 22 ∨ d = 24))) (h2 : t ≠ 25) (h3 : d = 25 → ¬ (t = 20 ∨ t = 22 ∨ t = 24)) : mD t d v u ∧ mD d t u v :=
  ⟨⟨fun e e' => absurd ⟨.inl e, .inr e'⟩ h1, fun e e' => absurd ⟨.inr e, .inl e'⟩ h1, fun e => absurd e h2, fun e => absurd e h2, fun e => absurd e h2⟩, ⟨fun e e' => absurd ⟨.inr e', .inl e⟩ h1, fun e e' => absurd ⟨.inl e', .inr e⟩ h1, fun e e' => absurd (.inl e') (h3 e), fun e e' => absurd (.inr (.inl e')) (h3 e), fun e e' => absurd (.inr (.inr e')) (h3 e)⟩⟩
/-- A row that is made now lies in no block that was there. -/
theorem mD_new {base N : Nat} {w : World} {u : Value} (t d : Nat) (ht : t = 22 ∧ d = 24 ∨ t = 24 ∧ d = 22) (h : mG base N d u w) : mD t d (.slice (some ⟨w.heap.size, 0, none⟩) N N) u ∧ mD d t u (.slice (some ⟨w.heap.size, 0, none⟩) N N) := by
  have key : (Value.slice (some ⟨w.heap.size, 0, none⟩) N N).ownBlock ≠ u.ownBlock := by
    have hd : d = 22 ∨ d = 24 := by omega
    unfold mG at h
    rw [if_neg (by omega), if_neg (by omega), if_pos hd] at h
    obtain ⟨g, hg, ho⟩ := h
    intro e
    rw [hg] at e ho
    have lt := (World.ownsRow.lt ho g rfl).2
    have e' : w.heap.size = g := by
      have : some w.heap.size = some g := e
      injection this
    omega
  exact ⟨⟨fun _ _ => key, fun _ _ => key, fun e => by omega, fun e => by omega, fun e => by omega⟩, ⟨fun _ _ h' => key h'.symm, fun _ _ h' => key h'.symm, fun e => by omega, fun e => by omega, fun e => by omega⟩⟩
theorem mD_bld {t d : Nat} {A0 A3 A4 : Option Addr} {n0 n3 n4 c0 c3 c4 : Nat} {u : Value} (ht : t = 25) (hd : d = 19 ∨ d = 20 ∨ d = 21 ∨ d = 22 ∨ d = 23 ∨ d = 24 ∨ d = 8) (h0 : d = 20 → u = .slice A0 n0 c0) (h3 : d = 22 → u = .slice A3 n3 c3) (h4 : d = 24 → u = .slice A4 n4 c4) :
    mD t d (.agg #[.slice A0 n0 c0, .slice none 0 0, .slice none 0 0, .slice A3 n3 c3, .slice A4 n4 c4]) u ∧ mD d t u (.agg #[.slice A0 n0 c0, .slice none 0 0, .slice none 0 0, .slice A3 n3 c3, .slice A4 n4 c4]) :=
  ⟨⟨fun e => by omega, fun e => by omega, fun _ e => ⟨_, _, by rw [h0 e]⟩, fun _ e => ⟨_, _, by rw [h3 e]⟩, fun _ e => ⟨_, _, by rw [h4 e]⟩⟩, ⟨fun _ e => by omega, fun _ e => by omega, fun e _ => by omega, fun e _ => by omega, fun e _ => by omega⟩⟩
theorem cons_of {α : Type} {l : List α} {n : Nat} (h : l.length = n + 1) : ∃ x l', l = x :: l' ∧ l'.length = n := by
  cases l with
  | nil => cases h
  | cons x l' => exact ⟨x, l', rfl, by simpa using h⟩
theorem no_false {b : Bool} (h : b = true) : ¬ b = false := by rw [h]; decide
theorem stL_get {α : Type} (d : α) (f : Nat → α) {n k : Nat} (h : k < n) : (stL d f n (k + 1)).getD k d = f k := by
  rw [← stL_set d f h]
  simp [List.getD, stL_len d f (show k ≤ n by omega), h]
theorem row_bol {w : World} {base g n d : Nat} {bs : List Bool} (h : w.ownsRow base 4 1 (.slice (some ⟨g, 0, none⟩) n d) bs.length (oc bs)) {k : Nat} (hk : k < bs.length) : w.cell? ⟨g, k, none⟩ = some (.bool (bs.getD k false)) ∧ w.frozen? ⟨g, k, none⟩ = false := by
  have hf : w.frozen? ⟨g, k, none⟩ = false := by
    rcases h.2 with ⟨hv, _⟩ | ⟨g', cap, cur, hv, _, hg, _⟩
    · cases hv
    · have : g = g' := by injection hv with hv; injection hv with hv; injection hv
      subst this
      exact frozen_of_row w g k cur _ hg
  refine ⟨?_, hf⟩
  obtain ⟨A, c, hs, _, _, hr⟩ := row_sl h
  injection hs with hs _ _
  subst hs
  obtain ⟨g', o', e', hc⟩ := hr.bol hk
  injection e' with e'
  injection e' with e1 e2
  subst e1 e2
  rw [Nat.zero_add] at hc
  exact hc
theorem OwB.sdCell {w : World} {base g n d : Nat} {a b c e : Value} {x : Blk} (h : OwB w base (.agg #[a, b, c, .slice (some ⟨g, 0, none⟩) n d, e]) x) {k : Nat} (hk : k < x.sd.length) : w.cell? ⟨g, k, none⟩ = some (.bool (x.sd.getD k false)) ∧ w.frozen? ⟨g, k, none⟩ = false := by
  obtain ⟨_, _, _, _, _, he, _, _, _, h4, _⟩ := h
  simp only [Value.agg.injEq, Array.mk.injEq, List.cons.injEq, and_true] at he
  obtain ⟨rfl, rfl, rfl, rfl, rfl⟩ := he
  exact row_bol h4 hk
theorem OwB.utCell {w : World} {base g n d : Nat} {a b c e : Value} {x : Blk} (h : OwB w base (.agg #[a, b, c, e, .slice (some ⟨g, 0, none⟩) n d]) x) {k : Nat} (hk : k < x.ut.length) : w.cell? ⟨g, k, none⟩ = some (.bool (x.ut.getD k false)) ∧ w.frozen? ⟨g, k, none⟩ = false := by
  obtain ⟨_, _, _, _, _, he, _, _, _, _, h5⟩ := h
  simp only [Value.agg.injEq, Array.mk.injEq, List.cons.injEq, and_true] at he
  obtain ⟨rfl, rfl, rfl, rfl, rfl⟩ := he
  exact row_bol h5 hk

set_option maxHeartbeats 4000000 in
set_option maxRecDepth 100000 in
theorem walk (w : World) (v0 : Value) (l0 : List Bool) (v1 : Value) (l1 : List Bool) (a2 : Int) (r0 : Sl w v0 l0.length (oc l0)) (r1 : Sl w v1 l1.length (oc l1)) (w2 : (Lit.int .i64 a2).wf = true) :
    Calls Try.prog 10 #[v0, v1, .int .i64 a2] w fun e w' => e = .returned (.bool true) ∧ Up w w' := by
  obtain ⟨m, hm, em⟩ := mask16 a2
  obtain ⟨N, hN⟩ : ∃ N : Nat, N = 1 + m % 20 := ⟨_, rfl⟩
  have hN1 : 1 ≤ N := by omega
  have hN20 : N ≤ 20 := by omega
  have eN : (1 : Int) + (m : Int) % 20 = (N : Int) := by omega
  have EN := Lib.hid eN
  clear hN eN
  have em1 : (0 : Int) ≤ (m : Int) % 20 := by omega
  have em2 : (m : Int) % 20 < 20 := by omega
  have R0 := Lib.hid r0
  have R1 := Lib.hid r1
  obtain ⟨A0, c0, rfl, m0, n0, _⟩ := r0
  obtain ⟨A1, c1, rfl, m1, n1, _⟩ := r1
  unfold maxLen at n0 n1
  clear w2
  go_enter Try.func10, Try.ntmps10
  go_wp2_with fail
  refine (shown_any _).mono ?_; rintro e W ⟨rfl, u1⟩
  have UW := Lib.hid u1
  clear u1
  go_wp2_with fail
  rw [EN.out]
  clear em1 em2 em EN
  refine wp_region_two (n := 8) (G := mG W.heap.size N) (D := mD) (by kernel_rfl) (by kernel_rfl) (by kernel_rfl) (by kernel_rfl) (by kernel_rfl) mG_up ?step ?last
  case step =>
    intro i o hi ho a w' u old pre
    have p2 : a.tmps.getD 2 undef = .int .i64 (N : Int) := getD_some ((old 2 (by kernel_rfl)).trans rfl)
    clear old
    have hi' : i = 0 ∨ i = 1 ∨ i = 2 ∨ i = 3 ∨ i = 4 ∨ i = 5 ∨ i = 6 ∨ i = 7 := by omega
    rcases hi' with rfl | rfl | rfl | rfl | rfl | rfl | rfl | rfl
    · injection ho with ho; subst ho
      refine ⟨_, _, ex_move w' a _ 2 _ p2 rfl, fun d hd => (by injection hd with hd; subst hd; exact (show Value.int .i64 (N : Int) = _ from rfl)), Up.refl _, ?_⟩
      intro d hd j p d' hp hpd hji hanc hG
      injection hd with hd; subst hd
      have hj := lt_of_get hp
      have hj' : j = 0 ∨ j = 1 ∨ j = 2 ∨ j = 3 ∨ j = 4 ∨ j = 5 ∨ j = 6 ∨ j = 7 ∨ j = 8 := by have : j < 9 := hj; omega
      rcases hj' with rfl | rfl | rfl | rfl | rfl | rfl | rfl | rfl | rfl
      · injection hp with hp; subst hp
        exact absurd rfl hji
      · injection hp with hp; subst hp
        injection hpd with hpd; subst hpd
        exact absurd hanc (no_false (by kernel_rfl))
      · injection hp with hp; subst hp
        injection hpd with hpd; subst hpd
        exact mD_pair (by decide) (by decide) (by decide)
      · injection hp with hp; subst hp
        injection hpd with hpd; subst hpd
        exact mD_pair (by decide) (by decide) (by decide)
      · injection hp with hp; subst hp
        injection hpd with hpd; subst hpd
        exact mD_pair (by decide) (by decide) (by decide)
      · injection hp with hp; subst hp
        injection hpd with hpd; subst hpd
        exact mD_pair (by decide) (by decide) (by decide)
      · injection hp with hp; subst hp
        injection hpd with hpd; subst hpd
        exact absurd hanc (no_false (by kernel_rfl))
      · injection hp with hp; subst hp
        injection hpd with hpd; subst hpd
        exact mD_pair (by decide) (by decide) (by decide)
      · injection hp with hp; subst hp
        cases hpd
    · injection ho with ho; subst ho
      have e := (show a.tmps.getD 19 undef = .int .i64 (N : Int) from (pre ⟨0, .data⟩ (by simp) rfl _ 19 rfl rfl))
      refine ⟨_, _, ex_mkK w' a _ 19 N hN20 e rfl, fun d hd => (by injection hd with hd; subst hd; exact (show ∃ g, _ from ⟨_, rfl, row_new w' W.heap.size N _ _ 3 _ u.size hN20 (by rw [kc_len, List.length_replicate]) (by rw [made3, kc_rep])⟩)), Up.alloc _ _, ?_⟩
      intro d hd j p d' hp hpd hji hanc hG
      injection hd with hd; subst hd
      have hj := lt_of_get hp
      have hj' : j = 0 ∨ j = 1 ∨ j = 2 ∨ j = 3 ∨ j = 4 ∨ j = 5 ∨ j = 6 ∨ j = 7 ∨ j = 8 := by have : j < 9 := hj; omega
      rcases hj' with rfl | rfl | rfl | rfl | rfl | rfl | rfl | rfl | rfl
      · injection hp with hp; subst hp
        injection hpd with hpd; subst hpd
        exact mD_pair (by decide) (by decide) (by decide)
      · injection hp with hp; subst hp
        exact absurd rfl hji
      · injection hp with hp; subst hp
        injection hpd with hpd; subst hpd
        exact mD_pair (by decide) (by decide) (by decide)
      · injection hp with hp; subst hp
        injection hpd with hpd; subst hpd
        exact mD_pair (by decide) (by decide) (by decide)
      · injection hp with hp; subst hp
        injection hpd with hpd; subst hpd
        exact mD_pair (by decide) (by decide) (by decide)
      · injection hp with hp; subst hp
        injection hpd with hpd; subst hpd
        exact mD_pair (by decide) (by decide) (by decide)
      · injection hp with hp; subst hp
        injection hpd with hpd; subst hpd
        exact absurd hanc (no_false (by kernel_rfl))
      · injection hp with hp; subst hp
        injection hpd with hpd; subst hpd
        exact mD_pair (by decide) (by decide) (by decide)
      · injection hp with hp; subst hp
        cases hpd
    · injection ho with ho; subst ho
      refine ⟨_, _, ex_move w' a _ 2 _ p2 rfl, fun d hd => (by injection hd with hd; subst hd; exact (show Value.int .i64 (N : Int) = _ from rfl)), Up.refl _, ?_⟩
      intro d hd j p d' hp hpd hji hanc hG
      injection hd with hd; subst hd
      have hj := lt_of_get hp
      have hj' : j = 0 ∨ j = 1 ∨ j = 2 ∨ j = 3 ∨ j = 4 ∨ j = 5 ∨ j = 6 ∨ j = 7 ∨ j = 8 := by have : j < 9 := hj; omega
      rcases hj' with rfl | rfl | rfl | rfl | rfl | rfl | rfl | rfl | rfl
      · injection hp with hp; subst hp
        injection hpd with hpd; subst hpd
        exact mD_pair (by decide) (by decide) (by decide)
      · injection hp with hp; subst hp
        injection hpd with hpd; subst hpd
        exact mD_pair (by decide) (by decide) (by decide)
      · injection hp with hp; subst hp
        exact absurd rfl hji
      · injection hp with hp; subst hp
        injection hpd with hpd; subst hpd
        exact absurd hanc (no_false (by kernel_rfl))
      · injection hp with hp; subst hp
        injection hpd with hpd; subst hpd
        exact mD_pair (by decide) (by decide) (by decide)
      · injection hp with hp; subst hp
        injection hpd with hpd; subst hpd
        exact mD_pair (by decide) (by decide) (by decide)
      · injection hp with hp; subst hp
        injection hpd with hpd; subst hpd
        exact absurd hanc (no_false (by kernel_rfl))
      · injection hp with hp; subst hp
        injection hpd with hpd; subst hpd
        exact mD_pair (by decide) (by decide) (by decide)
      · injection hp with hp; subst hp
        cases hpd
    · injection ho with ho; subst ho
      have e := (show a.tmps.getD 21 undef = .int .i64 (N : Int) from (pre ⟨2, .data⟩ (by simp) rfl _ 21 rfl rfl))
      refine ⟨_, _, ex_mkB w' a _ 21 N hN20 e rfl, fun d hd => (by injection hd with hd; subst hd; exact (show ∃ g, _ from ⟨_, rfl, row_new w' W.heap.size N _ _ 1 _ u.size hN20 (by rw [oc_len, List.length_replicate, Nat.mul_one]) (by rw [made1]; unfold oc; rw [List.map_replicate])⟩)), Up.alloc _ _, ?_⟩
      intro d hd j p d' hp hpd hji hanc hG
      injection hd with hd; subst hd
      have hj := lt_of_get hp
      have hj' : j = 0 ∨ j = 1 ∨ j = 2 ∨ j = 3 ∨ j = 4 ∨ j = 5 ∨ j = 6 ∨ j = 7 ∨ j = 8 := by have : j < 9 := hj; omega
      rcases hj' with rfl | rfl | rfl | rfl | rfl | rfl | rfl | rfl | rfl
      · injection hp with hp; subst hp
        injection hpd with hpd; subst hpd
        exact mD_pair (by decide) (by decide) (by decide)
      · injection hp with hp; subst hp
        injection hpd with hpd; subst hpd
        exact mD_pair (by decide) (by decide) (by decide)
      · injection hp with hp; subst hp
        injection hpd with hpd; subst hpd
        exact mD_pair (by decide) (by decide) (by decide)
      · injection hp with hp; subst hp
        exact absurd rfl hji
      · injection hp with hp; subst hp
        injection hpd with hpd; subst hpd
        exact mD_pair (by decide) (by decide) (by decide)
      · injection hp with hp; subst hp
        injection hpd with hpd; subst hpd
        exact mD_new 22 24 (by decide) hG
      · injection hp with hp; subst hp
        injection hpd with hpd; subst hpd
        exact absurd hanc (no_false (by kernel_rfl))
      · injection hp with hp; subst hp
        injection hpd with hpd; subst hpd
        exact mD_pair (by decide) (by decide) (by decide)
      · injection hp with hp; subst hp
        cases hpd
    · injection ho with ho; subst ho
      refine ⟨_, _, ex_move w' a _ 2 _ p2 rfl, fun d hd => (by injection hd with hd; subst hd; exact (show Value.int .i64 (N : Int) = _ from rfl)), Up.refl _, ?_⟩
      intro d hd j p d' hp hpd hji hanc hG
      injection hd with hd; subst hd
      have hj := lt_of_get hp
      have hj' : j = 0 ∨ j = 1 ∨ j = 2 ∨ j = 3 ∨ j = 4 ∨ j = 5 ∨ j = 6 ∨ j = 7 ∨ j = 8 := by have : j < 9 := hj; omega
      rcases hj' with rfl | rfl | rfl | rfl | rfl | rfl | rfl | rfl | rfl
      · injection hp with hp; subst hp
        injection hpd with hpd; subst hpd
        exact mD_pair (by decide) (by decide) (by decide)
      · injection hp with hp; subst hp
        injection hpd with hpd; subst hpd
        exact mD_pair (by decide) (by decide) (by decide)
      · injection hp with hp; subst hp
        injection hpd with hpd; subst hpd
        exact mD_pair (by decide) (by decide) (by decide)
      · injection hp with hp; subst hp
        injection hpd with hpd; subst hpd
        exact mD_pair (by decide) (by decide) (by decide)
      · injection hp with hp; subst hp
        exact absurd rfl hji
      · injection hp with hp; subst hp
        injection hpd with hpd; subst hpd
        exact absurd hanc (no_false (by kernel_rfl))
      · injection hp with hp; subst hp
        injection hpd with hpd; subst hpd
        exact absurd hanc (no_false (by kernel_rfl))
      · injection hp with hp; subst hp
        injection hpd with hpd; subst hpd
        exact mD_pair (by decide) (by decide) (by decide)
      · injection hp with hp; subst hp
        cases hpd
    · injection ho with ho; subst ho
      have e := (show a.tmps.getD 23 undef = .int .i64 (N : Int) from (pre ⟨4, .data⟩ (by simp) rfl _ 23 rfl rfl))
      refine ⟨_, _, ex_mkB w' a _ 23 N hN20 e rfl, fun d hd => (by injection hd with hd; subst hd; exact (show ∃ g, _ from ⟨_, rfl, row_new w' W.heap.size N _ _ 1 _ u.size hN20 (by rw [oc_len, List.length_replicate, Nat.mul_one]) (by rw [made1]; unfold oc; rw [List.map_replicate])⟩)), Up.alloc _ _, ?_⟩
      intro d hd j p d' hp hpd hji hanc hG
      injection hd with hd; subst hd
      have hj := lt_of_get hp
      have hj' : j = 0 ∨ j = 1 ∨ j = 2 ∨ j = 3 ∨ j = 4 ∨ j = 5 ∨ j = 6 ∨ j = 7 ∨ j = 8 := by have : j < 9 := hj; omega
      rcases hj' with rfl | rfl | rfl | rfl | rfl | rfl | rfl | rfl | rfl
      · injection hp with hp; subst hp
        injection hpd with hpd; subst hpd
        exact mD_pair (by decide) (by decide) (by decide)
      · injection hp with hp; subst hp
        injection hpd with hpd; subst hpd
        exact mD_pair (by decide) (by decide) (by decide)
      · injection hp with hp; subst hp
        injection hpd with hpd; subst hpd
        exact mD_pair (by decide) (by decide) (by decide)
      · injection hp with hp; subst hp
        injection hpd with hpd; subst hpd
        exact mD_new 24 22 (by decide) hG
      · injection hp with hp; subst hp
        injection hpd with hpd; subst hpd
        exact mD_pair (by decide) (by decide) (by decide)
      · injection hp with hp; subst hp
        exact absurd rfl hji
      · injection hp with hp; subst hp
        injection hpd with hpd; subst hpd
        exact absurd hanc (no_false (by kernel_rfl))
      · injection hp with hp; subst hp
        injection hpd with hpd; subst hpd
        exact mD_pair (by decide) (by decide) (by decide)
      · injection hp with hp; subst hp
        cases hpd
    · injection ho with ho; subst ho
      obtain ⟨g0, e0, _⟩ := (show ∃ g, a.tmps.getD 20 undef = .slice (some ⟨g, 0, none⟩) N N ∧ _ from (pre ⟨1, .data⟩ (by simp) rfl _ 20 rfl rfl))
      obtain ⟨g3, e3, _⟩ := (show ∃ g, a.tmps.getD 22 undef = .slice (some ⟨g, 0, none⟩) N N ∧ _ from (pre ⟨3, .data⟩ (by simp) rfl _ 22 rfl rfl))
      obtain ⟨g4, e4, _⟩ := (show ∃ g, a.tmps.getD 24 undef = .slice (some ⟨g, 0, none⟩) N N ∧ _ from (pre ⟨5, .data⟩ (by simp) rfl _ 24 rfl rfl))
      refine ⟨_, _, ex_bld3 w' a _ _ _ _ _ _ _ _ _ _ e0 e3 e4 rfl, fun d hd => (by injection hd with hd; subst hd; exact (show ∃ a d e, _ from ⟨_, _, _, rfl⟩)), Up.refl _, ?_⟩
      intro d hd j p d' hp hpd hji hanc hG
      injection hd with hd; subst hd
      have hj := lt_of_get hp
      have hj' : j = 0 ∨ j = 1 ∨ j = 2 ∨ j = 3 ∨ j = 4 ∨ j = 5 ∨ j = 6 ∨ j = 7 ∨ j = 8 := by have : j < 9 := hj; omega
      rcases hj' with rfl | rfl | rfl | rfl | rfl | rfl | rfl | rfl | rfl
      · injection hp with hp; subst hp
        injection hpd with hpd; subst hpd
        exact mD_bld rfl (by decide) (fun e => absurd e (by decide)) (fun e => absurd e (by decide)) (fun e => absurd e (by decide))
      · injection hp with hp; subst hp
        injection hpd with hpd; subst hpd
        exact mD_bld rfl (by decide) (fun e => e0) (fun e => absurd e (by decide)) (fun e => absurd e (by decide))
      · injection hp with hp; subst hp
        injection hpd with hpd; subst hpd
        exact mD_bld rfl (by decide) (fun e => absurd e (by decide)) (fun e => absurd e (by decide)) (fun e => absurd e (by decide))
      · injection hp with hp; subst hp
        injection hpd with hpd; subst hpd
        exact mD_bld rfl (by decide) (fun e => absurd e (by decide)) (fun e => e3) (fun e => absurd e (by decide))
      · injection hp with hp; subst hp
        injection hpd with hpd; subst hpd
        exact mD_bld rfl (by decide) (fun e => absurd e (by decide)) (fun e => absurd e (by decide)) (fun e => absurd e (by decide))
      · injection hp with hp; subst hp
        injection hpd with hpd; subst hpd
        exact mD_bld rfl (by decide) (fun e => absurd e (by decide)) (fun e => absurd e (by decide)) (fun e => e4)
      · injection hp with hp; subst hp
        exact absurd rfl hji
      · injection hp with hp; subst hp
        injection hpd with hpd; subst hpd
        exact mD_bld rfl (by decide) (fun e => absurd e (by decide)) (fun e => absurd e (by decide)) (fun e => absurd e (by decide))
      · injection hp with hp; subst hp
        cases hpd
    · injection ho with ho; subst ho
      refine ⟨_, _, ex_box w' a _ rfl, fun d hd => (by injection hd with hd; subst hd; exact (show ∃ b, _ from ⟨_, rfl, u.size, heap_alloc_new w' _⟩)), Up.alloc _ _, ?_⟩
      intro d hd j p d' hp hpd hji hanc hG
      injection hd with hd; subst hd
      have hj := lt_of_get hp
      have hj' : j = 0 ∨ j = 1 ∨ j = 2 ∨ j = 3 ∨ j = 4 ∨ j = 5 ∨ j = 6 ∨ j = 7 ∨ j = 8 := by have : j < 9 := hj; omega
      rcases hj' with rfl | rfl | rfl | rfl | rfl | rfl | rfl | rfl | rfl
      · injection hp with hp; subst hp
        injection hpd with hpd; subst hpd
        exact mD_pair (by decide) (by decide) (by decide)
      · injection hp with hp; subst hp
        injection hpd with hpd; subst hpd
        exact mD_pair (by decide) (by decide) (by decide)
      · injection hp with hp; subst hp
        injection hpd with hpd; subst hpd
        exact mD_pair (by decide) (by decide) (by decide)
      · injection hp with hp; subst hp
        injection hpd with hpd; subst hpd
        exact mD_pair (by decide) (by decide) (by decide)
      · injection hp with hp; subst hp
        injection hpd with hpd; subst hpd
        exact mD_pair (by decide) (by decide) (by decide)
      · injection hp with hp; subst hp
        injection hpd with hpd; subst hpd
        exact mD_pair (by decide) (by decide) (by decide)
      · injection hp with hp; subst hp
        injection hpd with hpd; subst hpd
        exact mD_pair (by decide) (by decide) (by decide)
      · injection hp with hp; subst hp
        exact absurd rfl hji
      · injection hp with hp; subst hp
        cases hpd
  case last =>
    intro o ho a w' u sz df old all two
    injection ho with ho; subst ho
    obtain ⟨b, h8, hbb, hbx⟩ := (show ∃ b, a.tmps.getD 8 undef = .pointer (some ⟨b, 0, none⟩) ∧ W.heap.size ≤ b ∧ w'.heap[b]? = some (.cells #[.slice none 0 0, .slice none 0 0, .slice none 0 0, .slice none 0 0, .slice none 0 0] 27 (0, 0)) from all 7 _ 8 (by omega) rfl rfl)
    obtain ⟨g0, e0, o0⟩ := (show ∃ g, a.tmps.getD 20 undef = .slice (some ⟨g, 0, none⟩) N N ∧ w'.ownsRow W.heap.size 56 3 (a.tmps.getD 20 undef) N (kc (List.replicate N k0)) from all 1 _ 20 (by omega) rfl rfl)
    obtain ⟨g3, e3, o3⟩ := (show ∃ g, a.tmps.getD 22 undef = .slice (some ⟨g, 0, none⟩) N N ∧ w'.ownsRow W.heap.size 4 1 (a.tmps.getD 22 undef) N (oc (List.replicate N false)) from all 3 _ 22 (by omega) rfl rfl)
    obtain ⟨g4, e4, o4⟩ := (show ∃ g, a.tmps.getD 24 undef = .slice (some ⟨g, 0, none⟩) N N ∧ w'.ownsRow W.heap.size 4 1 (a.tmps.getD 24 undef) N (oc (List.replicate N false)) from all 5 _ 24 (by omega) rfl rfl)
    obtain ⟨d1, f1, t1⟩ := (two 6 1 _ _ 25 20 (by omega) (by omega) (by omega) rfl rfl rfl rfl).2.2.1 rfl rfl
    obtain ⟨d2, f2, t2⟩ := (two 6 3 _ _ 25 22 (by omega) (by omega) (by omega) rfl rfl rfl rfl).2.2.2.1 rfl rfl
    obtain ⟨d3, f3, t3⟩ := (two 6 5 _ _ 25 24 (by omega) (by omega) (by omega) rfl rfl rfl rfl).2.2.2.2 rfl rfl
    have ne34 := (two 3 5 _ _ 22 24 (by omega) (by omega) (by omega) rfl rfl rfl rfl).1 rfl rfl
    rw [e0] at t1 o0
    rw [e3] at t2 o3 ne34
    rw [e4] at t3 o4 ne34
    have e25 : a.tmps.getD 25 undef = .agg #[.slice (some ⟨g0, 0, none⟩) N N, .slice none 0 0, .slice none 0 0, .slice (some ⟨g3, 0, none⟩) N N, .slice (some ⟨g4, 0, none⟩) N N] := by
      rw [t1] at t2 t3 ⊢
      simp only [Value.agg.injEq, Array.mk.injEq, List.cons.injEq, and_true, true_and] at t2 t3
      rw [t2.2.1, t3.2.2]
    have n34 : g3 ≠ g4 := fun e => ne34 (by rw [e])
    have h50 : OwB w' W.heap.size (.agg #[.slice (some ⟨g0, 0, none⟩) N N, .slice none 0 0, .slice none 0 0, .slice (some ⟨g3, 0, none⟩) N N, .slice (some ⟨g4, 0, none⟩) N N]) (xM N (List.replicate N false) (List.replicate N false)) :=
      ⟨_, _, _, _, _, rfl, by rw [show (xM N (List.replicate N false) (List.replicate N false)).ks.length = N from List.length_replicate]; exact o0, World.ownsRow_nil _ _ _ _, World.ownsRow_nil _ _ _ _, by rw [show (xM N (List.replicate N false) (List.replicate N false)).sd.length = N from List.length_replicate]; exact o3, by rw [show (xM N (List.replicate N false) (List.replicate N false)).ut.length = N from List.length_replicate]; exact o4⟩
    rw [← stL_zero false (mkF l0) N] at h50
    rw [show xM N (stL false (mkF l0) N 0) (stL false (mkF l0) N 0) = xM N (stL false (mkF l0) N 0) (stL false (mkF l1) N 0) by rw [stL_zero, stL_zero]] at h50
    have HB := Lib.hid (five_heap hbx (.slice (some ⟨g0, 0, none⟩) N N) (.slice none 0 0) (.slice none 0 0) (.slice (some ⟨g3, 0, none⟩) N N) (.slice (some ⟨g4, 0, none⟩) N N))
    have HO := Lib.hid (h50.five hbx (.slice (some ⟨g0, 0, none⟩) N N) (.slice none 0 0) (.slice none 0 0) (.slice (some ⟨g3, 0, none⟩) N N) (.slice (some ⟨g4, 0, none⟩) N N))
    have HU := Lib.hid (u.five hbb (.slice (some ⟨g0, 0, none⟩) N N) (.slice none 0 0) (.slice none 0 0) (.slice (some ⟨g3, 0, none⟩) N N) (.slice (some ⟨g4, 0, none⟩) N N))
    have hg0 := World.ownsRow.lt o0 g0 rfl
    have hg3 := World.ownsRow.lt o3 g3 rfl
    have hg4 := World.ownsRow.lt o4 g4 rfl
    have nb3 : b ≠ g3 := fun e => row_ty o3 hbx (by decide) (by rw [e]; rfl)
    have nb4 : b ≠ g4 := fun e => row_ty o4 hbx (by decide) (by rw [e]; rfl)
    refine wp_sto8 w' a _ b _ _ _ _ _ _ _ _ _ _ _ _ _ _ _ h8 e25 (bx_heap hbx).1 (bx_heap hbx).2 rfl rfl ?_
    have p0 : a.tmps[0]? = some (.slice A0 l0.length c0) := (old 0 (by kernel_rfl)).trans rfl
    have p1 : a.tmps[1]? = some (.slice A1 l1.length c1) := (old 1 (by kernel_rfl)).trans rfl
    have p2 : a.tmps[2]? = some (.int .i64 (N : Int)) := (old 2 (by kernel_rfl)).trans rfl
    have p7 : a.tmps[7]? = some (.bool true) := (old 7 (by kernel_rfl)).trans rfl
    clear e25 all old two h50 hbx u e0 e3 e4 o0 o3 o4 t1 t2 t3 ne34
    generalize five w' b (.slice (some ⟨g0, 0, none⟩) N N) (.slice none 0 0) (.slice none 0 0) (.slice (some ⟨g3, 0, none⟩) N N) (.slice (some ⟨g4, 0, none⟩) N N) = V at *
    obtain ⟨⟨l⟩, df'⟩ := a
    replace sz : l.length = 111 := sz
    obtain ⟨x0, t0, rfl, s0⟩ := cons_of sz
    clear sz
    obtain ⟨x1, t1, rfl, s1⟩ := cons_of s0
    clear s0
    obtain ⟨x2, t2, rfl, s2⟩ := cons_of s1
    clear s1
    obtain ⟨x3, t3, rfl, s3⟩ := cons_of s2
    clear s2
    obtain ⟨x4, t4, rfl, s4⟩ := cons_of s3
    clear s3
    obtain ⟨x5, t5, rfl, s5⟩ := cons_of s4
    clear s4
    obtain ⟨x6, t6, rfl, s6⟩ := cons_of s5
    clear s5
    obtain ⟨x7, t7, rfl, s7⟩ := cons_of s6
    clear s6
    obtain ⟨x8, t8, rfl, s8⟩ := cons_of s7
    clear s7
    obtain ⟨x9, t9, rfl, s9⟩ := cons_of s8
    clear s8
    obtain ⟨x10, t10, rfl, s10⟩ := cons_of s9
    clear s9
    obtain ⟨x11, t11, rfl, s11⟩ := cons_of s10
    clear s10
    obtain ⟨x12, t12, rfl, s12⟩ := cons_of s11
    clear s11
    obtain ⟨x13, t13, rfl, s13⟩ := cons_of s12
    clear s12
    obtain ⟨x14, t14, rfl, s14⟩ := cons_of s13
    clear s13
    obtain ⟨x15, t15, rfl, s15⟩ := cons_of s14
    clear s14
    obtain ⟨x16, t16, rfl, s16⟩ := cons_of s15
    clear s15
    obtain ⟨x17, t17, rfl, s17⟩ := cons_of s16
    clear s16
    obtain ⟨x18, t18, rfl, s18⟩ := cons_of s17
    clear s17
    obtain ⟨x19, t19, rfl, s19⟩ := cons_of s18
    clear s18
    obtain ⟨x20, t20, rfl, s20⟩ := cons_of s19
    clear s19
    obtain ⟨x21, t21, rfl, s21⟩ := cons_of s20
    clear s20
    obtain ⟨x22, t22, rfl, s22⟩ := cons_of s21
    clear s21
    obtain ⟨x23, t23, rfl, s23⟩ := cons_of s22
    clear s22
    obtain ⟨x24, t24, rfl, s24⟩ := cons_of s23
    clear s23
    obtain ⟨x25, t25, rfl, s25⟩ := cons_of s24
    clear s24
    obtain ⟨x26, t26, rfl, s26⟩ := cons_of s25
    clear s25
    obtain ⟨x27, t27, rfl, s27⟩ := cons_of s26
    clear s26
    obtain ⟨x28, t28, rfl, s28⟩ := cons_of s27
    clear s27
    obtain ⟨x29, t29, rfl, s29⟩ := cons_of s28
    clear s28
    obtain ⟨x30, t30, rfl, s30⟩ := cons_of s29
    clear s29
    obtain ⟨x31, t31, rfl, s31⟩ := cons_of s30
    clear s30
    obtain ⟨x32, t32, rfl, s32⟩ := cons_of s31
    clear s31
    obtain ⟨x33, t33, rfl, s33⟩ := cons_of s32
    clear s32
    obtain ⟨x34, t34, rfl, s34⟩ := cons_of s33
    clear s33
    obtain ⟨x35, t35, rfl, s35⟩ := cons_of s34
    clear s34
    obtain ⟨x36, t36, rfl, s36⟩ := cons_of s35
    clear s35
    obtain ⟨x37, t37, rfl, s37⟩ := cons_of s36
    clear s36
    obtain ⟨x38, t38, rfl, s38⟩ := cons_of s37
    clear s37
    obtain ⟨x39, t39, rfl, s39⟩ := cons_of s38
    clear s38
    obtain ⟨x40, t40, rfl, s40⟩ := cons_of s39
    clear s39
    obtain ⟨x41, t41, rfl, s41⟩ := cons_of s40
    clear s40
    obtain ⟨x42, t42, rfl, s42⟩ := cons_of s41
    clear s41
    obtain ⟨x43, t43, rfl, s43⟩ := cons_of s42
    clear s42
    obtain ⟨x44, t44, rfl, s44⟩ := cons_of s43
    clear s43
    obtain ⟨x45, t45, rfl, s45⟩ := cons_of s44
    clear s44
    obtain ⟨x46, t46, rfl, s46⟩ := cons_of s45
    clear s45
    obtain ⟨x47, t47, rfl, s47⟩ := cons_of s46
    clear s46
    obtain ⟨x48, t48, rfl, s48⟩ := cons_of s47
    clear s47
    obtain ⟨x49, t49, rfl, s49⟩ := cons_of s48
    clear s48
    obtain ⟨x50, t50, rfl, s50⟩ := cons_of s49
    clear s49
    obtain ⟨x51, t51, rfl, s51⟩ := cons_of s50
    clear s50
    obtain ⟨x52, t52, rfl, s52⟩ := cons_of s51
    clear s51
    obtain ⟨x53, t53, rfl, s53⟩ := cons_of s52
    clear s52
    obtain ⟨x54, t54, rfl, s54⟩ := cons_of s53
    clear s53
    obtain ⟨x55, t55, rfl, s55⟩ := cons_of s54
    clear s54
    obtain ⟨x56, t56, rfl, s56⟩ := cons_of s55
    clear s55
    obtain ⟨x57, t57, rfl, s57⟩ := cons_of s56
    clear s56
    obtain ⟨x58, t58, rfl, s58⟩ := cons_of s57
    clear s57
    obtain ⟨x59, t59, rfl, s59⟩ := cons_of s58
    clear s58
    obtain ⟨x60, t60, rfl, s60⟩ := cons_of s59
    clear s59
    obtain ⟨x61, t61, rfl, s61⟩ := cons_of s60
    clear s60
    obtain ⟨x62, t62, rfl, s62⟩ := cons_of s61
    clear s61
    obtain ⟨x63, t63, rfl, s63⟩ := cons_of s62
    clear s62
    obtain ⟨x64, t64, rfl, s64⟩ := cons_of s63
    clear s63
    obtain ⟨x65, t65, rfl, s65⟩ := cons_of s64
    clear s64
    obtain ⟨x66, t66, rfl, s66⟩ := cons_of s65
    clear s65
    obtain ⟨x67, t67, rfl, s67⟩ := cons_of s66
    clear s66
    obtain ⟨x68, t68, rfl, s68⟩ := cons_of s67
    clear s67
    obtain ⟨x69, t69, rfl, s69⟩ := cons_of s68
    clear s68
    obtain ⟨x70, t70, rfl, s70⟩ := cons_of s69
    clear s69
    obtain ⟨x71, t71, rfl, s71⟩ := cons_of s70
    clear s70
    obtain ⟨x72, t72, rfl, s72⟩ := cons_of s71
    clear s71
    obtain ⟨x73, t73, rfl, s73⟩ := cons_of s72
    clear s72
    obtain ⟨x74, t74, rfl, s74⟩ := cons_of s73
    clear s73
    obtain ⟨x75, t75, rfl, s75⟩ := cons_of s74
    clear s74
    obtain ⟨x76, t76, rfl, s76⟩ := cons_of s75
    clear s75
    obtain ⟨x77, t77, rfl, s77⟩ := cons_of s76
    clear s76
    obtain ⟨x78, t78, rfl, s78⟩ := cons_of s77
    clear s77
    obtain ⟨x79, t79, rfl, s79⟩ := cons_of s78
    clear s78
    obtain ⟨x80, t80, rfl, s80⟩ := cons_of s79
    clear s79
    obtain ⟨x81, t81, rfl, s81⟩ := cons_of s80
    clear s80
    obtain ⟨x82, t82, rfl, s82⟩ := cons_of s81
    clear s81
    obtain ⟨x83, t83, rfl, s83⟩ := cons_of s82
    clear s82
    obtain ⟨x84, t84, rfl, s84⟩ := cons_of s83
    clear s83
    obtain ⟨x85, t85, rfl, s85⟩ := cons_of s84
    clear s84
    obtain ⟨x86, t86, rfl, s86⟩ := cons_of s85
    clear s85
    obtain ⟨x87, t87, rfl, s87⟩ := cons_of s86
    clear s86
    obtain ⟨x88, t88, rfl, s88⟩ := cons_of s87
    clear s87
    obtain ⟨x89, t89, rfl, s89⟩ := cons_of s88
    clear s88
    obtain ⟨x90, t90, rfl, s90⟩ := cons_of s89
    clear s89
    obtain ⟨x91, t91, rfl, s91⟩ := cons_of s90
    clear s90
    obtain ⟨x92, t92, rfl, s92⟩ := cons_of s91
    clear s91
    obtain ⟨x93, t93, rfl, s93⟩ := cons_of s92
    clear s92
    obtain ⟨x94, t94, rfl, s94⟩ := cons_of s93
    clear s93
    obtain ⟨x95, t95, rfl, s95⟩ := cons_of s94
    clear s94
    obtain ⟨x96, t96, rfl, s96⟩ := cons_of s95
    clear s95
    obtain ⟨x97, t97, rfl, s97⟩ := cons_of s96
    clear s96
    obtain ⟨x98, t98, rfl, s98⟩ := cons_of s97
    clear s97
    obtain ⟨x99, t99, rfl, s99⟩ := cons_of s98
    clear s98
    obtain ⟨x100, t100, rfl, s100⟩ := cons_of s99
    clear s99
    obtain ⟨x101, t101, rfl, s101⟩ := cons_of s100
    clear s100
    obtain ⟨x102, t102, rfl, s102⟩ := cons_of s101
    clear s101
    obtain ⟨x103, t103, rfl, s103⟩ := cons_of s102
    clear s102
    obtain ⟨x104, t104, rfl, s104⟩ := cons_of s103
    clear s103
    obtain ⟨x105, t105, rfl, s105⟩ := cons_of s104
    clear s104
    obtain ⟨x106, t106, rfl, s106⟩ := cons_of s105
    clear s105
    obtain ⟨x107, t107, rfl, s107⟩ := cons_of s106
    clear s106
    obtain ⟨x108, t108, rfl, s108⟩ := cons_of s107
    clear s107
    obtain ⟨x109, t109, rfl, s109⟩ := cons_of s108
    clear s108
    obtain ⟨x110, t110, rfl, s110⟩ := cons_of s109
    clear s109
    obtain rfl : t110 = [] := List.eq_nil_of_length_eq_zero s110
    have q0 : x0 = .slice A0 l0.length c0 := Option.some.inj p0
    have q1 : x1 = .slice A1 l1.length c1 := Option.some.inj p1
    have q2 : x2 = .int .i64 (N : Int) := Option.some.inj p2
    have q7 : x7 = .bool true := Option.some.inj p7
    have q8 : x8 = .pointer (some ⟨b, 0, none⟩) := h8
    have gd : df' = [] := df
    subst q0 q1 q2 q7 q8 gd
    clear p0 p1 p2 p7 h8 df s110
    go_wp2_with fail
    go_loopw [9, 10, 11] (fun ok nn i wr => ∃ k : Nat, k ≤ N ∧ i = .int .i64 k ∧ ok = .bool (allB k (fun j => !mkF l1 j || mkF l0 j)) ∧ nn = .bool (allB k (fun j => !mkF l1 j)) ∧ OwB wr W.heap.size (.agg #[.slice (some ⟨g0, 0, none⟩) N N, .slice none 0 0, .slice none 0 0, .slice (some ⟨g3, 0, none⟩) N N, .slice (some ⟨g4, 0, none⟩) N N]) (xM N (stL false (mkF l0) N k) (stL false (mkF l1) N k)) ∧ wr.heap[b]? = some (.cells #[.slice (some ⟨g0, 0, none⟩) N N, .slice none 0 0, .slice none 0 0, .slice (some ⟨g3, 0, none⟩) N N, .slice (some ⟨g4, 0, none⟩) N N] 27 (0, 0)) ∧ Up W wr) (fun _ _ i _ => N - (intOf i).toNat)
    case atStart => exact ⟨0, Nat.zero_le _, rfl, rfl, rfl, HO.out, HB.out, HU.out⟩
    case round =>
      clear HO HB HU
      obtain ⟨k, hk, rfl, hok, hnn, ho, hb, hu⟩ := hrel
      obtain ⟨okk, hokk⟩ : ∃ z, allB k (fun j => !mkF l1 j || mkF l0 j) = z := ⟨_, rfl⟩
      obtain ⟨nnk, hnnk⟩ : ∃ z, allB k (fun j => !mkF l1 j) = z := ⟨_, rfl⟩
      have OKE := Lib.hid hokk; have NNE := Lib.hid hnnk
      rw [hokk] at hok; rw [hnnk] at hnn
      subst hok hnn
      clear hokk hnnk
      have HO := Lib.hid ho
      have HB := Lib.hid hb
      have HU := Lib.hid hu
      clear ho hb hu
      by_cases hlt : k < N
      · obtain ⟨s, hs⟩ : ∃ s, mkF l0 k = s := ⟨_, rfl⟩
        obtain ⟨t, ht⟩ : ∃ t, mkF l1 k = t := ⟨_, rfl⟩
        have E0 : Hid (s = mkF l0 k) := hs.symm
        have E1 : Hid (t = mkF l1 k) := ht.symm
        clear hs ht
        go_wp2_with fail
        go_cut [0] from 26 to 83 (fun sl wc => sl = .slice A0 l0.length c0 ∧ OwB wc W.heap.size (.agg #[.slice (some ⟨g0, 0, none⟩) N N, .slice none 0 0, .slice none 0 0, .slice (some ⟨g3, 0, none⟩) N N, .slice (some ⟨g4, 0, none⟩) N N]) (xM N (stL false (mkF l0) N (k + 1)) (stL false (mkF l1) N k)) ∧ wc.heap[b]? = some (.cells #[.slice (some ⟨g0, 0, none⟩) N N, .slice none 0 0, .slice none 0 0, .slice (some ⟨g3, 0, none⟩) N N, .slice (some ⟨g4, 0, none⟩) N N] 27 (0, 0)) ∧ Up W wc)
        case first =>
          by_cases inn : k < l0.length
          · have gi : (k : Int) < (l0.length : Int) := by omega
            refine wp_region_still_tail 14 (by kernel_rfl) (by kernel_rfl) ?_
            replace HO : Hid (OwB ({ wr with drawn := wr.drawn + 1 } : World) W.heap.size (.agg #[.slice (some ⟨g0, 0, none⟩) N N, .slice none 0 0, .slice none 0 0, .slice (some ⟨g3, 0, none⟩) N N, .slice (some ⟨g4, 0, none⟩) N N]) (xM N (stL false (mkF l0) N k) (stL false (mkF l1) N k))) := Lib.hid (HO.out.up (Up.drewN wr 1))
            replace HB : Hid (({ wr with drawn := wr.drawn + 1 } : World).heap[b]? = some (.cells #[.slice (some ⟨g0, 0, none⟩) N N, .slice none 0 0, .slice none 0 0, .slice (some ⟨g3, 0, none⟩) N N, .slice (some ⟨g4, 0, none⟩) N N] 27 (0, 0))) := HB
            replace HU : Hid (Up W ({ wr with drawn := wr.drawn + 1 } : World)) := Lib.hid (HU.out.drewN' 1)
            generalize ({ wr with drawn := wr.drawn + 1 } : World) = U0 at *
            obtain ⟨y0, y1, y2, y3, y4⟩ := (bx_heap HB.out).1
            obtain ⟨cc, cf⟩ := OwB.sdCell HO.out (k := k) (by show k < (stL _ _ _ _).length; rw [stL_len _ _ hk]; exact hlt)
            obtain ⟨ib, io, rfl, ic⟩ := (show Rc U0 A0 (oc l0) from by obtain ⟨_, _, he, _, _, hr⟩ := R0.out; injection he with he _ _; subst he; exact hr.up (UW.out.trans HU.out)).bol inn
            replace ic : U0.cell? ⟨ib, io + k, none⟩ = some (.bool s) := ic.trans (congrArg (fun z => some (Value.bool z)) E0.out.symm)
            have HO' := Lib.hid (OwB.sdSet HO.out (fun h => n34 (Option.some.inj h).symm) k s)
            have eS : (stL false (mkF l0) N k).set k s = stL false (mkF l0) N (k + 1) := by
              have := stL_set false (mkF l0) hlt
              rw [← E0.out] at this
              exact this
            replace HO' : Hid (OwB (U0.setCell ⟨g3, k, none⟩ (.bool s)) W.heap.size (.agg #[.slice (some ⟨g0, 0, none⟩) N N, .slice none 0 0, .slice none 0 0, .slice (some ⟨g3, 0, none⟩) N N, .slice (some ⟨g4, 0, none⟩) N N]) (xM N (stL false (mkF l0) N (k + 1)) (stL false (mkF l1) N k))) := by
              have := HO'.out
              rw [show (⟨(xM N (stL false (mkF l0) N k) (stL false (mkF l1) N k)).ks, (xM N (stL false (mkF l0) N k) (stL false (mkF l1) N k)).js, (xM N (stL false (mkF l0) N k) (stL false (mkF l1) N k)).ls, (xM N (stL false (mkF l0) N k) (stL false (mkF l1) N k)).sd.set k s, (xM N (stL false (mkF l0) N k) (stL false (mkF l1) N k)).ut⟩ : Blk) = (xM N (stL false (mkF l0) N (k + 1)) (stL false (mkF l1) N k)) by unfold xM; simp only []; rw [eS]] at this
              exact this
            clear eS
            have HB' := Lib.hid ((Below.heap_setCell U0 ⟨g3, k, none⟩ (.bool s) b nb3).trans HB.out)
            have HU' := Lib.hid (HU.out.setCell' (p := ⟨g3, k, none⟩) hg3.1 (.bool s))
            clear HO HB HU
            simp only [List.take_succ_cons, List.take_zero, List.drop_succ_cons, List.drop_zero]
            repeat still_step
            refine wpStill_nil ?_
            go_wp2_with fail
            go_meet
            case rel => exact ⟨rfl, HO'.out, HB'.out, HU'.out⟩
          · have gi : ¬ (k : Int) < (l0.length : Int) := by omega
            have sf : Hid (false = mkF l0 k) := by unfold Hid mkF; rw [getD_out (by omega)]
            refine wp_region_still_tail 14 (by kernel_rfl) (by kernel_rfl) ?_
            replace HO : Hid (OwB ({ wr with drawn := wr.drawn + 1 } : World) W.heap.size (.agg #[.slice (some ⟨g0, 0, none⟩) N N, .slice none 0 0, .slice none 0 0, .slice (some ⟨g3, 0, none⟩) N N, .slice (some ⟨g4, 0, none⟩) N N]) (xM N (stL false (mkF l0) N k) (stL false (mkF l1) N k))) := Lib.hid (HO.out.up (Up.drewN wr 1))
            replace HB : Hid (({ wr with drawn := wr.drawn + 1 } : World).heap[b]? = some (.cells #[.slice (some ⟨g0, 0, none⟩) N N, .slice none 0 0, .slice none 0 0, .slice (some ⟨g3, 0, none⟩) N N, .slice (some ⟨g4, 0, none⟩) N N] 27 (0, 0))) := HB
            replace HU : Hid (Up W ({ wr with drawn := wr.drawn + 1 } : World)) := Lib.hid (HU.out.drewN' 1)
            generalize ({ wr with drawn := wr.drawn + 1 } : World) = U0 at *
            obtain ⟨y0, y1, y2, y3, y4⟩ := (bx_heap HB.out).1
            obtain ⟨cc, cf⟩ := OwB.sdCell HO.out (k := k) (by show k < (stL _ _ _ _).length; rw [stL_len _ _ hk]; exact hlt)
            have HO' := Lib.hid (OwB.sdSet HO.out (fun h => n34 (Option.some.inj h).symm) k false)
            have eS : (stL false (mkF l0) N k).set k false = stL false (mkF l0) N (k + 1) := by
              have := stL_set false (mkF l0) hlt
              rw [← sf.out] at this
              exact this
            replace HO' : Hid (OwB (U0.setCell ⟨g3, k, none⟩ (.bool false)) W.heap.size (.agg #[.slice (some ⟨g0, 0, none⟩) N N, .slice none 0 0, .slice none 0 0, .slice (some ⟨g3, 0, none⟩) N N, .slice (some ⟨g4, 0, none⟩) N N]) (xM N (stL false (mkF l0) N (k + 1)) (stL false (mkF l1) N k))) := by
              have := HO'.out
              rw [show (⟨(xM N (stL false (mkF l0) N k) (stL false (mkF l1) N k)).ks, (xM N (stL false (mkF l0) N k) (stL false (mkF l1) N k)).js, (xM N (stL false (mkF l0) N k) (stL false (mkF l1) N k)).ls, (xM N (stL false (mkF l0) N k) (stL false (mkF l1) N k)).sd.set k false, (xM N (stL false (mkF l0) N k) (stL false (mkF l1) N k)).ut⟩ : Blk) = (xM N (stL false (mkF l0) N (k + 1)) (stL false (mkF l1) N k)) by unfold xM; simp only []; rw [eS]] at this
              exact this
            clear eS
            have HB' := Lib.hid ((Below.heap_setCell U0 ⟨g3, k, none⟩ (.bool false) b nb3).trans HB.out)
            have HU' := Lib.hid (HU.out.setCell' (p := ⟨g3, k, none⟩) hg3.1 (.bool false))
            clear HO HB HU
            simp only [List.take_succ_cons, List.take_zero, List.drop_succ_cons, List.drop_zero]
            repeat still_step
            refine wpStill_nil ?_
            go_wp2_with fail
            go_meet
            case rel => exact ⟨rfl, HO'.out, HB'.out, HU'.out⟩
        case rest =>
          clear HO HB HU
          obtain ⟨rfl, ho, hb, hu⟩ := hcut
          have HO := Lib.hid ho; have HB := Lib.hid hb; have HU := Lib.hid hu
          clear ho hb hu
          generalize hwv : wc = V1 at *
          clear hwv
          go_wp2_with fail
          go_cut [1] from 26 to 83 (fun sl wc => sl = .slice A1 l1.length c1 ∧ OwB wc W.heap.size (.agg #[.slice (some ⟨g0, 0, none⟩) N N, .slice none 0 0, .slice none 0 0, .slice (some ⟨g3, 0, none⟩) N N, .slice (some ⟨g4, 0, none⟩) N N]) (xM N (stL false (mkF l0) N (k + 1)) (stL false (mkF l1) N (k + 1))) ∧ wc.heap[b]? = some (.cells #[.slice (some ⟨g0, 0, none⟩) N N, .slice none 0 0, .slice none 0 0, .slice (some ⟨g3, 0, none⟩) N N, .slice (some ⟨g4, 0, none⟩) N N] 27 (0, 0)) ∧ Up W wc)
          case first =>
            by_cases inn : k < l1.length
            · have gi : (k : Int) < (l1.length : Int) := by omega
              refine wp_region_still_tail 14 (by kernel_rfl) (by kernel_rfl) ?_
              replace HO : Hid (OwB ({ V1 with drawn := V1.drawn + 1 } : World) W.heap.size (.agg #[.slice (some ⟨g0, 0, none⟩) N N, .slice none 0 0, .slice none 0 0, .slice (some ⟨g3, 0, none⟩) N N, .slice (some ⟨g4, 0, none⟩) N N]) (xM N (stL false (mkF l0) N (k + 1)) (stL false (mkF l1) N k))) := Lib.hid (HO.out.up (Up.drewN V1 1))
              replace HB : Hid (({ V1 with drawn := V1.drawn + 1 } : World).heap[b]? = some (.cells #[.slice (some ⟨g0, 0, none⟩) N N, .slice none 0 0, .slice none 0 0, .slice (some ⟨g3, 0, none⟩) N N, .slice (some ⟨g4, 0, none⟩) N N] 27 (0, 0))) := HB
              replace HU : Hid (Up W ({ V1 with drawn := V1.drawn + 1 } : World)) := Lib.hid (HU.out.drewN' 1)
              generalize ({ V1 with drawn := V1.drawn + 1 } : World) = U1 at *
              obtain ⟨y0, y1, y2, y3, y4⟩ := (bx_heap HB.out).1
              obtain ⟨cc, cf⟩ := OwB.utCell HO.out (k := k) (by show k < (stL _ _ _ _).length; rw [stL_len _ _ hk]; exact hlt)
              obtain ⟨ib, io, rfl, ic⟩ := (show Rc U1 A1 (oc l1) from by obtain ⟨_, _, he, _, _, hr⟩ := R1.out; injection he with he _ _; subst he; exact hr.up (UW.out.trans HU.out)).bol inn
              replace ic : U1.cell? ⟨ib, io + k, none⟩ = some (.bool t) := ic.trans (congrArg (fun z => some (Value.bool z)) E1.out.symm)
              have HO' := Lib.hid (OwB.utSet HO.out (fun h => n34 (Option.some.inj h)) k t)
              have eS : (stL false (mkF l1) N k).set k t = stL false (mkF l1) N (k + 1) := by
                have := stL_set false (mkF l1) hlt
                rw [← E1.out] at this
                exact this
              replace HO' : Hid (OwB (U1.setCell ⟨g4, k, none⟩ (.bool t)) W.heap.size (.agg #[.slice (some ⟨g0, 0, none⟩) N N, .slice none 0 0, .slice none 0 0, .slice (some ⟨g3, 0, none⟩) N N, .slice (some ⟨g4, 0, none⟩) N N]) (xM N (stL false (mkF l0) N (k + 1)) (stL false (mkF l1) N (k + 1)))) := by
                have := HO'.out
                rw [show (⟨(xM N (stL false (mkF l0) N (k + 1)) (stL false (mkF l1) N k)).ks, (xM N (stL false (mkF l0) N (k + 1)) (stL false (mkF l1) N k)).js, (xM N (stL false (mkF l0) N (k + 1)) (stL false (mkF l1) N k)).ls, (xM N (stL false (mkF l0) N (k + 1)) (stL false (mkF l1) N k)).sd, (xM N (stL false (mkF l0) N (k + 1)) (stL false (mkF l1) N k)).ut.set k t⟩ : Blk) = (xM N (stL false (mkF l0) N (k + 1)) (stL false (mkF l1) N (k + 1))) by unfold xM; simp only []; rw [eS]] at this
                exact this
              clear eS
              have HB' := Lib.hid ((Below.heap_setCell U1 ⟨g4, k, none⟩ (.bool t) b nb4).trans HB.out)
              have HU' := Lib.hid (HU.out.setCell' (p := ⟨g4, k, none⟩) hg4.1 (.bool t))
              clear HO HB HU
              simp only [List.take_succ_cons, List.take_zero, List.drop_succ_cons, List.drop_zero]
              repeat still_step
              refine wpStill_nil ?_
              go_wp2_with fail
              go_meet
              case rel => exact ⟨rfl, HO'.out, HB'.out, HU'.out⟩
            · have gi : ¬ (k : Int) < (l1.length : Int) := by omega
              have sf : Hid (false = mkF l1 k) := by unfold Hid mkF; rw [getD_out (by omega)]
              refine wp_region_still_tail 14 (by kernel_rfl) (by kernel_rfl) ?_
              replace HO : Hid (OwB ({ V1 with drawn := V1.drawn + 1 } : World) W.heap.size (.agg #[.slice (some ⟨g0, 0, none⟩) N N, .slice none 0 0, .slice none 0 0, .slice (some ⟨g3, 0, none⟩) N N, .slice (some ⟨g4, 0, none⟩) N N]) (xM N (stL false (mkF l0) N (k + 1)) (stL false (mkF l1) N k))) := Lib.hid (HO.out.up (Up.drewN V1 1))
              replace HB : Hid (({ V1 with drawn := V1.drawn + 1 } : World).heap[b]? = some (.cells #[.slice (some ⟨g0, 0, none⟩) N N, .slice none 0 0, .slice none 0 0, .slice (some ⟨g3, 0, none⟩) N N, .slice (some ⟨g4, 0, none⟩) N N] 27 (0, 0))) := HB
              replace HU : Hid (Up W ({ V1 with drawn := V1.drawn + 1 } : World)) := Lib.hid (HU.out.drewN' 1)
              generalize ({ V1 with drawn := V1.drawn + 1 } : World) = U1 at *
              obtain ⟨y0, y1, y2, y3, y4⟩ := (bx_heap HB.out).1
              obtain ⟨cc, cf⟩ := OwB.utCell HO.out (k := k) (by show k < (stL _ _ _ _).length; rw [stL_len _ _ hk]; exact hlt)
              have HO' := Lib.hid (OwB.utSet HO.out (fun h => n34 (Option.some.inj h)) k false)
              have eS : (stL false (mkF l1) N k).set k false = stL false (mkF l1) N (k + 1) := by
                have := stL_set false (mkF l1) hlt
                rw [← sf.out] at this
                exact this
              replace HO' : Hid (OwB (U1.setCell ⟨g4, k, none⟩ (.bool false)) W.heap.size (.agg #[.slice (some ⟨g0, 0, none⟩) N N, .slice none 0 0, .slice none 0 0, .slice (some ⟨g3, 0, none⟩) N N, .slice (some ⟨g4, 0, none⟩) N N]) (xM N (stL false (mkF l0) N (k + 1)) (stL false (mkF l1) N (k + 1)))) := by
                have := HO'.out
                rw [show (⟨(xM N (stL false (mkF l0) N (k + 1)) (stL false (mkF l1) N k)).ks, (xM N (stL false (mkF l0) N (k + 1)) (stL false (mkF l1) N k)).js, (xM N (stL false (mkF l0) N (k + 1)) (stL false (mkF l1) N k)).ls, (xM N (stL false (mkF l0) N (k + 1)) (stL false (mkF l1) N k)).sd, (xM N (stL false (mkF l0) N (k + 1)) (stL false (mkF l1) N k)).ut.set k false⟩ : Blk) = (xM N (stL false (mkF l0) N (k + 1)) (stL false (mkF l1) N (k + 1))) by unfold xM; simp only []; rw [eS]] at this
                exact this
              clear eS
              have HB' := Lib.hid ((Below.heap_setCell U1 ⟨g4, k, none⟩ (.bool false) b nb4).trans HB.out)
              have HU' := Lib.hid (HU.out.setCell' (p := ⟨g4, k, none⟩) hg4.1 (.bool false))
              clear HO HB HU
              simp only [List.take_succ_cons, List.take_zero, List.drop_succ_cons, List.drop_zero]
              repeat still_step
              refine wpStill_nil ?_
              go_wp2_with fail
              go_meet
              case rel => exact ⟨rfl, HO'.out, HB'.out, HU'.out⟩
          case rest =>
            clear HO HB HU
            obtain ⟨rfl, ho, hb, hu⟩ := hcut
            have HO := Lib.hid ho; have HB := Lib.hid hb; have HU := Lib.hid hu
            clear ho hb hu
            generalize hwv : wc = V2 at *
            clear hwv
            obtain ⟨y0, y1, y2, y3, y4⟩ := (bx_heap HB.out).1
            obtain ⟨cs, _⟩ := OwB.sdCell HO.out (k := k) (by show k < (stL _ _ _ _).length; rw [stL_len _ _ (by omega)]; exact hlt)
            obtain ⟨ct, _⟩ := OwB.utCell HO.out (k := k) (by show k < (stL _ _ _ _).length; rw [stL_len _ _ (by omega)]; exact hlt)
            replace cs : V2.cell? ⟨g3, k, none⟩ = some (.bool s) := by rw [cs, E0.out]; exact congrArg (fun z => some (Value.bool z)) (stL_get false (mkF l0) hlt)
            replace ct : V2.cell? ⟨g4, k, none⟩ = some (.bool t) := by rw [ct, E1.out]; exact congrArg (fun z => some (Value.bool z)) (stL_get false (mkF l1) hlt)
            have b6 : (k : Int) < (N : Int) := by omega
            have b8 : (0 : Int) ≤ (k : Int) := by omega
            have F1 : Hid (allB (k + 1) (fun j => !mkF l1 j || mkF l0 j) = (okk && (!t || s))) := by unfold Hid; rw [allB_succ, OKE.out, ← E0.out, ← E1.out]
            have F2 : Hid (allB (k + 1) (fun j => !mkF l1 j) = (nnk && !t)) := by unfold Hid; rw [allB_succ, NNE.out, ← E1.out]
            cases okk
            · cases nnk
              · go_wp2_with fail
                go_roundw
                case rel => exact ⟨k + 1, by omega, by go_num, by rw [F1.out]; rfl, by rw [F2.out]; rfl, HO.out, HB.out, HU.out⟩
                case measure => simp [intOf]; omega
              · cases t
                · go_wp2_with fail
                  go_roundw
                  case rel => exact ⟨k + 1, by omega, by go_num, by rw [F1.out]; rfl, by rw [F2.out]; rfl, HO.out, HB.out, HU.out⟩
                  case measure => simp [intOf]; omega
                · go_wp2_with fail
                  go_roundw
                  case rel => exact ⟨k + 1, by omega, by go_num, by rw [F1.out]; rfl, by rw [F2.out]; rfl, HO.out, HB.out, HU.out⟩
                  case measure => simp [intOf]; omega
            · cases t
              · cases nnk
                · go_wp2_with fail
                  go_roundw
                  case rel => exact ⟨k + 1, by omega, by go_num, by rw [F1.out]; rfl, by rw [F2.out]; rfl, HO.out, HB.out, HU.out⟩
                  case measure => simp [intOf]; omega
                · go_wp2_with fail
                  go_roundw
                  case rel => exact ⟨k + 1, by omega, by go_num, by rw [F1.out]; rfl, by rw [F2.out]; rfl, HO.out, HB.out, HU.out⟩
                  case measure => simp [intOf]; omega
              · cases s
                · cases nnk
                  · go_wp2_with fail
                    go_roundw
                    case rel => exact ⟨k + 1, by omega, by go_num, by rw [F1.out]; rfl, by rw [F2.out]; rfl, HO.out, HB.out, HU.out⟩
                    case measure => simp [intOf]; omega
                  · go_wp2_with fail
                    go_roundw
                    case rel => exact ⟨k + 1, by omega, by go_num, by rw [F1.out]; rfl, by rw [F2.out]; rfl, HO.out, HB.out, HU.out⟩
                    case measure => simp [intOf]; omega
                · cases nnk
                  · go_wp2_with fail
                    go_roundw
                    case rel => exact ⟨k + 1, by omega, by go_num, by rw [F1.out]; rfl, by rw [F2.out]; rfl, HO.out, HB.out, HU.out⟩
                    case measure => simp [intOf]; omega
                  · go_wp2_with fail
                    go_roundw
                    case rel => exact ⟨k + 1, by omega, by go_num, by rw [F1.out]; rfl, by rw [F2.out]; rfl, HO.out, HB.out, HU.out⟩
                    case measure => simp [intOf]; omega
      · have hkq : k = N := by omega
        subst hkq
        have HX : Hid (OwB wr W.heap.size (.agg #[.slice (some ⟨g0, 0, none⟩) k k, .slice none 0 0, .slice none 0 0, .slice (some ⟨g3, 0, none⟩) k k, .slice (some ⟨g4, 0, none⟩) k k]) (xM k ((List.range k).map (mkF l0)) ((List.range k).map (mkF l1)))) := by
          have := HO.out
          rw [stL_end, stL_end] at this
          exact this
        have C1 := Lib.hid (fun w1 v h => bright_any v (xM k ((List.range k).map (mkF l0)) ((List.range k).map (mkF l1))) 8 2 w1 h)
        have C2 := Lib.hid (fun w1 v h => bright_any v (xM k [] ((List.range k).map (mkF l1))) 8 2 w1 h)
        have C3 := Lib.hid (fun w1 v h => bright_any v (xM k ((List.range k).map (mkF l0)) []) 8 2 w1 h)
        rw [xM_right hN1 hN20, rm_full, OKE.out] at C1
        rw [xM_right hN1 hN20, rm_ut, NNE.out] at C2
        rw [xM_right hN1 hN20, rm_sd] at C3
        have X2 : Hid (BkR wr (.agg #[.slice (some ⟨g0, 0, none⟩) k k, .slice none 0 0, .slice none 0 0, .slice none 0 0, .slice (some ⟨g4, 0, none⟩) k k]) (xM k [] ((List.range k).map (mkF l1)))) := by
          obtain ⟨_, _, _, _, _, he, h1, h2, h3, h4, h5⟩ := HX.out.rd
          simp only [Value.agg.injEq, Array.mk.injEq, List.cons.injEq, and_true] at he
          obtain ⟨rfl, rfl, rfl, rfl, rfl⟩ := he
          exact ⟨_, _, _, _, _, rfl, h1, h2, h3, Sl.nil _, h5⟩
        have X3 : Hid (BkR wr (.agg #[.slice (some ⟨g0, 0, none⟩) k k, .slice none 0 0, .slice none 0 0, .slice (some ⟨g3, 0, none⟩) k k, .slice none 0 0]) (xM k ((List.range k).map (mkF l0)) [])) := by
          obtain ⟨_, _, _, _, _, he, h1, h2, h3, h4, h5⟩ := HX.out.rd
          simp only [Value.agg.injEq, Array.mk.injEq, List.cons.injEq, and_true] at he
          obtain ⟨rfl, rfl, rfl, rfl, rfl⟩ := he
          exact ⟨_, _, _, _, _, rfl, h1, h2, h3, h4, Sl.nil _⟩
        clear OKE NNE HO
        have ua := Up.alloc wr (.cells #[.slice (some ⟨g0, 0, none⟩) k k, .slice none 0 0, .slice none 0 0, .slice none 0 0, .slice (some ⟨g4, 0, none⟩) k k] 27)
        have ub := Up.alloc (wr.alloc (.cells #[.slice (some ⟨g0, 0, none⟩) k k, .slice none 0 0, .slice none 0 0, .slice none 0 0, .slice (some ⟨g4, 0, none⟩) k k] 27)) (.cells #[.slice (some ⟨g0, 0, none⟩) k k, .slice none 0 0, .slice none 0 0, .slice (some ⟨g3, 0, none⟩) k k, .slice none 0 0] 27)
        have BY := Lib.hid ((Bx5.new wr (.slice (some ⟨g0, 0, none⟩) k k) (.slice none 0 0) (.slice none 0 0) (.slice none 0 0) (.slice (some ⟨g4, 0, none⟩) k k) 27).up ub)
        have BZ := Bx5.new (wr.alloc (.cells #[.slice (some ⟨g0, 0, none⟩) k k, .slice none 0 0, .slice none 0 0, .slice none 0 0, .slice (some ⟨g4, 0, none⟩) k k] 27)) (.slice (some ⟨g0, 0, none⟩) k k) (.slice none 0 0) (.slice none 0 0) (.slice (some ⟨g3, 0, none⟩) k k) (.slice none 0 0) 27
        rw [World.size_alloc] at BZ
        have BZ := Lib.hid BZ
        have UAB := Lib.hid (ua.trans ub)
        clear ua ub
        obtain ⟨y0, y1, y2, y3, y4⟩ := (bx_heap HB.out).1
        have lty := cell_lt y0
        go_wp2_with fail
        clear y0 y1 y2 y3 y4 lty
        refine (C1.out _ _ (HX.out.rd.up UAB.out)).mono ?_; rintro e w7 ⟨rfl, u7⟩
        obtain ⟨y0, y1, y2, y3, y4⟩ := BY.out.up u7
        cases okk
        all_goals
          go_wp2_with fail
          refine (C2.out _ _ (X2.out.up (UAB.out.trans u7))).mono ?_; rintro e w8 ⟨rfl, u8⟩
          obtain ⟨z0, z1, z2, z3, z4⟩ := (BZ.out.up u7).up u8
          cases nnk
          all_goals
            go_wp2_with fail
            refine (C3.out _ _ (X3.out.up ((UAB.out.trans u7).trans u8))).mono ?_; rintro e w9 ⟨rfl, u9⟩
            go_wp2_with fail
            go_ret
            exact ⟨rfl, ((((UW.out.trans HU.out).trans UAB.out).trans u7).trans u8).trans u9⟩

theorem readable : ∀ t ∈ Try.f10.params.toList, Try.prog.readableRec t = true ∧ t < Try.prog.types.size := by
  rw [Try.params10]
  intro t ht
  have hall : ([25, 25, 3].all fun u => Try.prog.readableRec u && decide (u < Try.prog.types.size)) = true := by kernel_rfl
  have := List.all_eq_true.1 hall t (by simpa using ht)
  simpa using this

set_option maxRecDepth 100000 in
theorem lifted (os : Os) (started : os.Started) (H : Type) (enc : TypeId × Value → H) :
    ReturnsInHanded {} Try.checked os 10 .any (Rows.blockMarksSpec.pre6 enc Try.prog Try.f10 Rows.blockMarksRow.domain false) (Rows.blockMarksSpec.post enc Try.prog Try.f10 false true false false) := by
  refine returnsInHanded_of_change (C := Try.checked) own started (by kernel_rfl) Try.func10
    (ChangeSpec.witness6 (enc := enc) (C := Try.checked) false ⟨#[], #[.slice none 0 0, .slice none 0 0, .int .i64 0], []⟩ 8 (by kernel_rfl) (by kernel_rfl) (by kernel_rfl) (by kernel_rfl)) ?_
  intro W base args ds gs before hval0 hW hcnd _
  have hval : ∀ (j : Nat) t v, Try.f10.params[j]? = some t → args[j]? = some v → Value.okWide Try.prog W .any base t v := hval0
  have hW' := hW
  obtain ⟨p, q, hA0, hV, rfl, hfz, hnd⟩ := hW
  have hA : DataW.TrodAll enc Try.prog W 0 (fun _ => true) true Try.f10.params.toList args.toList ds p := hA0
  rw [Try.params10] at hA hval
  obtain ⟨v0, vs0, d0, ds0, p0, q0, hargs, rfl, rfl, h0, r0⟩ := trodAll_cons hA
  obtain ⟨v1, vs1, d1, ds1, p1, q1, rfl, rfl, rfl, h1, r1⟩ := trodAll_cons r0
  obtain ⟨v2, vs2, d2, ds2, p2, q2, rfl, rfl, rfl, h2, r2⟩ := trodAll_cons r1
  obtain ⟨rfl, rfl, rfl⟩ := trodAll_nil r2
  obtain rfl : args = #[v0, v1, v2] := by cases args; simp_all
  obtain ⟨rfl, rfl⟩ := trodVars_none hV
  obtain ⟨l0, R0⟩ := open_bols (hval 0 25 v0 rfl rfl) h0
  obtain ⟨l1, R1⟩ := open_bols (hval 1 25 v1 rfl rfl) h1
  obtain ⟨a2, rfl, rfl, rfl, w2⟩ := open_int Try.underlying3 (hval 2 3 v2 rfl rfl) h2
  clear hA0 hval0
  refine (walk W v0 l0 v1 l1 a2 R0 R1 w2).mono fun e W' ⟨he, hg⟩ => ?_
  subst he
  exact ⟨_, rfl, post_up laidOut readable rfl hW' (fun _ _ _ => (trodAll_cons_mk (shut_bool Try.underlying4 _) trodAll_mk0)) rfl rfl
    hg (ok_one (by kernel_rfl) rfl (okWide_bool_mk Try.underlying4 _))⟩

theorem over : Rows.blockMarksRow.holds Try.pinned (OpenSpec.ofChange Rows.blockMarksSpec) :=
  OpenClaim.holds_of_wide 10 Try.f10 rfl rfl rfl rfl rfl rfl rfl ⟨rfl, rfl, rfl, rfl, rfl⟩ rfl rfl rfl rfl rfl (by kernel_rfl) Try.func10 (by kernel_rfl)
    (of_decide_eq_true (by kernel_rfl)) (by unfold Func.isWrapper; first | (rw [if_pos (by decide +kernel)]; kernel_rfl) | (rw [if_neg (by decide +kernel)]; exact ⟨rfl, rfl⟩))
    (fun os started H enc _ => lifted os started H enc)

theorem proved : Rows.BlockMarksSaid :=
  over
end Go.Proofs.Ytoijaananjlfpaa.blockMarks
