/-
  TzifFirst answers true: from version 2 on any right block may stand in the first place. No condition.
-/
import Derived.Test.YtaljddoenjgbfaaLcShown7
import Derived.Test.YtaljddoenjgbfaaLcTzO
import Derived.Test.YtaljddoenjgbfaaLcTzW
import Derived.Test.YtaljddoenjgbfaaLcMp
import Derived.Test.YtaljddoenjgbfaaLcMm
import Derived.Test.YtaljddoenjgbfaaLcOps
import Derived.Test.YtaljddoenjgbfaaLcMs
import Derived.WalkKit
import Derived.Deep.RegionHeld
import Derived.BigQuiet
import Derived.ProofKit
import Derived.OpenShut
import Derived.Deep.CutRange
import Derived.StillTailTactics
namespace Go.Proofs.Ytaljddoenjgbfaa.tzifFirst
open Go.ChangeShapes Go.WideShapes Go.ChangeAt Go.RowKit Lc
set_option linter.unusedVariables false

set_option maxRecDepth 100000 in
theorem own : ownKnob Try.prog.godebug = none := by kernel_rfl

set_option maxRecDepth 100000 in
theorem mask1 (a : Int) : ∃ n : Nat, n < 2 ∧ bits .and .i64 a 1 = n := by
  refine ⟨(BitVec.ofInt 64 a).toNat &&& 1, ?_, ?_⟩
  · have := Nat.and_le_right (n := (BitVec.ofInt 64 a).toNat) (m := 1); omega
  · have l := Nat.and_le_right (n := (BitVec.ofInt 64 a).toNat) (m := 1)
    show IntKind.i64.wrap (((BitVec.ofInt 64 a &&& BitVec.ofInt 64 1).toNat : Nat) : Int) = _
    rw [BitVec.toNat_and, show (BitVec.ofInt 64 1).toNat = 1 from by decide]
    exact IntWalk.i64_in _ (by omega)
set_option maxRecDepth 100000 in
theorem enc_51 {f : Fil} (h : f.ver ≠ 1) : 52 ≤ (encF f).length := by
  unfold encF
  rw [if_neg h, List.length_append, List.length_append, part_len, part_len, shB_len']; omega
set_option maxRecDepth 100000 in
theorem first_len {Y : Blk} {f : Fil} {v : Int} (hy : small ⟨1, Y, ⟨#[]⟩⟩) (ry : rightB Y ((4 : Nat) : Int) 1 = true) (hf : small f) (rf : rightF f = true) : (partB Y 4 v ++ (encF f).drop 51).length ≤ 100000 := by
  have a := encL_small (z := 4) (.inl rfl) ry ⟨hy.1, hy.2.1, hy.2.2.1, hy.2.2.2.1, hy.2.2.2.2.1⟩
  have b := enc_small hf rf
  rw [List.length_append, part_len, List.length_drop]; omega
set_option maxRecDepth 100000 in
theorem no_true {b : Bool} (h : b = false) : ¬ b = true := by rw [h]; decide
set_option maxRecDepth 100000 in
theorem cons_of' {l : List Value} {n : Nat} (h : l.length = n + 1) : ∃ x l', l = x :: l' ∧ l'.length = n := cons_of h
set_option maxRecDepth 100000 in
theorem rd_rc {w : World} {A : Option Addr} {l : List UInt8} (h : Rd w A l) : Rc w A (bc l) := fun h0 => by
  rw [bc_len] at h0
  obtain ⟨b, o, e, hc⟩ := h h0
  refine ⟨b, o, e, fun i v hi => ?_⟩
  have lt : i < l.length := by
    rcases Nat.lt_or_ge i l.length with g | g
    · exact g
    · rw [List.getElem?_eq_none (by rw [bc_len]; exact g)] at hi; cases hi
  rw [hc i lt, ← hi, bc_get lt]
set_option maxRecDepth 100000 in
theorem ex_appU (w : World) (a : Act) (o : Oper) (base : Nat) (t s : Tmp) (g : Nat) (h : a.tmps.getD t undef = .slice (some ⟨g, 0, none⟩) 0 0) (hown : w.ownsRow base 5 1 (.slice (some ⟨g, 0, none⟩) 0 0) 0 [])
    (A : Option Addr) (m c : Nat) (l : List UInt8) (hs : a.tmps.getD s undef = .slice A m c) (hl : l.length = m) (hr : Rd w A l) (hm : m ≤ 1000000) (hbase : base ≤ w.heap.size)
    (ho : o.op = .call { callee := .builtin .append, args := #[.tmp t, .tmp s], argTypes := #[32, 32] }) :
    ∃ v' w', (execOp a.eval o).run Try.prog w = .ok (.value v') w' ∧ Ow w' base v' l ∧ Up w w' := by
  obtain ⟨i0, hi, hz0, hz1, hz2⟩ := info_parts byteInfo
  obtain ⟨v', w', hrun, h2, h3⟩ := append_new w Try.prog base 32 o.type 5 i0 (.int .u8 0) 1 1 Try.underlying32 hi hz0 hz1 hz2 rfl (by decide) g hown A m c (bc l) (by rw [bc_len, hl, Nat.mul_one]) (rd_rc hr) bc_one (by unfold maxLen; omega) (by omega) hbase
  refine ⟨v', w', ?_, by subst hl; exact h2, h3⟩
  have e1 : a.eval (.tmp t) = .slice (some ⟨g, 0, none⟩) 0 0 := h
  have e2 : a.eval (.tmp s) = .slice A m c := hs
  unfold execOp
  simp only [ho, resolve, invoke, builtin, Sem.run_bind, Sem.run_pure, Result.andThen_ok, List.map_toArray, List.map_cons, List.map_nil, e1, e2, hrun]
set_option maxRecDepth 100000 in
theorem ex_cut51 (w : World) (a : Act) (o : Oper) (t : Tmp) (g q n c : Nat) (hn : 52 ≤ n) (hc : n ≤ c) (h : a.tmps.getD t undef = .slice (some ⟨g, q, none⟩) n c) (ho : o.op = .slice 32 (.tmp t) (some (.const (.int .i64 51))) none none) :
    (execOp a.eval o).run Try.prog w = .ok (.value (.slice (some ⟨g, q + 51, none⟩) (n - 51) (c - 51))) w := by
  have b1 : (51 : Int) ≤ (n : Int) := by omega
  have b3 : ¬ c = 51 := by omega
  unfold execOp; rw [ho]; simp [go_sem, tg h, b1, b3]
set_option maxRecDepth 100000 in
theorem ex_boxF (w : World) (a : Act) (o : Oper) (ho : o.op = .alloc 29) : (execOp a.eval o).run Try.prog w = .ok (.value (.pointer (some ⟨w.heap.size, 0, none⟩))) (w.alloc (.cells #[.int .i64 0, .slice none 0 0, .slice none 0 0, .slice none 0 0, .slice none 0 0, .slice none 0 0, .string ⟨#[]⟩] 29)) := by
  unfold execOp; rw [ho]; simp [go_sem]
set_option maxRecDepth 100000 in
theorem call_tdec (args : Array Value) (w : World) : (callFunc 12 args).run Try.prog w = .ok (.enter 12 args) w := by
  unfold callFunc
  simp only [Sem.run_bind, run_program, Result.andThen_ok, Try.func12]
  rfl
set_option maxRecDepth 100000 in
theorem wp_call1 (w : World) (a : Act) (o : Oper) (f : FuncId) (hf : ∀ args w, (callFunc f args).run Try.prog w = .ok (.enter f args) w) (t1 : Tmp) (v1 : Value) (tys : Array TypeId) (ho : o.op = .call { callee := .value (.func f), args := #[.tmp t1], argTypes := tys }) (h1 : a.tmps.getD t1 undef = v1)
    {K : Act → World → Prop} {Q : Exit → Act → World → Prop} (c : Calls Try.prog f #[v1] w fun e w' => ∃ v, e = .returned v ∧ K (a.put o.dst v) w') : o.wp Try.prog a w K Q := by
  unfold Oper.wp execOp
  rw [ho]
  simp [go_sem, tg h1]
  rw [hf, Oper.upon_enter]
  exact c.mono fun e w' ⟨v, he, hk⟩ => by subst he; exact hk
set_option maxRecDepth 100000 in
theorem wp_stoF (w : World) (a : Act) (o : Oper) (t s : Tmp) (b : Nat) (i : Int) (st : ByteArray) (P0 P1 P2 P3 P4 : Option Addr) (n0 n1 n2 n3 n4 d0 d1 d2 d3 d4 : Nat) (h3 : a.tmps.getD t undef = .pointer (some ⟨b, 0, none⟩)) (h50 : a.tmps.getD s undef = .agg #[.int .i64 i, .slice P0 n0 d0, .slice P1 n1 d1, .slice P2 n2 d2, .slice P3 n3 d3, .slice P4 n4 d4, .string st])
    {x0 x1 x2 x3 x4 x5 x6 : Value} (hx : Bx7 w b x0 x1 x2 x3 x4 x5 x6) (hf : Free w b) (hd : o.dst = none) (ho : o.op = .store 29 (.tmp t) (.tmp s)) {K : Act → World → Prop} {Q : Exit → Act → World → Prop}
    (k : K a (seven w b (.int .i64 i) (.slice P0 n0 d0) (.slice P1 n1 d1) (.slice P2 n2 d2) (.slice P3 n3 d3) (.slice P4 n4 d4) (.string st))) : o.wp Try.prog a w K Q := by
  obtain ⟨e0, e1, e2, e3, e4, e5, e6⟩ := hx
  have f0 := hf.2 0; have f1 := hf.2 1; have f2 := hf.2 2; have f3 := hf.2 3; have f4 := hf.2 4; have f5 := hf.2 5; have f6 := hf.2 6
  unfold Oper.wp execOp
  rw [ho]
  simp [go_sem, tg h3, tg h50, e0, e1, e2, e3, e4, e5, e6, f0, f1, f2, f3, f4, f5, f6, Oper.upon, Act.put, hd]
  exact k
set_option maxRecDepth 100000 in
/-- A box of a zero file: what is no such value, at such a place, does not lie there. -/
theorem rc_box7 {w : World} {A : Option Addr} {vs : List Value} (h : Rc w A vs) {b : Nat} {t : TypeId} (hb : w.heap[b]? = some (.cells #[.int .i64 0, .slice none 0 0, .slice none 0 0, .slice none 0 0, .slice none 0 0, .slice none 0 0, .string ⟨#[]⟩] t (0, 0)))
    (hn : 0 < vs.length → ∃ i u, vs[i]? = some u ∧ (∀ q : Nat, (q = 0 → i ≠ 0 ∨ u ≠ .int .i64 0)) ∧ u ≠ .slice none 0 0 ∧ u ≠ .string ⟨#[]⟩) (v0 v1 v2 v3 v4 v5 v6 : Value) : Rc (seven w b v0 v1 v2 v3 v4 v5 v6) A vs := fun h0 => by
  obtain ⟨g, o, e, hc⟩ := h h0
  have ne : b ≠ g := fun c => by
    subst c
    obtain ⟨i, u, hi, hq, h1, h2⟩ := hn h0
    have hcell := hc i u hi
    simp only [World.cell?, hb] at hcell
    have key : ∀ q : Nat, (#[Value.int .i64 0, .slice none 0 0, .slice none 0 0, .slice none 0 0, .slice none 0 0, .slice none 0 0, .string ⟨#[]⟩] : Array Value)[q]? = some u → q = 0 ∧ u = .int .i64 0 := fun q hq => by
      have : q = 0 ∨ q = 1 ∨ q = 2 ∨ q = 3 ∨ q = 4 ∨ q = 5 ∨ q = 6 ∨ 7 ≤ q := by omega
      rcases this with rfl | rfl | rfl | rfl | rfl | rfl | rfl | h5
      · exact ⟨rfl, (Option.some.inj hq).symm⟩
      · exact absurd (Option.some.inj hq).symm h1
      · exact absurd (Option.some.inj hq).symm h1
      · exact absurd (Option.some.inj hq).symm h1
      · exact absurd (Option.some.inj hq).symm h1
      · exact absurd (Option.some.inj hq).symm h1
      · exact absurd (Option.some.inj hq).symm h2
      · rw [Array.getElem?_eq_none (by simpa using h5)] at hq; cases hq
    obtain ⟨k1, k2⟩ := key (o + i) (by simpa using hcell)
    rcases hq 0 rfl with hh | hh
    · omega
    · exact hh k2
  refine ⟨g, o, e, fun i v hi => ?_⟩
  have hcell := hc i v hi
  have oth : ∀ (W : World) (j : Nat) (u : Value), (W.setCell ⟨b, j, none⟩ u).cell? ⟨g, o + i, none⟩ = W.cell? ⟨g, o + i, none⟩ := fun W j u => World.cell?_setCell_other _ _ _ _ (fun c => ne (by injection c))
  show (seven w b v0 v1 v2 v3 v4 v5 v6).cell? ⟨g, o + i, none⟩ = some v
  rw [oth, oth, oth, oth, oth, oth, oth]
  exact hcell
set_option maxRecDepth 100000 in
theorem fl_box7 {w : World} {v : Value} {f : Fil} (h : FlR w v f) {b : Nat} {t : TypeId} (hb : w.heap[b]? = some (.cells #[.int .i64 0, .slice none 0 0, .slice none 0 0, .slice none 0 0, .slice none 0 0, .slice none 0 0, .string ⟨#[]⟩] t (0, 0))) (v0 v1 v2 v3 v4 v5 v6 : Value) : FlR (seven w b v0 v1 v2 v3 v4 v5 v6) v f := by
  obtain ⟨_, _, _, _, _, rfl, _, _, _, _, _, he, ⟨A0, c0, rfl, m0, n0, r0⟩, ⟨A1, c1, rfl, m1, n1, r1⟩, ⟨A2, c2, rfl, m2, n2, r2⟩, ⟨A3, c3, rfl, m3, n3, r3⟩, ⟨A4, c4, rfl, m4, n4, r4⟩⟩ := h
  simp only [Value.agg.injEq, Array.mk.injEq, List.cons.injEq, and_true] at he
  obtain ⟨rfl, rfl, rfl, rfl, rfl⟩ := he
  have hk : 0 < (kc f.blk.ks).length → ∃ i u, (kc f.blk.ks)[i]? = some u ∧ (∀ q : Nat, (q = 0 → i ≠ 0 ∨ u ≠ .int .i64 0)) ∧ u ≠ .slice none 0 0 ∧ u ≠ .string ⟨#[]⟩ := fun h => by
    rw [kc_len] at h
    obtain ⟨a, b, c⟩ := kc_get (show 0 < f.blk.ks.length by omega)
    exact ⟨_, _, b, fun _ _ => .inr (fun h => by cases h), (fun h => by cases h), (fun h => by cases h)⟩
  have hj : 0 < (jc f.blk.js).length → ∃ i u, (jc f.blk.js)[i]? = some u ∧ (∀ q : Nat, (q = 0 → i ≠ 0 ∨ u ≠ .int .i64 0)) ∧ u ≠ .slice none 0 0 ∧ u ≠ .string ⟨#[]⟩ := fun h => by
    rw [jc_len] at h
    obtain ⟨a, b⟩ := jc_get (show 0 < f.blk.js.length by omega)
    exact ⟨_, _, b, fun _ _ => .inl (by omega), (fun h => by cases h), (fun h => by cases h)⟩
  have hl : 0 < (lc f.blk.ls).length → ∃ i u, (lc f.blk.ls)[i]? = some u ∧ (∀ q : Nat, (q = 0 → i ≠ 0 ∨ u ≠ .int .i64 0)) ∧ u ≠ .slice none 0 0 ∧ u ≠ .string ⟨#[]⟩ := fun h => by
    rw [lc_len] at h
    obtain ⟨a, b⟩ := lc_get (show 0 < f.blk.ls.length by omega)
    exact ⟨_, _, b, fun _ _ => .inl (by omega), (fun h => by cases h), (fun h => by cases h)⟩
  have hm : ∀ bs : List Bool, 0 < (oc bs).length → ∃ i u, (oc bs)[i]? = some u ∧ (∀ q : Nat, (q = 0 → i ≠ 0 ∨ u ≠ .int .i64 0)) ∧ u ≠ .slice none 0 0 ∧ u ≠ .string ⟨#[]⟩ := fun bs h => by
    rw [oc_len] at h
    exact ⟨0, .bool (bs.getD 0 false), by simp [oc, h], fun _ _ => .inr (fun h => by cases h), (fun h => by cases h), (fun h => by cases h)⟩
  exact ⟨_, _, _, _, _, rfl, _, _, _, _, _, rfl, ⟨A0, c0, rfl, m0, n0, rc_box7 r0 hb hk _ _ _ _ _ _ _⟩, ⟨A1, c1, rfl, m1, n1, rc_box7 r1 hb hj _ _ _ _ _ _ _⟩, ⟨A2, c2, rfl, m2, n2, rc_box7 r2 hb hl _ _ _ _ _ _ _⟩, ⟨A3, c3, rfl, m3, n3, rc_box7 r3 hb (hm _) _ _ _ _ _ _ _⟩, ⟨A4, c4, rfl, m4, n4, rc_box7 r4 hb (hm _) _ _ _ _ _ _ _⟩⟩
/-- What is known of the slots. -/
def rG (base : Nat) (sb sa sc : Value) (D R : List UInt8) (F : Fil) (t : Nat) (v : Value) (w : World) : Prop :=
  if t = 57 then ∃ g, v = .slice (some ⟨g, 0, none⟩) 0 0 ∧ w.ownsRow base 5 1 (.slice (some ⟨g, 0, none⟩) 0 0) 0 []
  else if t = 58 then v = sb
  else if t = 59 then Ow w base v D
  else if t = 60 then v = sa
  else if t = 61 then v = sc
  else if t = 62 then Ow w base v (D ++ R)
  else if t = 63 ∨ t = 56 then ∃ v', v = .tuple #[v', .int .i64 0] ∧ FlR w v' F
  else if t = 64 then FlR w v F
  else if t = 11 then ∃ b, v = .pointer (some ⟨b, 0, none⟩) ∧ base ≤ b ∧ w.heap[b]? = some (.cells #[.int .i64 0, .slice none 0 0, .slice none 0 0, .slice none 0 0, .slice none 0 0, .slice none 0 0, .string ⟨#[]⟩] 29 (0, 0))
  else if t = 65 ∨ t = 12 then v = .int .i64 0
  else True
def rN (t : Nat) (v : Value) : Prop := if t = 63 ∨ t = 56 then ∃ v', v = .tuple #[v', .int .i64 0] else if t = 65 ∨ t = 12 then v = .int .i64 0 else True
def rT (W : World) (F : Fil) (a : Act) (w : World) : Prop := ∃ b S0 s0 T0 S1 s1 T1 S2 s2 T2 S3 s3 T3 S4 s4 T4, a.tmps.getD 11 undef = .pointer (some ⟨b, 0, none⟩) ∧ Bx7 w b (.int .i64 F.ver) (.slice S0 s0 T0) (.slice S1 s1 T1) (.slice S2 s2 T2) (.slice S3 s3 T3) (.slice S4 s4 T4) (.string F.foot) ∧ FlR w (.agg #[.int .i64 F.ver, .slice S0 s0 T0, .slice S1 s1 T1, .slice S2 s2 T2, .slice S3 s3 T3, .slice S4 s4 T4, .string F.foot]) F ∧ Up W w
set_option maxRecDepth 100000 in
theorem rG_up {base : Nat} {sb sa sc : Value} {D R : List UInt8} {F : Fil} (t : Nat) (v : Value) (w w' : World) (h : rG base sb sa sc D R F t v w) (u : Up w w') : rG base sb sa sc D R F t v w' := by
  unfold rG at *
  by_cases t0 : t = 57
  · rw [if_pos t0] at h ⊢; obtain ⟨g, h1, h2⟩ := h; exact ⟨g, h1, row_up h2 u⟩
  rw [if_neg t0] at h ⊢
  by_cases t1 : t = 58
  · rw [if_pos t1] at h ⊢; exact h
  rw [if_neg t1] at h ⊢
  by_cases t2 : t = 59
  · rw [if_pos t2] at h ⊢; exact Ow.up h u
  rw [if_neg t2] at h ⊢
  by_cases t3 : t = 60
  · rw [if_pos t3] at h ⊢; exact h
  rw [if_neg t3] at h ⊢
  by_cases t4 : t = 61
  · rw [if_pos t4] at h ⊢; exact h
  rw [if_neg t4] at h ⊢
  by_cases t5 : t = 62
  · rw [if_pos t5] at h ⊢; exact Ow.up h u
  rw [if_neg t5] at h ⊢
  by_cases t6 : t = 63 ∨ t = 56
  · rw [if_pos t6] at h ⊢; obtain ⟨v', h1, h2⟩ := h; exact ⟨v', h1, h2.up u⟩
  rw [if_neg t6] at h ⊢
  by_cases t7 : t = 64
  · rw [if_pos t7] at h ⊢; exact FlR.up h u
  rw [if_neg t7] at h ⊢
  by_cases t8 : t = 11
  · rw [if_pos t8] at h ⊢; obtain ⟨b, h1, h2, h3⟩ := h; exact ⟨b, h1, h2, heap_up u h3⟩
  rw [if_neg t8] at h ⊢
  by_cases t9 : t = 65 ∨ t = 12
  · rw [if_pos t9] at h ⊢; exact h
  rw [if_neg t9] at h ⊢
  exact h
set_option maxRecDepth 100000 in
theorem rG_N {base : Nat} {sb sa sc : Value} {D R : List UInt8} {F : Fil} (t : Nat) (v : Value) (w : World) (h : rG base sb sa sc D R F t v w) : rN t v := by
  unfold rN
  by_cases t7 : t = 63 ∨ t = 56
  · rw [if_pos t7]
    unfold rG at h
    rw [if_neg (by omega), if_neg (by omega), if_neg (by omega), if_neg (by omega), if_neg (by omega), if_neg (by omega), if_pos t7] at h
    obtain ⟨v', h1, _⟩ := h
    exact ⟨v', h1⟩
  rw [if_neg t7]
  by_cases t8 : t = 65 ∨ t = 12
  · rw [if_pos t8]
    unfold rG at h
    rw [if_neg (by omega), if_neg (by omega), if_neg (by omega), if_neg (by omega), if_neg (by omega), if_neg (by omega), if_neg t7, if_neg (by omega), if_neg (by omega), if_pos t8] at h
    exact h
  rw [if_neg t8]
  trivial

set_option maxHeartbeats 4000000 in
set_option maxRecDepth 100000 in
theorem walk (w : World) (v0 : Value) (f0 : Fil) (v1 : Value) (x1 : Blk) (r0 : FlR w v0 f0) (b0 : BI f0.blk) (u0 : (Lit.int .i64 f0.ver).wf = true) (s0 : f0.foot.size ≤ maxLen) (r1 : BkR w v1 x1) (b1 : BI x1) :
    Calls Try.prog 4 #[v0, v1] w fun e w' => e = .returned (.bool true) ∧ Up w w' := by
  have FW := Lib.hid (fun w1 (u : Up w w1) => few7_any v0 f0 w1 (r0.up u))
  have sm := Lib.hid (cutF_small f0)
  have hbi := Lib.hid (show BI (cutF f0).blk from cut_bi b0)
  obtain ⟨vv, X, s, hF⟩ : ∃ vv X s, cutF f0 = ⟨vv, X, s⟩ := ⟨_, _, _, rfl⟩
  rw [hF] at FW sm hbi
  obtain ⟨A0, n0, c0, A1, n1, c1, A2, n2, c2, A3, n3, c3, A4, n4, c4, rfl, _⟩ := r0.form
  generalize f0.ver = v1 at *
  generalize f0.foot = s1 at *
  have BX := Lib.hid (Bx7.new w (.int .i64 v1) (.slice A0 n0 c0) (.slice A1 n1 c1) (.slice A2 n2 c2) (.slice A3 n3 c3) (.slice A4 n4 c4) (.string s1) 29)
  have FX := Lib.hid (Free.new w #[.int .i64 v1, .slice A0 n0 c0, .slice A1 n1 c1, .slice A2 n2 c2, .slice A3 n3 c3, .slice A4 n4 c4, .string s1] 29)
  have U0 := Lib.hid (Up.alloc w (.cells #[.int .i64 v1, .slice A0 n0 c0, .slice A1 n1 c1, .slice A2 n2 c2, .slice A3 n3 c3, .slice A4 n4 c4, .string s1] 29))
  have RX := Lib.hid r1
  have hbx := Lib.hid (show BI (cutF ⟨1, x1, ⟨#[]⟩⟩).blk from cut_bi (x := x1) b1)
  obtain ⟨M0, m0, h0, M1, m1, h1, M2, m2, h2, M3, m3, h3, M4, m4, h4, rfl⟩ := r1.form
  have U0' := Lib.hid (U0.out.alloc' (.cells #[.slice M0 m0 h0, .slice M1 m1 h1, .slice M2 m2 h2, .slice M3 m3 h3, .slice M4 m4 h4] 27))
  clear r0 b0 u0 s0 hF r1 b1
  go_enter Try.func4, Try.ntmps4
  go_wp2_with fail
  obtain ⟨W0, hW0⟩ : ∃ W, ((w.alloc (.cells #[.int .i64 v1, .slice A0 n0 c0, .slice A1 n1 c1, .slice A2 n2 c2, .slice A3 n3 c3, .slice A4 n4 c4, .string s1] 29)).alloc (.cells #[.slice M0 m0 h0, .slice M1 m1 h1, .slice M2 m2 h2, .slice M3 m3 h3, .slice M4 m4 h4] 27)) = W := ⟨_, rfl⟩
  have C0 : Hid (Bx5 W0 (w.heap.size + 1) (.slice M0 m0 h0) (.slice M1 m1 h1) (.slice M2 m2 h2) (.slice M3 m3 h3) (.slice M4 m4 h4)) := by
    have := Bx5.new (w.alloc (.cells #[.int .i64 v1, .slice A0 n0 c0, .slice A1 n1 c1, .slice A2 n2 c2, .slice A3 n3 c3, .slice A4 n4 c4, .string s1] 29)) (.slice M0 m0 h0) (.slice M1 m1 h1) (.slice M2 m2 h2) (.slice M3 m3 h3) (.slice M4 m4 h4) 27
    rw [hW0, World.size_alloc] at this
    exact this
  have u0' := Up.alloc (w.alloc (.cells #[.int .i64 v1, .slice A0 n0 c0, .slice A1 n1 c1, .slice A2 n2 c2, .slice A3 n3 c3, .slice A4 n4 c4, .string s1] 29)) (.cells #[.slice M0 m0 h0, .slice M1 m1 h1, .slice M2 m2 h2, .slice M3 m3 h3, .slice M4 m4 h4] 27)
  replace BX := Lib.hid (BX.out.up u0')
  replace FX := Lib.hid (FX.out.up u0')
  have lt0 : Hid (w.heap.size + 1 < W0.heap.size) := by rw [← hW0, World.size_alloc, World.size_alloc]; exact Lib.hid (by omega)
  rw [hW0] at BX FX U0' ⊢
  clear u0' U0 hW0
  refine (shown7_any _).mono ?_; rintro e w1 ⟨rfl, u1⟩
  have U1 := Lib.hid (U0'.out.trans u1)
  have B1 := Lib.hid (BX.out.up u1)
  have F1 := Lib.hid (FX.out.up u1)
  have C1 := Lib.hid (C0.out.up u1)
  have lt1 := lt0.out
  have hs1 := u1.size
  clear u1 BX FX U0' C0 lt0
  obtain ⟨a0, a1, a2, a3, a4, a5, a6⟩ := B1.out
  go_wp2_with fail
  clear a0 a1 a2 a3 a4 a5 a6
  refine (FW.out _ U1.out).mono ?_; rintro e w2 ⟨v2, rfl, o2, u2⟩
  obtain ⟨P0, q0, d0, P1, q1, d1, P2, q2, d2, P3, q3, d3, P4, q4, d4, rfl, k2⟩ := o2.form
  simp only at k2 ⊢
  obtain ⟨n, hn, mn⟩ := mask1 vv
  have wn : IntKind.i64.wrap (2 + (n : Int)) = 2 + (n : Int) := IntWalk.i64_in _ (by omega)
  have ltB : w.heap.size < w1.heap.size := by omega
  have hBC : w.heap.size ≠ w.heap.size + 1 := by omega
  have K3 := Lib.hid ((k2.low7 ltB (.int .i64 vv) (.slice P0 q0 d0) (.slice P1 q1 d1) (.slice P2 q2 d2) (.slice P3 q3 d3) (.slice P4 q4 d4) (.string s)).set1 ltB 0 (.int .i64 (2 + (n : Int))))
  have B3 := Lib.hid ((Bx7.seven (B1.out.up u2) (.int .i64 vv) (.slice P0 q0 d0) (.slice P1 q1 d1) (.slice P2 q2 d2) (.slice P3 q3 d3) (.slice P4 q4 d4) (.string s)).set0 (.int .i64 (2 + (n : Int))))
  have C3 := Lib.hid (Bx5.far (o := 0) (u := .int .i64 (2 + (n : Int))) (Bx5.far (o := 6) (u := .string s) (Bx5.far (o := 5) (u := .slice P4 q4 d4) (Bx5.far (o := 4) (u := .slice P3 q3 d3) (Bx5.far (o := 3) (u := .slice P2 q2 d2) (Bx5.far (o := 2) (u := .slice P1 q1 d1) (Bx5.far (o := 1) (u := .slice P0 q0 d0) (Bx5.far (o := 0) (u := .int .i64 vv) (C1.out.up u2) hBC) hBC) hBC) hBC) hBC) hBC) hBC) hBC)
  have U3 := Lib.hid (set_up (Up.seven (U1.out.trans u2) (Nat.le_refl _) (.int .i64 vv) (.slice P0 q0 d0) (.slice P1 q1 d1) (.slice P2 q2 d2) (.slice P3 q3 d3) (.slice P4 q4 d4) (.string s)) (Nat.le_refl _) 0 (.int .i64 (2 + (n : Int))))
  obtain ⟨a0, a1, a2, a3, a4, a5, a6⟩ := B1.out.up u2
  obtain ⟨_, fz⟩ := F1.out.up u2
  obtain ⟨g0, g1, g2, g3, g4⟩ := C3.out
  have z0 := fz 0; have z1 := fz 1; have z2 := fz 2; have z3 := fz 3; have z4 := fz 4; have z5 := fz 5; have z6 := fz 6
  clear fz o2 u2 k2 B1 F1 C1 U1 FW
  go_upto_region 4 with (fail)
  obtain ⟨V3, hV3⟩ : ∃ V, ((((((((w2.setCell ⟨w.heap.size, 0, none⟩ (.int .i64 vv)).setCell ⟨w.heap.size, 1, none⟩ (.slice P0 q0 d0)).setCell ⟨w.heap.size, 2, none⟩ (.slice P1 q1 d1)).setCell ⟨w.heap.size, 3, none⟩ (.slice P2 q2 d2)).setCell ⟨w.heap.size, 4, none⟩ (.slice P3 q3 d3)).setCell ⟨w.heap.size, 5, none⟩ (.slice P4 q4 d4)).setCell ⟨w.heap.size, 6, none⟩ (.string s)).setCell ⟨w.heap.size, 0, none⟩ (.int .i64 (2 + (n : Int)))) = V := ⟨_, rfl⟩
  rw [hV3]
  replace K3 : Hid (OwB V3 w1.heap.size (.agg #[.slice P0 q0 d0, .slice P1 q1 d1, .slice P2 q2 d2, .slice P3 q3 d3, .slice P4 q4 d4]) X) := by rw [← hV3]; exact K3
  replace B3 : Hid (Bx7 V3 w.heap.size (.int .i64 (2 + (n : Int))) (.slice P0 q0 d0) (.slice P1 q1 d1) (.slice P2 q2 d2) (.slice P3 q3 d3) (.slice P4 q4 d4) (.string s)) := by rw [← hV3]; exact B3
  replace C3 : Hid (Bx5 V3 (w.heap.size + 1) (.slice M0 m0 h0) (.slice M1 m1 h1) (.slice M2 m2 h2) (.slice M3 m3 h3) (.slice M4 m4 h4)) := by rw [← hV3]; exact C3
  replace U3 : Hid (Up w V3) := by rw [← hV3]; exact U3
  clear hV3 a0 a1 a2 a3 a4 a5 a6 z0 z1 z2 z3 z4 z5 z6 g0 g1 g2 g3 g4 hs1
  obtain ⟨g0, g1, g2, g3, g4⟩ := C3.out
  have FY := Lib.hid (few7_any _ ⟨1, x1, ⟨#[]⟩⟩ V3 (FlR.of (RX.out.up U3.out) 1 ⟨#[]⟩))
  have smY := Lib.hid (cutF_small ⟨1, x1, ⟨#[]⟩⟩)
  rw [show cutF ⟨1, x1, ⟨#[]⟩⟩ = ⟨1, cutB x1, ⟨#[]⟩⟩ from rfl] at FY hbx smY
  generalize cutB x1 = Y at *
  go_wp2_with fail
  refine FY.out.mono ?_; rintro e w4 ⟨v4, rfl, o4, u4⟩
  obtain ⟨Q0, y0, t0, Q1, y1, t1, Q2, y2, t2, Q3, y3, t3, Q4, y4, t4, rfl, k4⟩ := o4.form
  simp only at k4 ⊢
  have uc := Up.alloc w4 (.cells #[.int .i64 1, .slice Q0 y0 t0, .slice Q1 y1 t1, .slice Q2 y2 t2, .slice Q3 y3 t3, .slice Q4 y4 t4, .string ⟨#[]⟩] 29)
  have X4 := Lib.hid (Bx7.new w4 (.int .i64 1) (.slice Q0 y0 t0) (.slice Q1 y1 t1) (.slice Q2 y2 t2) (.slice Q3 y3 t3) (.slice Q4 y4 t4) (.string ⟨#[]⟩) 29)
  have u34 := u4.trans uc
  have L4 := Lib.hid (FlR.of (k4.up uc).rd 1 ⟨#[]⟩)
  have B4 := Lib.hid (B3.out.up u34)
  have U4 := Lib.hid (U3.out.trans u34)
  have K4 := Lib.hid (FlR.of (K3.out.up u34).rd (2 + (n : Int)) s)
  obtain ⟨b0, b1', b2, b3, b4, b5, b6⟩ := B4.out
  have bz : (w4.alloc (.cells #[.int .i64 1, .slice Q0 y0 t0, .slice Q1 y1 t1, .slice Q2 y2 t2, .slice Q3 y3 t3, .slice Q4 y4 t4, .string ⟨#[]⟩] 29)).frozen? ⟨w4.heap.size, 6, none⟩ = false := (Free.new _ _ _).2 6
  clear u4 u34 uc o4 k4 FY C3 RX g0 g1 g2 g3 g4 U3 K3 B3
  go_wp2_with fail
  clear b0 b1' b2 b3 b4 b5 b6 bz
  generalize w4.alloc (.cells #[.int .i64 1, .slice Q0 y0 t0, .slice Q1 y1 t1, .slice Q2 y2 t2, .slice Q3 y3 t3, .slice Q4 y4 t4, .string ⟨#[]⟩] 29) = V4 at *
  generalize w4.heap.size = C at *
  have sF : small ⟨2 + (n : Int), X, s⟩ := sm.out
  obtain ⟨tf, htf⟩ : ∃ t, toldB ⟨2 + (n : Int), X, s⟩ = t := ⟨_, rfl⟩
  obtain ⟨ty, hty⟩ : ∃ t, toldB ⟨1, Y, ⟨#[]⟩⟩ = t := ⟨_, rfl⟩
  cases tf
  · have NF := Lib.hid (tencode_no _ ⟨2 + (n : Int), X, s⟩ _ K4.out htf)
    refine NF.out.mono ?_; rintro e w5 ⟨rfl, u5⟩
    have U5 := Lib.hid (U4.out.trans u5)
    have L5 := Lib.hid (L4.out.up u5)
    obtain ⟨x0, x1', x2, x3, x4, x5, x6⟩ := X4.out.up u5
    clear u5 U4 L4 X4 K4
    go_wp2_with fail
    clear x0 x1' x2 x3 x4 x5 x6
    cases ty
    · have NY := Lib.hid (tencode_no _ ⟨1, Y, ⟨#[]⟩⟩ _ L5.out hty)
      refine NY.out.mono ?_; rintro e w6 ⟨rfl, u6⟩
      go_wp2_with fail
      go_ret
      exact ⟨rfl, U5.out.trans u6⟩
    · have YY := Lib.hid (tencode_yes _ ⟨1, Y, ⟨#[]⟩⟩ _ L5.out hty)
      refine YY.out.mono ?_; rintro e w6 ⟨v6, rfl, o6, u6⟩
      obtain ⟨A6, c6, rfl, _⟩ := o6.form
      clear o6
      generalize (encF ⟨1, Y, ⟨#[]⟩⟩).length = l6 at *
      go_wp2_with fail
      go_ret
      exact ⟨rfl, U5.out.trans u6⟩
  · have YF := Lib.hid (tencode_yes _ ⟨2 + (n : Int), X, s⟩ _ K4.out htf)
    refine YF.out.mono ?_; rintro e w5 ⟨v5, rfl, o5, u5⟩
    obtain ⟨A5, c5, rfl, i5, j5, r5, _⟩ := o5.form
    have U5 := Lib.hid (U4.out.trans u5)
    have L5 := Lib.hid (L4.out.up u5)
    have B5 := Lib.hid (B4.out.up u5)
    have K5 := Lib.hid (K4.out.up u5)
    have R5 := Lib.hid r5
    obtain ⟨x0, x1', x2, x3, x4, x5, x6⟩ := X4.out.up u5
    clear u5 U4 L4 X4 K4 B4 o5 r5 YF
    have l51 := enc_51 (f := ⟨2 + (n : Int), X, s⟩) (show (2 + (n : Int)) ≠ 1 by omega)
    have rf := (told_right htf).1
    have ee := enc_small sF rf
    obtain ⟨E, hE⟩ : ∃ E, encF ⟨2 + (n : Int), X, s⟩ = E := ⟨_, rfl⟩
    have HE := Lib.hid hE
    rw [hE] at R5 l51 ee i5 ⊢
    clear hE
    obtain ⟨l5, hl5⟩ : ∃ l, E.length = l := ⟨_, rfl⟩
    have EL := Lib.hid hl5
    rw [hl5] at l51 ee i5 ⊢
    clear hl5
    go_wp2_with fail
    clear x0 x1' x2 x3 x4 x5 x6
    cases ty
    · have NY := Lib.hid (tencode_no _ ⟨1, Y, ⟨#[]⟩⟩ _ L5.out hty)
      refine NY.out.mono ?_; rintro e w6 ⟨rfl, u6⟩
      go_wp2_with fail
      go_ret
      exact ⟨rfl, U5.out.trans u6⟩
    · have YY := Lib.hid (tencode_yes _ ⟨1, Y, ⟨#[]⟩⟩ _ L5.out hty)
      have ry := (told_right hty).1
      have py := enc_pos ⟨1, Y, ⟨#[]⟩⟩
      have ey := enc_small smY.out ry
      have hy4 : rightB Y ((4 : Nat) : Int) 1 = true := by rw [rightF_one] at ry; simp only [Bool.and_eq_true] at ry; exact ry.2
      have HD : Hid (encF ⟨1, Y, ⟨#[]⟩⟩ = partB Y 4 1) := by unfold Hid encF; rw [if_pos rfl]
      have TF := td_first (f := ⟨2 + (n : Int), X, s⟩) hy4 hbx.out rf hbi.out (show (2 + (n : Int)) ≠ 1 by omega) (first_len smY.out hy4 sF rf)
      rw [HE.out] at TF
      have PV := part_ver Y 4 (v := 2 + (n : Int)) (by omega) 1
      simp only at TF
      rw [← PV, ← HD.out] at TF
      have DE : Hid (∀ w1 v, Sb w1 v ((encF ⟨1, Y, ⟨#[]⟩⟩).set 4 (UInt8.ofNat (48 + (2 + (n : Int)).toNat)) ++ E.drop 51) → Calls Try.prog 12 #[v] w1 fun e w' => DfP w1 0 ⟨2 + (n : Int), X, s⟩ e w') := Lib.hid (fun w1 v q => by
        have d := tdecode_any v _ w1 q
        rw [TF.1, TF.2] at d
        exact d)
      unfold DfP at DE
      have RF := Lib.hid (fun w1 v (q : FlR w1 v ⟨2 + (n : Int), X, s⟩) => ref7_any v ⟨2 + (n : Int), X, s⟩ w1 q)
      have SM := Lib.hid (fun w1 a b (ka : FlR w1 a ⟨2 + (n : Int), X, s⟩) (kb : FlR w1 b ⟨2 + (n : Int), X, s⟩) => same7_yes a b ⟨2 + (n : Int), X, s⟩ w1 ka kb)
      clear TF PV HD hy4 ry rf HE htf hty hbx hbi smY sF sm
      refine YY.out.mono ?_; rintro e w6 ⟨v6, rfl, o6, u6⟩
      generalize encF ⟨1, Y, ⟨#[]⟩⟩ = D at *
      obtain ⟨g6, c6, rfl, g60, g61, hc6, hcm6, bk6⟩ := o6.bk (by omega)
      obtain ⟨l6, hl6⟩ : ∃ l, D.length = l := ⟨_, rfl⟩
      have DL := Lib.hid hl6
      have K6 := Lib.hid bk6
      rw [hl6] at py ey hc6 ⊢
      clear hl6 bk6 o6 YY
      obtain ⟨z, hz⟩ : ∃ z, UInt8.ofNat (48 + (2 + (n : Int)).toNat) = z := ⟨_, rfl⟩
      have zn : (z.toNat : Int) = 48 + (2 + (n : Int)) := by rw [← hz, UInt8.toNat_ofNat']; omega
      have wz : IntKind.u8.wrap (48 + (2 + (n : Int))) = (z.toNat : Int) := by rw [zn]; rcases (show n = 0 ∨ n = 1 by omega) with rfl | rfl <;> rfl
      have wz6 : IntKind.i64.wrap (48 + (2 + (n : Int))) = 48 + (2 + (n : Int)) := IntWalk.i64_in _ (by omega)
      rw [hz] at DE
      obtain ⟨k4, f4⟩ := K6.out 4 (by rw [DL.out]; omega)
      have T7 := Lib.hid (K6.out.set (i := 4) (by rw [DL.out]; omega) z)
      have U57 := Lib.hid (u6.setCell' (p := ⟨g6, 4, none⟩) g60 (.int .u8 z.toNat))
      obtain ⟨b0, b1', b2, b3, b4, b5, b6⟩ := B5.out.up u6
      rw [zn] at T7 U57
      clear hz u6 K6
      go_upto_region 13 with (fail)
      have T7L : Hid ((D.set 4 z).length = l6) := by unfold Hid; rw [List.length_set]; exact DL.out
      have U7 := Lib.hid (U5.out.trans U57.out)
      have R7 := Lib.hid (R5.out.up U57.out)
      have B7 := Lib.hid (B5.out.up U57.out)
      have K7 := Lib.hid (K5.out.up U57.out)
      clear b0 b1' b2 b3 b4 b5 b6 k4 f4 U57 U5 R5 B5 K5 L5
      generalize w6.setCell ⟨g6, 4, none⟩ (.int .u8 (48 + (2 + (n : Int)))) = V7 at *
      generalize D.set 4 z = D' at *
      obtain ⟨g5, o5, rfl, _⟩ := R7.out (by rw [EL.out]; omega)
      have EL51 : Hid ((E.drop 51).length = l5 - 51) := by unfold Hid; rw [List.length_drop, EL.out]
      have R51 := Lib.hid (R7.out.drop 51)
      refine wp_region_own (s := 11) (late := fun i => i == 9 || i == 12) (G := rG V7.heap.size (Value.slice (some ⟨g6, 0, none⟩) l6 c6) (Value.slice (some ⟨g5, o5, none⟩) l5 c5) (Value.slice (some ⟨g5, o5 + 51, none⟩) (l5 - 51) (c5 - 51)) D' (E.drop 51) ⟨2 + (n : Int), X, s⟩) (N := rN) (T := rT V7 ⟨2 + (n : Int), X, s⟩) (by kernel_rfl) (by show (11 : Nat) < 13; decide) rfl (by kernel_rfl) (by kernel_rfl) (by kernel_rfl) rG_up rG_N ?step ?pure ?store ?keep ?fin
      case step =>
        intro i o his hla ho a w' u old pre
        have p9 : a.tmps.getD 9 undef = (Value.slice (some ⟨g6, 0, none⟩) l6 c6) := getD_some ((old 9 (by kernel_rfl)).trans rfl)
        have p7 : a.tmps.getD 7 undef = (Value.slice (some ⟨g5, o5, none⟩) l5 c5) := getD_some ((old 7 (by kernel_rfl)).trans rfl)
        clear old
        have hi := lt_of_get ho
        have hi' : i = 0 ∨ i = 1 ∨ i = 2 ∨ i = 3 ∨ i = 4 ∨ i = 5 ∨ i = 6 ∨ i = 7 ∨ i = 8 ∨ i = 9 ∨ i = 10 ∨ i = 11 ∨ i = 12 := by have : i < 13 := hi; omega
        rcases hi' with rfl | rfl | rfl | rfl | rfl | rfl | rfl | rfl | rfl | rfl | rfl | rfl | rfl
        · injection ho with ho; subst ho
          exact wp_run w' a _ (ex_newU w' a _ rfl) ⟨_, rfl, fun d hd => (by injection hd with hd; subst hd; exact (show ∃ g, _ from ⟨_, rfl, World.ownsRow_made w' #[] 0 u.size (Nat.zero_le _) rfl⟩)), u.alloc' _, .inl (Up.alloc _ _)⟩
        · injection ho with ho; subst ho
          exact wp_run w' a _ (ex_mov w' a _ 9 _ p9 rfl) ⟨_, rfl, fun d hd => (by injection hd with hd; subst hd; exact (show (Value.slice (some ⟨g6, 0, none⟩) l6 c6) = _ from rfl)), u, .inl (Up.refl _)⟩
        · injection ho with ho
          rw [← ho] at pre
          obtain ⟨g, hg, hown⟩ := (show ∃ g, a.tmps.getD 57 undef = .slice (some ⟨g, 0, none⟩) 0 0 ∧ w'.ownsRow V7.heap.size 5 1 (.slice (some ⟨g, 0, none⟩) 0 0) 0 [] from (pre ⟨0, .data⟩ (by simp) rfl _ 57 rfl rfl))
          obtain ⟨v', w'', h1, h2, h3⟩ := ex_appU w' a o V7.heap.size 57 58 g hg hown _ l6 c6 D' (show a.tmps.getD 58 undef = (Value.slice (some ⟨g6, 0, none⟩) l6 c6) from (pre ⟨1, .data⟩ (by simp) rfl _ 58 rfl rfl)) T7L.out (T7.out.rd.up u) (by omega) u.size (by rw [← ho]; rfl)
          exact wp_run w' a o h1 ⟨_, rfl, fun d hd => (by rw [← ho] at hd; injection hd with hd; subst hd; exact (show Ow w'' V7.heap.size v' D' from h2)), u.trans h3, .inl h3⟩
        · injection ho with ho; subst ho
          exact wp_run w' a _ (ex_mov w' a _ 7 _ p7 rfl) ⟨_, rfl, fun d hd => (by injection hd with hd; subst hd; exact (show (Value.slice (some ⟨g5, o5, none⟩) l5 c5) = _ from rfl)), u, .inl (Up.refl _)⟩
        · injection ho with ho; subst ho
          exact wp_run w' a _ (ex_cut51 w' a _ 60 g5 o5 l5 c5 l51 i5 (pre ⟨3, .data⟩ (by simp) rfl _ 60 rfl rfl) rfl) ⟨_, rfl, fun d hd => (by injection hd with hd; subst hd; exact (show (Value.slice (some ⟨g5, o5 + 51, none⟩) (l5 - 51) (c5 - 51)) = _ from rfl)), u, .inl (Up.refl _)⟩
        · injection ho with ho; subst ho
          have h59 : Ow w' V7.heap.size (a.tmps.getD 59 undef) D' := (pre ⟨2, .data⟩ (by simp) rfl _ 59 rfl rfl)
          refine wp_append_bytes w' _ _ rfl V7.heap.size _ D' rfl h59 _ (E.drop 51) (l5 - 51) (c5 - 51) (show a.tmps.getD 61 undef = (Value.slice (some ⟨g5, o5 + 51, none⟩) (l5 - 51) (c5 - 51)) from (pre ⟨4, .data⟩ (by simp) rfl _ 61 rfl rfl)) EL51.out (R51.out.up u) (by have := EL51.out; have := T7L.out; omega) u.size ?_
          intro v' w'' ho hg _
          refine ⟨v', rfl, fun d hd => (by injection hd with hd; subst hd; exact (show Ow w'' V7.heap.size v' (D' ++ E.drop 51) from ho)), Up.grown u hg h59.block, .inr ?_⟩
          intro j p d v'' hal hp hpd hG
          have hj := lt_of_get hp
          have hj' : j = 0 ∨ j = 1 ∨ j = 2 ∨ j = 3 ∨ j = 4 ∨ j = 5 ∨ j = 6 ∨ j = 7 ∨ j = 8 ∨ j = 9 ∨ j = 10 ∨ j = 11 ∨ j = 12 := by have : j < 13 := hj; omega
          rcases hj' with rfl | rfl | rfl | rfl | rfl | rfl | rfl | rfl | rfl | rfl | rfl | rfl | rfl
          · first | exact absurd hal (no_true (by kernel_rfl)) | (injection hp with hp; subst hp; injection hpd with hpd; subst hpd; exact hG)
          · first | exact absurd hal (no_true (by kernel_rfl)) | (injection hp with hp; subst hp; injection hpd with hpd; subst hpd; exact hG)
          · first | exact absurd hal (no_true (by kernel_rfl)) | (injection hp with hp; subst hp; injection hpd with hpd; subst hpd; exact hG)
          · first | exact absurd hal (no_true (by kernel_rfl)) | (injection hp with hp; subst hp; injection hpd with hpd; subst hpd; exact hG)
          · first | exact absurd hal (no_true (by kernel_rfl)) | (injection hp with hp; subst hp; injection hpd with hpd; subst hpd; exact hG)
          · first | exact absurd hal (no_true (by kernel_rfl)) | (injection hp with hp; subst hp; injection hpd with hpd; subst hpd; exact hG)
          · first | exact absurd hal (no_true (by kernel_rfl)) | (injection hp with hp; subst hp; injection hpd with hpd; subst hpd; exact hG)
          · first | exact absurd hal (no_true (by kernel_rfl)) | (injection hp with hp; subst hp; injection hpd with hpd; subst hpd; exact hG)
          · first | exact absurd hal (no_true (by kernel_rfl)) | (injection hp with hp; subst hp; injection hpd with hpd; subst hpd; exact hG)
          · first | exact absurd hal (no_true (by kernel_rfl)) | (injection hp with hp; subst hp; injection hpd with hpd; subst hpd; exact hG)
          · injection hp with hp; subst hp; injection hpd with hpd; subst hpd
            obtain ⟨b, q1', q2', q3'⟩ := (show ∃ b, v'' = .pointer (some ⟨b, 0, none⟩) ∧ V7.heap.size ≤ b ∧ w'.heap[b]? = some (.cells #[.int .i64 0, .slice none 0 0, .slice none 0 0, .slice none 0 0, .slice none 0 0, .slice none 0 0, .string ⟨#[]⟩] 29 (0, 0)) from hG)
            exact (show ∃ b, _ from ⟨b, q1', q2', heap_grown hg q3' (row_ty h59 q3' (by decide))⟩)
          · first | exact absurd hal (no_true (by kernel_rfl)) | (injection hp with hp; subst hp; injection hpd with hpd; subst hpd; exact hG)
          · first | exact absurd hal (no_true (by kernel_rfl)) | (injection hp with hp; subst hp; injection hpd with hpd; subst hpd; exact hG)
        · injection ho with ho; subst ho
          have h62 : Ow w' V7.heap.size (a.tmps.getD 62 undef) (D' ++ E.drop 51) := (pre ⟨5, .data⟩ (by simp) rfl _ 62 rfl rfl)
          obtain ⟨A8, c8, e8, f8, g8, r8, _⟩ := h62.form
          refine wp_call1 w' a _ 12 (fun args w => call_tdec args w) 62 _ _ rfl rfl ?_
          refine (DE.out w' _ ⟨A8, c8, e8, f8, g8, r8⟩).mono ?_
          rintro e w'' ⟨vd, rfl, bd, _, ud⟩
          exact ⟨_, rfl, _, rfl, fun d hd => (by injection hd with hd; subst hd; exact (show ∃ v', _ ∧ FlR w'' v' ⟨2 + (n : Int), X, s⟩ from ⟨_, rfl, bd⟩)), u.trans ud, .inl ud⟩
        · injection ho with ho; subst ho
          obtain ⟨v', e1, e2⟩ := (show ∃ v', a.tmps.getD 63 undef = .tuple #[v', .int .i64 0] ∧ FlR w' v' ⟨2 + (n : Int), X, s⟩ from (pre ⟨6, .data⟩ (by simp) rfl _ 63 rfl rfl))
          exact wp_run w' a _ (ex_mov w' a _ 63 _ e1 rfl) ⟨_, rfl, fun d hd => (by injection hd with hd; subst hd; exact (show ∃ v', _ ∧ FlR w' v' ⟨2 + (n : Int), X, s⟩ from ⟨_, rfl, e2⟩)), u, .inl (Up.refl _)⟩
        · injection ho with ho; subst ho
          obtain ⟨v', e1, e2⟩ := (show ∃ v', a.tmps.getD 56 undef = .tuple #[v', .int .i64 0] ∧ FlR w' v' ⟨2 + (n : Int), X, s⟩ from (pre ⟨7, .data⟩ (by simp) rfl _ 56 rfl rfl))
          exact wp_run w' a _ (ex_ext0 w' a _ 56 _ _ e1 rfl) ⟨_, rfl, fun d hd => (by injection hd with hd; subst hd; exact (show FlR w' v' ⟨2 + (n : Int), X, s⟩ from e2)), u, .inl (Up.refl _)⟩
        · cases hla
        · injection ho with ho; subst ho
          exact wp_run w' a _ (ex_boxF w' a _ rfl) ⟨_, rfl, fun d hd => (by injection hd with hd; subst hd; exact (show ∃ b, _ from ⟨_, rfl, u.size, heap_alloc_new w' _⟩)), u.alloc' _, .inl (Up.alloc _ _)⟩
        · exact absurd rfl his
        · cases hla
      case pure =>
        intro i o hla ho a w' old pre
        clear old
        have hi := lt_of_get ho
        have hi' : i = 0 ∨ i = 1 ∨ i = 2 ∨ i = 3 ∨ i = 4 ∨ i = 5 ∨ i = 6 ∨ i = 7 ∨ i = 8 ∨ i = 9 ∨ i = 10 ∨ i = 11 ∨ i = 12 := by have : i < 13 := hi; omega
        rcases hi' with rfl | rfl | rfl | rfl | rfl | rfl | rfl | rfl | rfl | rfl | rfl | rfl | rfl
        · cases hla
        · cases hla
        · cases hla
        · cases hla
        · cases hla
        · cases hla
        · cases hla
        · cases hla
        · cases hla
        · injection ho with ho; subst ho
          obtain ⟨v', e1⟩ := (show ∃ v', a.tmps.getD 56 undef = .tuple #[v', .int .i64 0] from (pre ⟨7, .data⟩ (by simp) rfl _ 56 rfl rfl))
          exact ⟨_, ex_ext1 w' a _ 56 _ _ e1 rfl, fun d hd => (by injection hd with hd; subst hd; exact (show Value.int .i64 0 = _ from rfl))⟩
        · cases hla
        · cases hla
        · injection ho with ho; subst ho
          have e1 := (show a.tmps.getD 65 undef = .int .i64 0 from (pre ⟨9, .data⟩ (by simp) rfl _ 65 rfl rfl))
          exact ⟨_, ex_asg w' a _ 65 _ e1 rfl, fun d hd => (by injection hd with hd; subst hd; exact (show Value.int .i64 0 = _ from rfl))⟩
      case store =>
        intro o ho a w' u sz old pre
        injection ho with ho; subst ho
        obtain ⟨b, h11, hbb, hbx⟩ := (show ∃ b, a.tmps.getD 11 undef = .pointer (some ⟨b, 0, none⟩) ∧ V7.heap.size ≤ b ∧ w'.heap[b]? = some (.cells #[.int .i64 0, .slice none 0 0, .slice none 0 0, .slice none 0 0, .slice none 0 0, .slice none 0 0, .string ⟨#[]⟩] 29 (0, 0)) from (pre ⟨10, .data⟩ (by simp) rfl _ 11 rfl rfl))
        have h64 : FlR w' (a.tmps.getD 64 undef) ⟨2 + (n : Int), X, s⟩ := (pre ⟨8, .data⟩ (by simp) rfl _ 64 rfl rfl)
        obtain ⟨S0, s0, T0, S1, s1, T1, S2, s2, T2, S3, s3, T3, S4, s4, T4, e64, _⟩ := h64.form
        rw [e64] at h64
        refine wp_stoF w' a _ 11 64 b _ _ _ _ _ _ _ _ _ _ _ _ _ _ _ _ _ h11 e64 (bx7_heap hbx).1 (bx7_heap hbx).2 rfl rfl ⟨rfl, ?_⟩
        exact ⟨b, _, _, _, _, _, _, _, _, _, _, _, _, _, _, _, h11, Bx7.seven (bx7_heap hbx).1 _ _ _ _ _ _ _, fl_box7 h64 hbx _ _ _ _ _ _ _, u.seven hbb _ _ _ _ _ _ _⟩
      case keep =>
        intro a w' i p d v hla hp hpd hT
        obtain ⟨b, S0, s0, T0, S1, s1, T1, S2, s2, T2, S3, s3, T3, S4, s4, T4, h11, rest⟩ := hT
        have hi := lt_of_get hp
        have hi' : i = 0 ∨ i = 1 ∨ i = 2 ∨ i = 3 ∨ i = 4 ∨ i = 5 ∨ i = 6 ∨ i = 7 ∨ i = 8 ∨ i = 9 ∨ i = 10 ∨ i = 11 ∨ i = 12 := by have : i < 13 := hi; omega
        rcases hi' with rfl | rfl | rfl | rfl | rfl | rfl | rfl | rfl | rfl | rfl | rfl | rfl | rfl
        · cases hla
        · cases hla
        · cases hla
        · cases hla
        · cases hla
        · cases hla
        · cases hla
        · cases hla
        · cases hla
        · injection hp with hp; subst hp; injection hpd with hpd; subst hpd
          refine ⟨b, S0, s0, T0, S1, s1, T1, S2, s2, T2, S3, s3, T3, S4, s4, T4, ?_, rest⟩
          rw [← h11]; simp [Act.put, Array.getD_eq_getD_getElem?]
        · cases hla
        · cases hla
        · injection hp with hp; subst hp; injection hpd with hpd; subst hpd
          refine ⟨b, S0, s0, T0, S1, s1, T1, S2, s2, T2, S3, s3, T3, S4, s4, T4, ?_, rest⟩
          rw [← h11]; simp [Act.put, Array.getD_eq_getD_getElem?]
      case fin =>
        intro a w9 sz df old hT hN
        obtain ⟨b9, S0, s0, T0, S1, s1, T1, S2, s2, T2, S3, s3, T3, S4, s4, T4, h11, bx9, v9, u9⟩ := hT
        have h12 : a.tmps.getD 12 undef = .int .i64 0 := hN 12 _ 12 rfl rfl rfl
        have p2 : a.tmps[2]? = some (.pointer (some ⟨w.heap.size, 0, none⟩)) := (old 2 (by kernel_rfl)).trans rfl
        have p5 : a.tmps[5]? = some (.bool true) := (old 5 (by kernel_rfl)).trans rfl
        have B9 := B7.out.up u9
        have K9 := Lib.hid (K7.out.up u9)
        have U9 := Lib.hid (U7.out.trans u9)
        have N9 := Lib.hid v9
        clear old hN u9 v9 B7 K7 U7 R7 R51 T7 DE
        obtain ⟨⟨l⟩, df'⟩ := a
        replace sz : l.length = 78 := sz
        obtain ⟨x0, t0, rfl, s0'⟩ := cons_of sz; clear sz
        obtain ⟨x1, t1, rfl, s1'⟩ := cons_of s0'; clear s0'
        obtain ⟨x2, t2, rfl, s2'⟩ := cons_of s1'; clear s1'
        obtain ⟨x3, t3, rfl, s3'⟩ := cons_of s2'; clear s2'
        obtain ⟨x4, t4, rfl, s4'⟩ := cons_of s3'; clear s3'
        obtain ⟨x5, t5, rfl, s5'⟩ := cons_of s4'; clear s4'
        obtain ⟨x6, t6, rfl, s6'⟩ := cons_of s5'; clear s5'
        obtain ⟨x7, t7, rfl, s7'⟩ := cons_of s6'; clear s6'
        obtain ⟨x8, t8, rfl, s8'⟩ := cons_of s7'; clear s7'
        obtain ⟨x9, t9, rfl, s9'⟩ := cons_of s8'; clear s8'
        obtain ⟨x10, t10, rfl, s10'⟩ := cons_of s9'; clear s9'
        obtain ⟨x11, t11, rfl, s11'⟩ := cons_of s10'; clear s10'
        obtain ⟨x12, t12, rfl, s12'⟩ := cons_of s11'; clear s11'
        obtain ⟨x13, t13, rfl, s13'⟩ := cons_of s12'; clear s12'
        obtain ⟨x14, t14, rfl, s14'⟩ := cons_of s13'; clear s13'
        obtain ⟨x15, t15, rfl, s15'⟩ := cons_of s14'; clear s14'
        obtain ⟨x16, t16, rfl, s16'⟩ := cons_of s15'; clear s15'
        obtain ⟨x17, t17, rfl, s17'⟩ := cons_of s16'; clear s16'
        obtain ⟨x18, t18, rfl, s18'⟩ := cons_of s17'; clear s17'
        obtain ⟨x19, t19, rfl, s19'⟩ := cons_of s18'; clear s18'
        obtain ⟨x20, t20, rfl, s20'⟩ := cons_of s19'; clear s19'
        obtain ⟨x21, t21, rfl, s21'⟩ := cons_of s20'; clear s20'
        obtain ⟨x22, t22, rfl, s22'⟩ := cons_of s21'; clear s21'
        obtain ⟨x23, t23, rfl, s23'⟩ := cons_of s22'; clear s22'
        obtain ⟨x24, t24, rfl, s24'⟩ := cons_of s23'; clear s23'
        obtain ⟨x25, t25, rfl, s25'⟩ := cons_of s24'; clear s24'
        obtain ⟨x26, t26, rfl, s26'⟩ := cons_of s25'; clear s25'
        obtain ⟨x27, t27, rfl, s27'⟩ := cons_of s26'; clear s26'
        obtain ⟨x28, t28, rfl, s28'⟩ := cons_of s27'; clear s27'
        obtain ⟨x29, t29, rfl, s29'⟩ := cons_of s28'; clear s28'
        obtain ⟨x30, t30, rfl, s30'⟩ := cons_of s29'; clear s29'
        obtain ⟨x31, t31, rfl, s31'⟩ := cons_of s30'; clear s30'
        obtain ⟨x32, t32, rfl, s32'⟩ := cons_of s31'; clear s31'
        obtain ⟨x33, t33, rfl, s33'⟩ := cons_of s32'; clear s32'
        obtain ⟨x34, t34, rfl, s34'⟩ := cons_of s33'; clear s33'
        obtain ⟨x35, t35, rfl, s35'⟩ := cons_of s34'; clear s34'
        obtain ⟨x36, t36, rfl, s36'⟩ := cons_of s35'; clear s35'
        obtain ⟨x37, t37, rfl, s37'⟩ := cons_of s36'; clear s36'
        obtain ⟨x38, t38, rfl, s38'⟩ := cons_of s37'; clear s37'
        obtain ⟨x39, t39, rfl, s39'⟩ := cons_of s38'; clear s38'
        obtain ⟨x40, t40, rfl, s40'⟩ := cons_of s39'; clear s39'
        obtain ⟨x41, t41, rfl, s41'⟩ := cons_of s40'; clear s40'
        obtain ⟨x42, t42, rfl, s42'⟩ := cons_of s41'; clear s41'
        obtain ⟨x43, t43, rfl, s43'⟩ := cons_of s42'; clear s42'
        obtain ⟨x44, t44, rfl, s44'⟩ := cons_of s43'; clear s43'
        obtain ⟨x45, t45, rfl, s45'⟩ := cons_of s44'; clear s44'
        obtain ⟨x46, t46, rfl, s46'⟩ := cons_of s45'; clear s45'
        obtain ⟨x47, t47, rfl, s47'⟩ := cons_of s46'; clear s46'
        obtain ⟨x48, t48, rfl, s48'⟩ := cons_of s47'; clear s47'
        obtain ⟨x49, t49, rfl, s49'⟩ := cons_of s48'; clear s48'
        obtain ⟨x50, t50, rfl, s50'⟩ := cons_of s49'; clear s49'
        obtain ⟨x51, t51, rfl, s51'⟩ := cons_of s50'; clear s50'
        obtain ⟨x52, t52, rfl, s52'⟩ := cons_of s51'; clear s51'
        obtain ⟨x53, t53, rfl, s53'⟩ := cons_of s52'; clear s52'
        obtain ⟨x54, t54, rfl, s54'⟩ := cons_of s53'; clear s53'
        obtain ⟨x55, t55, rfl, s55'⟩ := cons_of s54'; clear s54'
        obtain ⟨x56, t56, rfl, s56'⟩ := cons_of s55'; clear s55'
        obtain ⟨x57, t57, rfl, s57'⟩ := cons_of s56'; clear s56'
        obtain ⟨x58, t58, rfl, s58'⟩ := cons_of s57'; clear s57'
        obtain ⟨x59, t59, rfl, s59'⟩ := cons_of s58'; clear s58'
        obtain ⟨x60, t60, rfl, s60'⟩ := cons_of s59'; clear s59'
        obtain ⟨x61, t61, rfl, s61'⟩ := cons_of s60'; clear s60'
        obtain ⟨x62, t62, rfl, s62'⟩ := cons_of s61'; clear s61'
        obtain ⟨x63, t63, rfl, s63'⟩ := cons_of s62'; clear s62'
        obtain ⟨x64, t64, rfl, s64'⟩ := cons_of s63'; clear s63'
        obtain ⟨x65, t65, rfl, s65'⟩ := cons_of s64'; clear s64'
        obtain ⟨x66, t66, rfl, s66'⟩ := cons_of s65'; clear s65'
        obtain ⟨x67, t67, rfl, s67'⟩ := cons_of s66'; clear s66'
        obtain ⟨x68, t68, rfl, s68'⟩ := cons_of s67'; clear s67'
        obtain ⟨x69, t69, rfl, s69'⟩ := cons_of s68'; clear s68'
        obtain ⟨x70, t70, rfl, s70'⟩ := cons_of s69'; clear s69'
        obtain ⟨x71, t71, rfl, s71'⟩ := cons_of s70'; clear s70'
        obtain ⟨x72, t72, rfl, s72'⟩ := cons_of s71'; clear s71'
        obtain ⟨x73, t73, rfl, s73'⟩ := cons_of s72'; clear s72'
        obtain ⟨x74, t74, rfl, s74'⟩ := cons_of s73'; clear s73'
        obtain ⟨x75, t75, rfl, s75'⟩ := cons_of s74'; clear s74'
        obtain ⟨x76, t76, rfl, s76'⟩ := cons_of s75'; clear s75'
        obtain ⟨x77, t77, rfl, s77'⟩ := cons_of s76'; clear s76'
        have e : t77 = [] := List.eq_nil_of_length_eq_zero s77'
        subst e
        clear s77'
        obtain rfl : x11 = _ := h11
        obtain rfl : x12 = _ := h12
        obtain rfl : x2 = _ := Option.some.inj p2
        obtain rfl : x5 = _ := Option.some.inj p5
        obtain rfl : df' = [] := df
        simp only at bx9 N9
        obtain ⟨b0, b1', b2, b3, b4, b5, b6⟩ := B9
        obtain ⟨a0, a1, a2', a3, a4, a5, a6⟩ := bx9
        replace b0 := cell_regrown b0; replace b1' := cell_regrown b1'; replace b2 := cell_regrown b2; replace b3 := cell_regrown b3; replace b4 := cell_regrown b4; replace b5 := cell_regrown b5; replace b6 := cell_regrown b6
        replace a0 := cell_regrown a0; replace a1 := cell_regrown a1; replace a2' := cell_regrown a2'; replace a3 := cell_regrown a3; replace a4 := cell_regrown a4; replace a5 := cell_regrown a5; replace a6 := cell_regrown a6
        have G1 := quiet_up (w := w9) (fun W u => RF.out W _ (N9.out.up u))
        have G2 := quiet_up (w := w9) (fun W u => RF.out W _ (K9.out.up u))
        have G3 := quiet_up (w := w9) (fun W u => SM.out W _ _ (N9.out.up u) (K9.out.up u))
        clear RF SM
        go_wp2_with fail
        refine wp_region_quiet_below (by kernel_rfl) (by kernel_rfl) ?_
        repeat (quiet_step (first | (with_reducible exact G1 _ _) | (with_reducible exact G2 _ _) | (with_reducible exact G3 _ _)))
        refine wpQuiet_nil ?_
        rintro _ ⟨⟨dq, osq⟩, rfl⟩
        have UF := Lib.hid (U9.out.trans (up_grown w9 dq osq))
        clear a0 a1 a2' a3 a4 a5 a6 b0 b1' b2 b3 b4 b5 b6 G1 G2 G3
        go_wp2_with fail
        go_ret
        exact ⟨rfl, UF.out⟩

set_option maxRecDepth 100000 in
theorem readable : ∀ t ∈ Try.f4.params.toList, Try.prog.readableRec t = true ∧ t < Try.prog.types.size := by
  rw [Try.params4]
  intro t ht
  have hall : ([29, 27].all fun u => Try.prog.readableRec u && decide (u < Try.prog.types.size)) = true := by kernel_rfl
  have := List.all_eq_true.1 hall t (by simpa using ht)
  simpa using this

set_option maxRecDepth 100000 in
theorem lifted (os : Os) (started : os.Started) (H : Type) (enc : TypeId × Value → H) :
    ReturnsInHanded {} Try.checked os 4 .any (Rows.tzifFirstSpec.pre6 enc Try.prog Try.f4 Rows.tzifFirstRow.domain false) (Rows.tzifFirstSpec.post enc Try.prog Try.f4 false true false false) := by
  refine returnsInHanded_of_change (C := Try.checked) own started (by kernel_rfl) Try.func4
    (ChangeSpec.witness6 (enc := enc) (C := Try.checked) false ⟨#[], #[.agg #[.int .i64 0, .slice none 0 0, .slice none 0 0, .slice none 0 0, .slice none 0 0, .slice none 0 0, .string ByteArray.empty], .agg #[.slice none 0 0, .slice none 0 0, .slice none 0 0, .slice none 0 0, .slice none 0 0]], []⟩ 8 (by kernel_rfl) (by kernel_rfl) (by kernel_rfl) (by kernel_rfl)) ?_
  intro W base args ds gs before hval0 hW hcnd _
  have hval : ∀ (j : Nat) t v, Try.f4.params[j]? = some t → args[j]? = some v → Value.okWide Try.prog W .any base t v := hval0
  have hW' := hW
  obtain ⟨p, q, hA0, hV, rfl, hfz, hnd⟩ := hW
  have hA : DataW.TrodAll enc Try.prog W 0 (fun _ => true) true Try.f4.params.toList args.toList ds p := hA0
  rw [Try.params4] at hA hval
  obtain ⟨v0, vs0, d0, ds0, p0, q0, hargs, rfl, rfl, h0, r0⟩ := trodAll_cons hA
  obtain ⟨v1, vs1, d1, ds1, p1, q1, rfl, rfl, rfl, h1, r1⟩ := trodAll_cons r0
  obtain ⟨rfl, rfl, rfl⟩ := trodAll_nil r1
  obtain rfl : args = #[v0, v1] := by cases args; simp_all
  obtain ⟨rfl, rfl⟩ := trodVars_none hV
  obtain ⟨f0, R0, b0, u0, s0⟩ := open_fil (hval 0 29 v0 rfl rfl) h0
  obtain ⟨x1, R1, b1⟩ := open_blk (hval 1 27 v1 rfl rfl) h1
  clear hA0 hval0
  refine (walk W v0 f0 v1 x1 R0 b0 u0 s0 R1 b1).mono fun e W' ⟨he, hg⟩ => ?_
  subst he
  exact ⟨_, rfl, post_up laidOut readable rfl hW' (fun _ _ _ => (trodAll_cons_mk (shut_bool Try.underlying4 _) trodAll_mk0)) rfl rfl
    hg (ok_one (by kernel_rfl) rfl (okWide_bool_mk Try.underlying4 _))⟩

set_option maxRecDepth 100000 in
theorem over : Rows.tzifFirstRow.holds Try.pinned (OpenSpec.ofChange Rows.tzifFirstSpec) :=
  OpenClaim.holds_of_wide 4 Try.f4 rfl rfl rfl rfl rfl rfl rfl ⟨rfl, rfl, rfl, rfl, rfl⟩ rfl rfl rfl rfl rfl (by kernel_rfl) Try.func4 (by kernel_rfl)
    (of_decide_eq_true (by kernel_rfl)) (by unfold Func.isWrapper; first | (rw [if_pos (by decide +kernel)]; kernel_rfl) | (rw [if_neg (by decide +kernel)]; exact ⟨rfl, rfl⟩))
    (fun os started H enc _ => lifted os started H enc)

set_option maxRecDepth 100000 in
theorem proved : Rows.TzifFirstSaid :=
  over
end Go.Proofs.Ytaljddoenjgbfaa.tzifFirst
