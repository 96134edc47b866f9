/-
  BlockBack answers true: what was told is read as it was, and a byte less is too short, for any block (cut) that is right.
-/
import Derived.Test.YtoijaananjlfpaaLcShown6
import Derived.Test.YtoijaananjlfpaaLcPst
import Derived.Test.YtoijaananjlfpaaLcHdO
import Derived.Test.YtoijaananjlfpaaLcBkO
import Derived.Test.YtoijaananjlfpaaLcBkW
import Derived.Test.YtoijaananjlfpaaLcApp
import Derived.Test.YtoijaananjlfpaaLcOps
import Derived.WalkKit
import Derived.Deep.RegionHeld
import Derived.BigQuiet
import Derived.ProofKit
import Derived.OpenShut
import Derived.Deep.CutRange
import Derived.StillTailTactics
namespace Go.Proofs.Ytoijaananjlfpaa.blockBack
open Go.ChangeShapes Go.WideShapes Go.ChangeAt Go.RowKit Lc
set_option linter.unusedVariables false

theorem own : ownKnob Try.prog.godebug = none := by kernel_rfl

theorem no_true {b : Bool} (h : b = false) : ¬ b = true := by rw [h]; decide
theorem cons_of {α : Type} {l : List α} {n : Nat} (h : l.length = n + 1) : ∃ x l', l = x :: l' ∧ l'.length = n := by
  cases l with
  | nil => cases h
  | cons x l' => exact ⟨x, l', rfl, by simpa using h⟩
theorem rd_rc {w : World} {A : Option Addr} {l : List UInt8} (h : Rd w A l) : Rc w A (bc l) := fun h0 => by
  rw [bc_len] at h0
  obtain ⟨b, o, e, hc⟩ := h h0
  refine ⟨b, o, e, fun i v hi => ?_⟩
  have lt : i < l.length := by
    rcases Nat.lt_or_ge i l.length with g | g
    · exact g
    · rw [List.getElem?_eq_none (by rw [bc_len]; exact g)] at hi; cases hi
  rw [hc i lt, ← hi, bc_get lt]
/-- A box of five nils: no cell of a kind, jump, leap second or mark lies there. -/
theorem rc_box {w : World} {A : Option Addr} {vs : List Value} (h : Rc w A vs) (hn : ∀ u ∈ vs, u ≠ .slice none 0 0) {b : Nat} {t : TypeId} (hb : w.heap[b]? = some (.cells #[.slice none 0 0, .slice none 0 0, .slice none 0 0, .slice none 0 0, .slice none 0 0] t (0, 0))) (v0 v1 v2 v3 v4 : Value) : Rc (five w b v0 v1 v2 v3 v4) A vs := fun h0 => by
  obtain ⟨g, o, e, hc⟩ := h h0
  refine ⟨g, o, e, fun i v hi => ?_⟩
  have hcell := hc i v hi
  have ne : b ≠ g := fun c => by
    subst c
    have hv := hn v (List.mem_of_getElem? hi)
    simp only [World.cell?, hb] at hcell
    have key : ∀ q : Nat, (#[Value.slice none 0 0, .slice none 0 0, .slice none 0 0, .slice none 0 0, .slice none 0 0] : Array Value)[q]? = some v → v = .slice none 0 0 := fun q hq => by
      have : q = 0 ∨ q = 1 ∨ q = 2 ∨ q = 3 ∨ q = 4 ∨ 5 ≤ q := by omega
      rcases this with rfl | rfl | rfl | rfl | rfl | h5
      · exact (Option.some.inj hq).symm
      · exact (Option.some.inj hq).symm
      · exact (Option.some.inj hq).symm
      · exact (Option.some.inj hq).symm
      · exact (Option.some.inj hq).symm
      · rw [Array.getElem?_eq_none (by simpa using h5)] at hq; cases hq
    exact hv (key (o + i) (by simpa using hcell))
  have oth : ∀ (W : World) (j : Nat) (u : Value), (W.setCell ⟨b, j, none⟩ u).cell? ⟨g, o + i, none⟩ = W.cell? ⟨g, o + i, none⟩ := fun W j u => World.cell?_setCell_other _ _ _ _ (fun c => ne (by injection c))
  show (five w b v0 v1 v2 v3 v4).cell? ⟨g, o + i, none⟩ = some v
  rw [oth, oth, oth, oth, oth]
  exact hcell
theorem ns_kc (ks : List Knd) : ∀ u ∈ kc ks, u ≠ .slice none 0 0 := fun u hu => by
  obtain ⟨k, _, hk⟩ := List.mem_flatMap.1 hu
  simp only [List.mem_cons, List.not_mem_nil, or_false] at hk
  rcases hk with rfl | rfl | rfl <;> exact fun h => by cases h
theorem ns_jc (ks : List Jmp) : ∀ u ∈ jc ks, u ≠ .slice none 0 0 := fun u hu => by
  obtain ⟨k, _, hk⟩ := List.mem_flatMap.1 hu
  simp only [List.mem_cons, List.not_mem_nil, or_false] at hk
  rcases hk with rfl | rfl <;> exact fun h => by cases h
theorem ns_lc (ks : List Lep) : ∀ u ∈ lc ks, u ≠ .slice none 0 0 := fun u hu => by
  obtain ⟨k, _, hk⟩ := List.mem_flatMap.1 hu
  simp only [List.mem_cons, List.not_mem_nil, or_false] at hk
  rcases hk with rfl | rfl <;> exact fun h => by cases h
theorem ns_oc (ks : List Bool) : ∀ u ∈ oc ks, u ≠ .slice none 0 0 := fun u hu => by
  obtain ⟨k, _, rfl⟩ := List.mem_map.1 hu
  exact fun h => by cases h
theorem bk_box {w : World} {v : Value} {x : Blk} (h : BkR w v x) {b : Nat} {t : TypeId} (hb : w.heap[b]? = some (.cells #[.slice none 0 0, .slice none 0 0, .slice none 0 0, .slice none 0 0, .slice none 0 0] t (0, 0))) (v0 v1 v2 v3 v4 : Value) : BkR (five w b v0 v1 v2 v3 v4) v x := by
  obtain ⟨_, _, _, _, _, rfl, ⟨A0, c0, rfl, m0, n0, r0⟩, ⟨A1, c1, rfl, m1, n1, r1⟩, ⟨A2, c2, rfl, m2, n2, r2⟩, ⟨A3, c3, rfl, m3, n3, r3⟩, ⟨A4, c4, rfl, m4, n4, r4⟩⟩ := h
  exact ⟨_, _, _, _, _, rfl, ⟨A0, c0, rfl, m0, n0, rc_box r0 (ns_kc _) hb _ _ _ _ _⟩, ⟨A1, c1, rfl, m1, n1, rc_box r1 (ns_jc _) hb _ _ _ _ _⟩, ⟨A2, c2, rfl, m2, n2, rc_box r2 (ns_lc _) hb _ _ _ _ _⟩, ⟨A3, c3, rfl, m3, n3, rc_box r3 (ns_oc _) hb _ _ _ _ _⟩, ⟨A4, c4, rfl, m4, n4, rc_box r4 (ns_oc _) hb _ _ _ _ _⟩⟩
theorem ex_appU (w : World) (a : Act) (o : Oper) (base : Nat) (t s : Tmp) (g : Nat) (h : a.tmps.getD t undef = .slice (some ⟨g, 0, none⟩) 0 0) (hown : w.ownsRow base 5 1 (.slice (some ⟨g, 0, none⟩) 0 0) 0 [])
    (A : Option Addr) (m c : Nat) (l : List UInt8) (hs : a.tmps.getD s undef = .slice A m c) (hl : l.length = m) (hr : Rd w A l) (hm : m ≤ 1000000) (hbase : base ≤ w.heap.size)
    (ho : o.op = .call { callee := .builtin .append, args := #[.tmp t, .tmp s], argTypes := #[33, 33] }) :
    ∃ v' w', (execOp a.eval o).run Try.prog w = .ok (.value v') w' ∧ Ow w' base v' l ∧ Up w w' := by
  obtain ⟨i0, hi, hz0, hz1, hz2⟩ := info_parts byteInfo
  obtain ⟨v', w', hrun, h2, h3⟩ := append_new w Try.prog base 33 o.type 5 i0 (.int .u8 0) 1 1 Try.underlying33 hi hz0 hz1 hz2 rfl (by decide) g hown A m c (bc l) (by rw [bc_len, hl, Nat.mul_one]) (rd_rc hr) bc_one (by unfold maxLen; omega) (by omega) hbase
  refine ⟨v', w', ?_, by subst hl; exact h2, h3⟩
  have e1 : a.eval (.tmp t) = .slice (some ⟨g, 0, none⟩) 0 0 := h
  have e2 : a.eval (.tmp s) = .slice A m c := hs
  unfold execOp
  simp only [ho, resolve, invoke, builtin, Sem.run_bind, Sem.run_pure, Result.andThen_ok, List.map_toArray, List.map_cons, List.map_nil, e1, e2, hrun]
theorem wp_stoB (w : World) (a : Act) (o : Oper) (t s : Tmp) (b : Nat) (P0 P1 P2 P3 P4 : Option Addr) (n0 n1 n2 n3 n4 d0 d1 d2 d3 d4 : Nat) (h3 : a.tmps.getD t undef = .pointer (some ⟨b, 0, none⟩)) (h50 : a.tmps.getD s undef = .agg #[.slice P0 n0 d0, .slice P1 n1 d1, .slice P2 n2 d2, .slice P3 n3 d3, .slice P4 n4 d4])
    {x0 x1 x2 x3 x4 : Value} (hx : Bx5 w b x0 x1 x2 x3 x4) (hf : Free w b) (hd : o.dst = none) (ho : o.op = .store 27 (.tmp t) (.tmp s)) {K : Act → World → Prop} {Q : Exit → Act → World → Prop}
    (k : K a (five w b (.slice P0 n0 d0) (.slice P1 n1 d1) (.slice P2 n2 d2) (.slice P3 n3 d3) (.slice P4 n4 d4))) : o.wp Try.prog a w K Q := by
  obtain ⟨e0, e1, e2, e3, e4⟩ := hx
  have f0 := hf.2 0; have f1 := hf.2 1; have f2 := hf.2 2; have f3 := hf.2 3; have f4 := hf.2 4
  unfold Oper.wp execOp
  rw [ho]
  simp [go_sem, tg h3, tg h50, e0, e1, e2, e3, e4, f0, f1, f2, f3, f4, Oper.upon, Act.put, hd]
  exact k
/-- What is known of the slots while the bytes are read. -/
def bG (base : Nat) (A5 : Option Addr) (m c5 : Nat) (A3 : Option Addr) (p3 c3 : Nat) (E M : List UInt8) (Hd : Value) (z : Int) (X : Blk) (t : Nat) (v : Value) (w : World) : Prop :=
  if t = 52 then ∃ g, v = .slice (some ⟨g, 0, none⟩) 0 0 ∧ w.ownsRow base 5 1 (.slice (some ⟨g, 0, none⟩) 0 0) 0 []
  else if t = 53 then v = .slice A5 m c5
  else if t = 54 then Ow w base v E
  else if t = 55 then v = .slice A3 p3 c3
  else if t = 56 then Ow w base v (E ++ M)
  else if t = 57 then v = Hd
  else if t = 58 then v = .int .i64 z
  else if t = 59 ∨ t = 51 then ∃ v', v = .tuple #[v', .int .i64 0] ∧ BkR w v' X
  else if t = 60 then BkR w v X
  else if t = 14 then ∃ b, v = .pointer (some ⟨b, 0, none⟩) ∧ base ≤ b ∧ w.heap[b]? = some (.cells #[.slice none 0 0, .slice none 0 0, .slice none 0 0, .slice none 0 0, .slice none 0 0] 27 (0, 0))
  else if t = 61 ∨ t = 15 then v = .int .i64 0
  else True
def bN (t : Nat) (v : Value) : Prop := if t = 59 ∨ t = 51 then ∃ v', v = .tuple #[v', .int .i64 0] else if t = 61 ∨ t = 15 then v = .int .i64 0 else True
theorem bG_up {base : Nat} {A5 : Option Addr} {m c5 : Nat} {A3 : Option Addr} {p3 c3 : Nat} {E M : List UInt8} {Hd : Value} {z : Int} {X : Blk} (t : Nat) (v : Value) (w w' : World) (h : bG base A5 m c5 A3 p3 c3 E M Hd z X t v w) (u : Up w w') : bG base A5 m c5 A3 p3 c3 E M Hd z X t v w' := by
  unfold bG at *
  by_cases t0 : t = 52
  · rw [if_pos t0] at h ⊢; obtain ⟨g, h1, h2⟩ := h; exact ⟨g, h1, row_up h2 u⟩
  rw [if_neg t0] at h ⊢
  by_cases t1 : t = 53
  · rw [if_pos t1] at h ⊢; exact h
  rw [if_neg t1] at h ⊢
  by_cases t2 : t = 54
  · rw [if_pos t2] at h ⊢; exact Ow.up h u
  rw [if_neg t2] at h ⊢
  by_cases t3 : t = 55
  · rw [if_pos t3] at h ⊢; exact h
  rw [if_neg t3] at h ⊢
  by_cases t4 : t = 56
  · rw [if_pos t4] at h ⊢; exact Ow.up h u
  rw [if_neg t4] at h ⊢
  by_cases t5 : t = 57
  · rw [if_pos t5] at h ⊢; exact h
  rw [if_neg t5] at h ⊢
  by_cases t6 : t = 58
  · rw [if_pos t6] at h ⊢; exact h
  rw [if_neg t6] at h ⊢
  by_cases t7 : t = 59 ∨ t = 51
  · rw [if_pos t7] at h ⊢; obtain ⟨v', h1, h2⟩ := h; exact ⟨v', h1, h2.up u⟩
  rw [if_neg t7] at h ⊢
  by_cases t8 : t = 60
  · rw [if_pos t8] at h ⊢; exact BkR.up h u
  rw [if_neg t8] at h ⊢
  by_cases t9 : t = 14
  · rw [if_pos t9] at h ⊢; obtain ⟨b, h1, h2, h3⟩ := h; exact ⟨b, h1, h2, heap_up u h3⟩
  rw [if_neg t9] at h ⊢
  exact h
theorem bG_N {base : Nat} {A5 : Option Addr} {m c5 : Nat} {A3 : Option Addr} {p3 c3 : Nat} {E M : List UInt8} {Hd : Value} {z : Int} {X : Blk} (t : Nat) (v : Value) (w : World) (h : bG base A5 m c5 A3 p3 c3 E M Hd z X t v w) : bN t v := by
  unfold bN
  by_cases t7 : t = 59 ∨ t = 51
  · rw [if_pos t7]
    unfold bG at h
    rw [if_neg (by omega), if_neg (by omega), if_neg (by omega), if_neg (by omega), if_neg (by omega), if_neg (by omega), if_neg (by omega), if_pos t7] at h
    obtain ⟨v', h1, _⟩ := h
    exact ⟨v', h1⟩
  rw [if_neg t7]
  by_cases t8 : t = 61 ∨ t = 15
  · rw [if_pos t8]
    unfold bG at h
    rw [if_neg (by omega), if_neg (by omega), if_neg (by omega), if_neg (by omega), if_neg (by omega), if_neg (by omega), if_neg (by omega), if_neg t7, if_neg (by omega), if_neg (by omega), if_pos t8] at h
    exact h
  rw [if_neg t8]
  trivial
def bT (W : World) (X : Blk) (a : Act) (w : World) : Prop := ∃ b S0 s0 T0 S1 s1 T1 S2 s2 T2 S3 s3 T3 S4 s4 T4, a.tmps.getD 14 undef = .pointer (some ⟨b, 0, none⟩) ∧ W.heap.size ≤ b ∧ Bx5 w b (.slice S0 s0 T0) (.slice S1 s1 T1) (.slice S2 s2 T2) (.slice S3 s3 T3) (.slice S4 s4 T4) ∧ BkR w (.agg #[.slice S0 s0 T0, .slice S1 s1 T1, .slice S2 s2 T2, .slice S3 s3 T3, .slice S4 s4 T4]) X ∧ Up W w
/-- The same while fewer bytes are read. -/
def cG (base : Nat) (A5 : Option Addr) (m c5 : Nat) (Hd : Value) (z : Int) (t : Nat) (v : Value) (w : World) : Prop :=
  if t = 63 ∨ t = 64 then v = .slice A5 m c5
  else if t = 65 then v = .int .i64 m
  else if t = 66 then v = .int .i64 ((m - 1 : Nat) : Int)
  else if t = 67 then v = .slice A5 (m - 1) c5
  else if t = 68 then v = Hd
  else if t = 69 then v = .int .i64 z
  else if t = 70 ∨ t = 62 then ∃ v', v = .tuple #[v', .int .i64 5] ∧ BkR w v' bk0
  else if t = 71 then BkR w v bk0
  else if t = 16 then ∃ b, v = .pointer (some ⟨b, 0, none⟩) ∧ base ≤ b ∧ w.heap[b]? = some (.cells #[.slice none 0 0, .slice none 0 0, .slice none 0 0, .slice none 0 0, .slice none 0 0] 27 (0, 0))
  else if t = 72 ∨ t = 17 then v = .int .i64 5
  else True
def cN (t : Nat) (v : Value) : Prop := if t = 70 ∨ t = 62 then ∃ v', v = .tuple #[v', .int .i64 5] else if t = 72 ∨ t = 17 then v = .int .i64 5 else True
theorem cG_up {base : Nat} {A5 : Option Addr} {m c5 : Nat} {Hd : Value} {z : Int} (t : Nat) (v : Value) (w w' : World) (h : cG base A5 m c5 Hd z t v w) (u : Up w w') : cG base A5 m c5 Hd z t v w' := by
  unfold cG at *
  by_cases t0 : t = 63 ∨ t = 64
  · rw [if_pos t0] at h ⊢; exact h
  rw [if_neg t0] at h ⊢
  by_cases t1 : t = 65
  · rw [if_pos t1] at h ⊢; exact h
  rw [if_neg t1] at h ⊢
  by_cases t2 : t = 66
  · rw [if_pos t2] at h ⊢; exact h
  rw [if_neg t2] at h ⊢
  by_cases t3 : t = 67
  · rw [if_pos t3] at h ⊢; exact h
  rw [if_neg t3] at h ⊢
  by_cases t5 : t = 68
  · rw [if_pos t5] at h ⊢; exact h
  rw [if_neg t5] at h ⊢
  by_cases t6 : t = 69
  · rw [if_pos t6] at h ⊢; exact h
  rw [if_neg t6] at h ⊢
  by_cases t7 : t = 70 ∨ t = 62
  · rw [if_pos t7] at h ⊢; obtain ⟨v', h1, h2⟩ := h; exact ⟨v', h1, h2.up u⟩
  rw [if_neg t7] at h ⊢
  by_cases t8 : t = 71
  · rw [if_pos t8] at h ⊢; exact BkR.up h u
  rw [if_neg t8] at h ⊢
  by_cases t9 : t = 16
  · rw [if_pos t9] at h ⊢; obtain ⟨b, h1, h2, h3⟩ := h; exact ⟨b, h1, h2, heap_up u h3⟩
  rw [if_neg t9] at h ⊢
  exact h
theorem cG_N {base : Nat} {A5 : Option Addr} {m c5 : Nat} {Hd : Value} {z : Int} (t : Nat) (v : Value) (w : World) (h : cG base A5 m c5 Hd z t v w) : cN t v := by
  unfold cN
  by_cases t7 : t = 70 ∨ t = 62
  · rw [if_pos t7]
    unfold cG at h
    rw [if_neg (by omega), if_neg (by omega), if_neg (by omega), if_neg (by omega), if_neg (by omega), if_neg (by omega), if_pos t7] at h
    obtain ⟨v', h1, _⟩ := h
    exact ⟨v', h1⟩
  rw [if_neg t7]
  by_cases t8 : t = 72 ∨ t = 17
  · rw [if_pos t8]
    unfold cG at h
    rw [if_neg (by omega), if_neg (by omega), if_neg (by omega), if_neg (by omega), if_neg (by omega), if_neg (by omega), if_neg t7, if_neg (by omega), if_neg (by omega), if_pos t8] at h
    exact h
  rw [if_neg t8]
  trivial
theorem dec_less (x : Blk) (z : Nat) (ver : Int) (hri : rightB x z ver = true) (h1 : 1 ≤ ver) (h4 : ver ≤ 4) (m : Nat) (hm : (encL x z).length = m) (hp : 1 ≤ m) (A : Option Addr) (c : Nat) (w : World) (hc : m ≤ c) (hcm : c ≤ maxLen) (hr : Rd w A (encL x z)) :
    Calls Try.prog 21 #[.slice A (m - 1) c, hv ver x.ut.length x.sd.length x.ls.length x.js.length x.ks.length (nmB x).length, .int .i64 z] w fun e w' => ∃ v, e = .returned (.tuple #[v, .int .i64 5]) ∧ BkR w' v bk0 ∧ Up w w' := by
  have hl : ((encL x z).take (m - 1)).length = m - 1 := by rw [List.length_take]; omega
  have h := bdecode_any A ((encL x z).take (m - 1)) c ver x.ut.length x.sd.length x.ls.length x.js.length x.ks.length (nmB x).length z w hcm (by omega) (hr.take (m - 1))
  have d := dec_short hri h1 h4 ((encL x z).take (m - 1)) (by omega)
  rw [hl, d.1, d.2] at h
  exact h
theorem cut50 {w : World} {A : Option Addr} {l : List UInt8} {c : Nat} (n : l.length ≤ c) (r : Rd w A l) : ∃ (k : List UInt8) (p : Nat), k.length = p ∧ p ≤ 50 ∧ p ≤ l.length ∧ p ≤ c ∧ min (l.length : Int) 50 = (p : Int) ∧ Rd w A k :=
  ⟨l.take 50, _, rfl, by rw [List.length_take]; omega, by rw [List.length_take]; omega, by rw [List.length_take]; omega, by rw [List.length_take]; omega, r.take 50⟩

set_option maxHeartbeats 4000000 in
set_option maxRecDepth 100000 in
theorem walk (w : World) (v0 : Value) (x0 : Blk) (a1 : Bool) (a2 : Int) (A3 : Option Addr) (l3 : List UInt8) (c3 : Nat) (r0 : BkR w v0 x0) (b0 : BI x0)  (w2 : (Lit.int .i64 a2).wf = true) (n3 : l3.length ≤ c3) (m3 : c3 ≤ maxLen) (r3 : Rd w A3 l3) :
    Calls Try.prog 5 #[v0, .bool a1, .int .i64 a2, .slice A3 l3.length c3] w fun e w' => e = .returned (.bool true) ∧ Up w w' := by
  obtain ⟨n, hn, e3⟩ := mask3 a2
  obtain ⟨k3, p3, e3l, p3a, p3b, p3c, q3m, R3'⟩ := cut50 n3 r3
  have R3 := Lib.hid R3'
  have K3 := Lib.hid e3l
  unfold maxLen at m3
  clear r3 R3' e3l
  have FW := Lib.hid (fun w1 (u : Up w w1) => few_any v0 x0 w1 (r0.up u))
  have hbi := Lib.hid (cut_bi b0)
  generalize cutB x0 = X at *
  obtain ⟨A0, n0, c0, A1, n1, c1, A2, n2, c2, A3', n3', c3', A4, n4, c4, rfl⟩ := r0.form
  have BX := Lib.hid (Bx5.new w (.slice A0 n0 c0) (.slice A1 n1 c1) (.slice A2 n2 c2) (.slice A3' n3' c3') (.slice A4 n4 c4) 27)
  have FX := Lib.hid (Free.new w #[.slice A0 n0 c0, .slice A1 n1 c1, .slice A2 n2 c2, .slice A3' n3' c3', .slice A4 n4 c4] 27)
  have U0 := Lib.hid (Up.alloc w (.cells #[.slice A0 n0 c0, .slice A1 n1 c1, .slice A2 n2 c2, .slice A3' n3' c3', .slice A4 n4 c4] 27))
  clear r0 b0 w2
  cases a1
  · have RI := Lib.hid (fun w1 v h => bright_any v X 4 (1 + (n : Int)) w1 h)
    have EN := Lib.hid (fun v w1 h hr => bencode_no v X 4 (1 + (n : Int)) w1 h (.inr hr))
    obtain ⟨ri, hri⟩ : ∃ ri, rightB X 4 (1 + (n : Int)) = ri := ⟨_, rfl⟩
    rw [hri] at RI EN
    go_enter Try.func5, Try.ntmps5
    go_wp2_with fail
    refine (shown_any _).mono ?_; rintro e w1 ⟨rfl, u1⟩
    have U1 := Lib.hid (U0.out.trans u1)
    have B1 := Lib.hid (BX.out.up u1)
    have F1 := Lib.hid (FX.out.up u1)
    clear u1 BX FX U0
    obtain ⟨a0, a1', a2', a3', a4⟩ := B1.out
    go_wp2_with fail
    clear a0 a1' a2' a3' a4
    refine (FW.out _ U1.out).mono ?_; rintro e w2 ⟨v2, rfl, o2, u2⟩
    have U2 := Lib.hid (U1.out.trans u2)
    have lt2 : w.heap.size < w1.heap.size := F1.out.1
    obtain ⟨P0, q0, d0, P1, q1, d1, P2, q2, d2, P3, q3, d3, P4, q4, d4, rfl⟩ := o2.rd.form
    have O3 := Lib.hid (o2.low lt2 (.slice P0 q0 d0) (.slice P1 q1 d1) (.slice P2 q2 d2) (.slice P3 q3 d3) (.slice P4 q4 d4)).rd
    have B3 := Lib.hid (Bx5.five (B1.out.up u2) (.slice P0 q0 d0) (.slice P1 q1 d1) (.slice P2 q2 d2) (.slice P3 q3 d3) (.slice P4 q4 d4))
    have U3 := Lib.hid (Up.five U2.out (Nat.le_refl _) (.slice P0 q0 d0) (.slice P1 q1 d1) (.slice P2 q2 d2) (.slice P3 q3 d3) (.slice P4 q4 d4))
    obtain ⟨a0, a1', a2', a3', a4⟩ := B1.out.up u2
    obtain ⟨_, fz⟩ := F1.out.up u2
    have z0 := fz 0; have z1 := fz 1; have z2 := fz 2; have z3 := fz 3; have z4 := fz 4
    clear fz o2 u2 U2 B1 F1 U1 FW
    go_wp2_with fail
    clear a0 a1' a2' a3' a4 z0 z1 z2 z3 z4
    unfold five at O3 B3 U3
    generalize (((((w2.setCell ⟨w.heap.size, 0, none⟩ (.slice P0 q0 d0)).setCell ⟨w.heap.size, 1, none⟩ (.slice P1 q1 d1)).setCell ⟨w.heap.size, 2, none⟩ (.slice P2 q2 d2)).setCell ⟨w.heap.size, 3, none⟩ (.slice P3 q3 d3)).setCell ⟨w.heap.size, 4, none⟩ (.slice P4 q4 d4)) = w3 at *
    cases ri
    · refine (EN.out _ _ O3.out rfl).mono ?_; rintro e w4 ⟨rfl, u4⟩
      obtain ⟨a0, a1', a2', a3', a4⟩ := B3.out.up u4
      have lt4 := cell_lt a0
      go_wp2_with fail
      clear a0 a1' a2' a3' a4 lt4
      have u5 := u4.alloc' (.cells #[.int .i64 0, .int .i64 0, .int .i64 0, .int .i64 0, .int .i64 0, .int .i64 0, .int .i64 0] 35)
      refine (RI.out _ _ (O3.out.up u5)).mono ?_; rintro e w6 ⟨rfl, u6⟩
      go_wp2_with fail
      go_ret
      exact ⟨rfl, (U3.out.trans u5).trans u6⟩
    have E4 := Lib.hid (enc4 X (1 + (n : Int)) (by omega) (by omega) hri)
    have D4 := Lib.hid (dec4 X (1 + (n : Int)) (by omega) (by omega) hri hbi.out k3 (encL X 4 ++ k3) _ rfl rfl)
    have DS0 := dec_less X 4 (1 + (n : Int)) hri (by omega) (by omega)
    have bd4 := enc_bd (z := 4) hri
    clear hri RI EN
    obtain ⟨m4, hm4⟩ : ∃ m4, (encL X 4).length = m4 := ⟨_, rfl⟩
    have EL := Lib.hid hm4
    rw [hm4] at E4 bd4
    have DS := Lib.hid (DS0 m4 hm4 bd4.2)
    clear hm4 DS0
    obtain ⟨bd4a, bd4b⟩ := bd4
    obtain ⟨l0n, hl0⟩ : ∃ k, X.ks.length = k := ⟨_, rfl⟩
    obtain ⟨l1n, hl1⟩ : ∃ k, X.js.length = k := ⟨_, rfl⟩
    obtain ⟨l2n, hl2⟩ : ∃ k, X.ls.length = k := ⟨_, rfl⟩
    obtain ⟨l3n, hl3⟩ : ∃ k, X.sd.length = k := ⟨_, rfl⟩
    obtain ⟨l4n, hl4⟩ : ∃ k, X.ut.length = k := ⟨_, rfl⟩
    obtain ⟨l5n, hl5⟩ : ∃ k, (nmB X).length = k := ⟨_, rfl⟩
    rw [hl0, hl1, hl2, hl3, hl4, hl5] at E4 D4 DS
    clear hl0 hl1 hl2 hl3 hl4 hl5
    refine (E4.out _ _ O3.out).mono ?_; rintro e w4 ⟨A5, c5, rfl, f5, g5, r5, u4⟩
    have H5 := Lib.hid (HBox.new w4 (1 + (n : Int)) l4n l3n l2n l1n l0n l5n 35)
    have ua := Up.alloc w4 (.cells #[.int .i64 (1 + (n : Int)), .int .i64 l4n, .int .i64 l3n, .int .i64 l2n, .int .i64 l1n, .int .i64 l0n, .int .i64 l5n] 35)
    have u5 := u4.trans ua
    have O5 := Lib.hid (O3.out.up u5)
    have B5 := Lib.hid (B3.out.up u5)
    have U5 := Lib.hid (U3.out.trans u5)
    have R5 := Lib.hid (r5.up ua)
    have m4p : ¬ (m4 : Int) = 0 := by omega
    have m4q : ¬ m4 = 0 := by omega
    clear r5 u4 ua u5 O3 B3 U3 E4
    go_wp2_with fail
    generalize w4.alloc (.cells #[.int .i64 (1 + (n : Int)), .int .i64 l4n, .int .i64 l3n, .int .i64 l2n, .int .i64 l1n, .int .i64 l0n, .int .i64 l5n] 35) = w5 at *
    refine wp_region_own (s := 12) (late := fun i => i == 10 || i == 13) (G := bG w5.heap.size A5 m4 c5 A3 p3 c3 (encL X 4) k3 (hv (1 + (n : Int)) l4n l3n l2n l1n l0n l5n) 4 X) (N := bN) (T := bT w5 X) (by kernel_rfl) (by show (12 : Nat) < 14; decide) rfl (by kernel_rfl) (by kernel_rfl) (by kernel_rfl) bG_up bG_N ?step ?pure ?store ?keep ?fin
    case step =>
      intro i o his hla ho a w' u old pre
      have p11 : a.tmps.getD 11 undef = .slice A5 m4 c5 := getD_some ((old 11 (by kernel_rfl)).trans rfl)
      have p03 : a.tmps.getD 3 undef = .slice A3 p3 c3 := getD_some ((old 3 (by kernel_rfl)).trans rfl)
      have p12 : a.tmps.getD 12 undef = .pointer (some ⟨w4.heap.size, 0, none⟩) := getD_some ((old 12 (by kernel_rfl)).trans rfl)
      have p10 : a.tmps.getD 10 undef = .int .i64 4 := getD_some ((old 10 (by kernel_rfl)).trans rfl)
      clear old
      have hi := lt_of_get ho
      have hi' : i = 0 ∨ i = 1 ∨ i = 2 ∨ i = 3 ∨ i = 4 ∨ i = 5 ∨ i = 6 ∨ i = 7 ∨ i = 8 ∨ i = 9 ∨ i = 10 ∨ i = 11 ∨ i = 12 ∨ i = 13 := by have : i < 14 := hi; omega
      rcases hi' with rfl | rfl | rfl | rfl | rfl | rfl | rfl | rfl | rfl | rfl | rfl | rfl | rfl | rfl
      · injection ho with ho; subst ho
        exact wp_run w' a _ (ex_newU w' a _ rfl) ⟨_, rfl, fun d hd => (by injection hd with hd; subst hd; exact (show ∃ g, _ from ⟨_, rfl, World.ownsRow_made w' #[] 0 u.size (Nat.zero_le _) rfl⟩)), u.alloc' _, .inl (Up.alloc _ _)⟩
      · injection ho with ho; subst ho
        exact wp_run w' a _ (ex_mov w' a _ 11 _ p11 rfl) ⟨_, rfl, fun d hd => (by injection hd with hd; subst hd; exact (show Value.slice A5 m4 c5 = _ from rfl)), u, .inl (Up.refl _)⟩
      · injection ho with ho
        rw [← ho] at pre
        obtain ⟨g, hg, hown⟩ := (show ∃ g, a.tmps.getD 52 undef = .slice (some ⟨g, 0, none⟩) 0 0 ∧ w'.ownsRow w5.heap.size 5 1 (.slice (some ⟨g, 0, none⟩) 0 0) 0 [] from (pre ⟨0, .data⟩ (by simp) rfl _ 52 rfl rfl))
        obtain ⟨v', w'', h1, h2, h3⟩ := ex_appU w' a o w5.heap.size 52 53 g hg hown A5 m4 c5 (encL X 4) (show a.tmps.getD 53 undef = .slice A5 m4 c5 from (pre ⟨1, .data⟩ (by simp) rfl _ 53 rfl rfl)) EL.out (R5.out.up u) (by omega) u.size (by rw [← ho]; rfl)
        exact wp_run w' a o h1 ⟨_, rfl, fun d hd => (by rw [← ho] at hd; injection hd with hd; subst hd; exact (show Ow w'' w5.heap.size v' (encL X 4) from h2)), u.trans h3, .inl h3⟩
      · injection ho with ho; subst ho
        exact wp_run w' a _ (ex_mov w' a _ 3 _ p03 rfl) ⟨_, rfl, fun d hd => (by injection hd with hd; subst hd; exact (show Value.slice A3 p3 c3 = _ from rfl)), u, .inl (Up.refl _)⟩
      · injection ho with ho; subst ho
        have h54 : Ow w' w5.heap.size (a.tmps.getD 54 undef) (encL X 4) := (pre ⟨2, .data⟩ (by simp) rfl _ 54 rfl rfl)
        refine wp_append_bytes w' _ _ rfl w5.heap.size _ (encL X 4) rfl h54 A3 k3 p3 c3 (show a.tmps.getD 55 undef = .slice A3 p3 c3 from (pre ⟨3, .data⟩ (by simp) rfl _ 55 rfl rfl)) K3.out (R3.out.up (U5.out.trans u)) (by have := EL.out; have := K3.out; omega) u.size ?_
        intro v' w'' ho hg _
        refine ⟨v', rfl, fun d hd => (by injection hd with hd; subst hd; exact (show Ow w'' w5.heap.size v' (encL X 4 ++ k3) from ho)), Up.grown u hg h54.block, .inr ?_⟩
        intro j p d v'' hal hp hpd hG
        have hj := lt_of_get hp
        have hj' : j = 0 ∨ j = 1 ∨ j = 2 ∨ j = 3 ∨ j = 4 ∨ j = 5 ∨ j = 6 ∨ j = 7 ∨ j = 8 ∨ j = 9 ∨ j = 10 ∨ j = 11 ∨ j = 12 ∨ j = 13 := by have : j < 14 := hj; omega
        rcases hj' with rfl | rfl | rfl | rfl | rfl | rfl | rfl | rfl | rfl | rfl | rfl | rfl | rfl | rfl
        · exact absurd hal (no_true (by kernel_rfl))
        · exact absurd hal (no_true (by kernel_rfl))
        · exact absurd hal (no_true (by kernel_rfl))
        · exact absurd hal (no_true (by kernel_rfl))
        · exact absurd hal (no_true (by kernel_rfl))
        · injection hp with hp; subst hp; injection hpd with hpd; subst hpd; exact hG
        · injection hp with hp; subst hp; injection hpd with hpd; subst hpd; exact hG
        · exact absurd hal (no_true (by kernel_rfl))
        · exact absurd hal (no_true (by kernel_rfl))
        · exact absurd hal (no_true (by kernel_rfl))
        · exact absurd hal (no_true (by kernel_rfl))
        · injection hp with hp; subst hp; injection hpd with hpd; subst hpd
          obtain ⟨b, q1', q2', q3'⟩ := (show ∃ b, v'' = .pointer (some ⟨b, 0, none⟩) ∧ w5.heap.size ≤ b ∧ w'.heap[b]? = some (.cells #[.slice none 0 0, .slice none 0 0, .slice none 0 0, .slice none 0 0, .slice none 0 0] 27 (0, 0)) from hG)
          exact (show ∃ b, _ from ⟨b, q1', q2', heap_grown hg q3' (row_ty h54 q3' (by decide))⟩)
        · exact absurd hal (no_true (by kernel_rfl))
        · exact absurd hal (no_true (by kernel_rfl))
      · injection ho with ho; subst ho
        exact wp_run w' a _ (ex_ldH w' a _ 12 _ _ _ _ _ _ _ _ p12 (H5.out.up u) rfl) ⟨_, rfl, fun d hd => (by injection hd with hd; subst hd; exact (show (hv (1 + (n : Int)) l4n l3n l2n l1n l0n l5n) = _ from rfl)), u, .inl (Up.refl _)⟩
      · injection ho with ho; subst ho
        exact wp_run w' a _ (ex_mov w' a _ 10 _ p10 rfl) ⟨_, rfl, fun d hd => (by injection hd with hd; subst hd; exact (show Value.int .i64 4 = _ from rfl)), u, .inl (Up.refl _)⟩
      · injection ho with ho; subst ho
        have h56 : Ow w' w5.heap.size (a.tmps.getD 56 undef) (encL X 4 ++ k3) := (pre ⟨4, .data⟩ (by simp) rfl _ 56 rfl rfl)
        obtain ⟨A6, c6, e6, f6, g6, r6, _⟩ := h56.form
        refine wp_call3 w' a _ 21 (fun args w => call_dec args w) 56 57 58 _ _ _ _ rfl e6 (show a.tmps.getD 57 undef = (hv (1 + (n : Int)) l4n l3n l2n l1n l0n l5n) from (pre ⟨5, .data⟩ (by simp) rfl _ 57 rfl rfl)) (show a.tmps.getD 58 undef = .int .i64 4 from (pre ⟨6, .data⟩ (by simp) rfl _ 58 rfl rfl)) ?_
        refine (D4.out A6 c6 w' f6 g6 r6).mono ?_
        rintro e w'' ⟨vd, rfl, bd, ud⟩
        exact ⟨_, rfl, _, rfl, fun d hd => (by injection hd with hd; subst hd; exact (show ∃ v', _ ∧ BkR w'' v' X from ⟨_, rfl, bd⟩)), u.trans ud, .inl ud⟩
      · injection ho with ho; subst ho
        obtain ⟨v', e1, e2⟩ := (show ∃ v', a.tmps.getD 59 undef = .tuple #[v', .int .i64 0] ∧ BkR w' v' X from (pre ⟨7, .data⟩ (by simp) rfl _ 59 rfl rfl))
        exact wp_run w' a _ (ex_mov w' a _ 59 _ e1 rfl) ⟨_, rfl, fun d hd => (by injection hd with hd; subst hd; exact (show ∃ v', _ ∧ BkR w' v' X from ⟨_, rfl, e2⟩)), u, .inl (Up.refl _)⟩
      · injection ho with ho; subst ho
        obtain ⟨v', e1, e2⟩ := (show ∃ v', a.tmps.getD 51 undef = .tuple #[v', .int .i64 0] ∧ BkR w' v' X from (pre ⟨8, .data⟩ (by simp) rfl _ 51 rfl rfl))
        exact wp_run w' a _ (ex_ext0 w' a _ 51 _ _ e1 rfl) ⟨_, rfl, fun d hd => (by injection hd with hd; subst hd; exact (show BkR w' v' X from e2)), u, .inl (Up.refl _)⟩
      · cases hla
      · injection ho with ho; subst ho
        exact wp_run w' a _ (ex_box w' a _ rfl) ⟨_, rfl, fun d hd => (by injection hd with hd; subst hd; exact (show ∃ b, _ from ⟨_, rfl, u.size, heap_alloc_new w' _⟩)), u.alloc' _, .inl (Up.alloc _ _)⟩
      · exact absurd rfl his
      · cases hla
    case pure =>
      intro i o hla ho a w' old pre
      clear old
      have hi := lt_of_get ho
      have hi' : i = 0 ∨ i = 1 ∨ i = 2 ∨ i = 3 ∨ i = 4 ∨ i = 5 ∨ i = 6 ∨ i = 7 ∨ i = 8 ∨ i = 9 ∨ i = 10 ∨ i = 11 ∨ i = 12 ∨ i = 13 := by have : i < 14 := hi; omega
      rcases hi' with rfl | rfl | rfl | rfl | rfl | rfl | rfl | rfl | rfl | rfl | rfl | rfl | rfl | rfl
      · cases hla
      · cases hla
      · cases hla
      · cases hla
      · cases hla
      · cases hla
      · cases hla
      · cases hla
      · cases hla
      · cases hla
      · injection ho with ho; subst ho
        obtain ⟨v', e1⟩ := (show ∃ v', a.tmps.getD 51 undef = .tuple #[v', .int .i64 0] from (pre ⟨8, .data⟩ (by simp) rfl _ 51 rfl rfl))
        exact ⟨_, ex_ext1 w' a _ 51 _ _ e1 rfl, fun d hd => (by injection hd with hd; subst hd; exact (show Value.int .i64 0 = _ from rfl))⟩
      · cases hla
      · cases hla
      · injection ho with ho; subst ho
        have e1 := (show a.tmps.getD 61 undef = .int .i64 0 from (pre ⟨10, .data⟩ (by simp) rfl _ 61 rfl rfl))
        exact ⟨_, ex_asg w' a _ 61 _ e1 rfl, fun d hd => (by injection hd with hd; subst hd; exact (show Value.int .i64 0 = _ from rfl))⟩
    case store =>
      intro o ho a w' u sz old pre
      injection ho with ho; subst ho
      obtain ⟨b, h14, hbb, hbx⟩ := (show ∃ b, a.tmps.getD 14 undef = .pointer (some ⟨b, 0, none⟩) ∧ w5.heap.size ≤ b ∧ w'.heap[b]? = some (.cells #[.slice none 0 0, .slice none 0 0, .slice none 0 0, .slice none 0 0, .slice none 0 0] 27 (0, 0)) from (pre ⟨11, .data⟩ (by simp) rfl _ 14 rfl rfl))
      have h60 : BkR w' (a.tmps.getD 60 undef) X := (pre ⟨9, .data⟩ (by simp) rfl _ 60 rfl rfl)
      obtain ⟨S0, s0, T0, S1, s1, T1, S2, s2, T2, S3, s3, T3, S4, s4, T4, e60⟩ := h60.form
      rw [e60] at h60
      refine wp_stoB w' a _ 14 60 b _ _ _ _ _ _ _ _ _ _ _ _ _ _ _ h14 e60 (bx_heap hbx).1 (bx_heap hbx).2 rfl rfl ⟨rfl, ?_⟩
      exact ⟨b, _, _, _, _, _, _, _, _, _, _, _, _, _, _, _, h14, hbb, (bx_heap (five_heap hbx _ _ _ _ _)).1, bk_box h60 hbx _ _ _ _ _, u.five hbb _ _ _ _ _⟩
    case keep =>
      intro a w' i p d v hla hp hpd hT
      obtain ⟨b, S0, s0, T0, S1, s1, T1, S2, s2, T2, S3, s3, T3, S4, s4, T4, h14, rest⟩ := hT
      have hi := lt_of_get hp
      have hi' : i = 0 ∨ i = 1 ∨ i = 2 ∨ i = 3 ∨ i = 4 ∨ i = 5 ∨ i = 6 ∨ i = 7 ∨ i = 8 ∨ i = 9 ∨ i = 10 ∨ i = 11 ∨ i = 12 ∨ i = 13 := by have : i < 14 := hi; omega
      rcases hi' with rfl | rfl | rfl | rfl | rfl | rfl | rfl | rfl | rfl | rfl | rfl | rfl | rfl | rfl
      · cases hla
      · cases hla
      · cases hla
      · cases hla
      · cases hla
      · cases hla
      · cases hla
      · cases hla
      · cases hla
      · cases hla
      · injection hp with hp; subst hp; injection hpd with hpd; subst hpd
        refine ⟨b, S0, s0, T0, S1, s1, T1, S2, s2, T2, S3, s3, T3, S4, s4, T4, ?_, rest⟩
        rw [← h14]; simp [Act.put, Array.getD_eq_getD_getElem?]
      · cases hla
      · cases hla
      · injection hp with hp; subst hp; injection hpd with hpd; subst hpd
        refine ⟨b, S0, s0, T0, S1, s1, T1, S2, s2, T2, S3, s3, T3, S4, s4, T4, ?_, rest⟩
        rw [← h14]; simp [Act.put, Array.getD_eq_getD_getElem?]
    case fin =>
      intro a w6 sz df old hT hN
      obtain ⟨b, S0, s0, T0, S1, s1, T1, S2, s2, T2, S3, s3, T3, S4, s4, T4, h14, hbb, bx6, v6, u6⟩ := hT
      have h15 : a.tmps.getD 15 undef = .int .i64 0 := hN 13 _ 15 rfl rfl rfl
      have p4 : a.tmps[4]? = some (.pointer (some ⟨w.heap.size, 0, none⟩)) := (old 4 (by kernel_rfl)).trans rfl
      have p9 : a.tmps[9]? = some (.bool true) := (old 9 (by kernel_rfl)).trans rfl
      have p10 : a.tmps[10]? = some (.int .i64 4) := (old 10 (by kernel_rfl)).trans rfl
      have p11 : a.tmps[11]? = some (.slice A5 m4 c5) := (old 11 (by kernel_rfl)).trans rfl
      have p12 : a.tmps[12]? = some (.pointer (some ⟨w4.heap.size, 0, none⟩)) := (old 12 (by kernel_rfl)).trans rfl
      have H6 := Lib.hid (H5.out.up u6)
      have R6 := Lib.hid (R5.out.up u6)
      have O6 := Lib.hid (O5.out.up u6)
      have B6 := Lib.hid (B5.out.up u6)
      have U6 := Lib.hid (U5.out.trans u6)
      have X6 := Lib.hid bx6
      have V6 := Lib.hid v6
      clear old hN u6 bx6 v6 H5 R5 O5 B5 U5 D4 R3 K3
      obtain ⟨⟨l⟩, df'⟩ := a
      replace sz : l.length = 89 := sz
      obtain ⟨x0, t0, rfl, s0⟩ := cons_of sz
      clear sz
      obtain ⟨x1, t1, rfl, s1⟩ := cons_of s0
      clear s0
      obtain ⟨x2, t2, rfl, s2⟩ := cons_of s1
      clear s1
      obtain ⟨x3, t3, rfl, s3⟩ := cons_of s2
      clear s2
      obtain ⟨x4, t4, rfl, s4⟩ := cons_of s3
      clear s3
      obtain ⟨x5, t5, rfl, s5⟩ := cons_of s4
      clear s4
      obtain ⟨x6, t6, rfl, s6⟩ := cons_of s5
      clear s5
      obtain ⟨x7, t7, rfl, s7⟩ := cons_of s6
      clear s6
      obtain ⟨x8, t8, rfl, s8⟩ := cons_of s7
      clear s7
      obtain ⟨x9, t9, rfl, s9⟩ := cons_of s8
      clear s8
      obtain ⟨x10, t10, rfl, s10⟩ := cons_of s9
      clear s9
      obtain ⟨x11, t11, rfl, s11⟩ := cons_of s10
      clear s10
      obtain ⟨x12, t12, rfl, s12⟩ := cons_of s11
      clear s11
      obtain ⟨x13, t13, rfl, s13⟩ := cons_of s12
      clear s12
      obtain ⟨x14, t14, rfl, s14⟩ := cons_of s13
      clear s13
      obtain ⟨x15, t15, rfl, s15⟩ := cons_of s14
      clear s14
      obtain ⟨x16, t16, rfl, s16⟩ := cons_of s15
      clear s15
      obtain ⟨x17, t17, rfl, s17⟩ := cons_of s16
      clear s16
      obtain ⟨x18, t18, rfl, s18⟩ := cons_of s17
      clear s17
      obtain ⟨x19, t19, rfl, s19⟩ := cons_of s18
      clear s18
      obtain ⟨x20, t20, rfl, s20⟩ := cons_of s19
      clear s19
      obtain ⟨x21, t21, rfl, s21⟩ := cons_of s20
      clear s20
      obtain ⟨x22, t22, rfl, s22⟩ := cons_of s21
      clear s21
      obtain ⟨x23, t23, rfl, s23⟩ := cons_of s22
      clear s22
      obtain ⟨x24, t24, rfl, s24⟩ := cons_of s23
      clear s23
      obtain ⟨x25, t25, rfl, s25⟩ := cons_of s24
      clear s24
      obtain ⟨x26, t26, rfl, s26⟩ := cons_of s25
      clear s25
      obtain ⟨x27, t27, rfl, s27⟩ := cons_of s26
      clear s26
      obtain ⟨x28, t28, rfl, s28⟩ := cons_of s27
      clear s27
      obtain ⟨x29, t29, rfl, s29⟩ := cons_of s28
      clear s28
      obtain ⟨x30, t30, rfl, s30⟩ := cons_of s29
      clear s29
      obtain ⟨x31, t31, rfl, s31⟩ := cons_of s30
      clear s30
      obtain ⟨x32, t32, rfl, s32⟩ := cons_of s31
      clear s31
      obtain ⟨x33, t33, rfl, s33⟩ := cons_of s32
      clear s32
      obtain ⟨x34, t34, rfl, s34⟩ := cons_of s33
      clear s33
      obtain ⟨x35, t35, rfl, s35⟩ := cons_of s34
      clear s34
      obtain ⟨x36, t36, rfl, s36⟩ := cons_of s35
      clear s35
      obtain ⟨x37, t37, rfl, s37⟩ := cons_of s36
      clear s36
      obtain ⟨x38, t38, rfl, s38⟩ := cons_of s37
      clear s37
      obtain ⟨x39, t39, rfl, s39⟩ := cons_of s38
      clear s38
      obtain ⟨x40, t40, rfl, s40⟩ := cons_of s39
      clear s39
      obtain ⟨x41, t41, rfl, s41⟩ := cons_of s40
      clear s40
      obtain ⟨x42, t42, rfl, s42⟩ := cons_of s41
      clear s41
      obtain ⟨x43, t43, rfl, s43⟩ := cons_of s42
      clear s42
      obtain ⟨x44, t44, rfl, s44⟩ := cons_of s43
      clear s43
      obtain ⟨x45, t45, rfl, s45⟩ := cons_of s44
      clear s44
      obtain ⟨x46, t46, rfl, s46⟩ := cons_of s45
      clear s45
      obtain ⟨x47, t47, rfl, s47⟩ := cons_of s46
      clear s46
      obtain ⟨x48, t48, rfl, s48⟩ := cons_of s47
      clear s47
      obtain ⟨x49, t49, rfl, s49⟩ := cons_of s48
      clear s48
      obtain ⟨x50, t50, rfl, s50⟩ := cons_of s49
      clear s49
      obtain ⟨x51, t51, rfl, s51⟩ := cons_of s50
      clear s50
      obtain ⟨x52, t52, rfl, s52⟩ := cons_of s51
      clear s51
      obtain ⟨x53, t53, rfl, s53⟩ := cons_of s52
      clear s52
      obtain ⟨x54, t54, rfl, s54⟩ := cons_of s53
      clear s53
      obtain ⟨x55, t55, rfl, s55⟩ := cons_of s54
      clear s54
      obtain ⟨x56, t56, rfl, s56⟩ := cons_of s55
      clear s55
      obtain ⟨x57, t57, rfl, s57⟩ := cons_of s56
      clear s56
      obtain ⟨x58, t58, rfl, s58⟩ := cons_of s57
      clear s57
      obtain ⟨x59, t59, rfl, s59⟩ := cons_of s58
      clear s58
      obtain ⟨x60, t60, rfl, s60⟩ := cons_of s59
      clear s59
      obtain ⟨x61, t61, rfl, s61⟩ := cons_of s60
      clear s60
      obtain ⟨x62, t62, rfl, s62⟩ := cons_of s61
      clear s61
      obtain ⟨x63, t63, rfl, s63⟩ := cons_of s62
      clear s62
      obtain ⟨x64, t64, rfl, s64⟩ := cons_of s63
      clear s63
      obtain ⟨x65, t65, rfl, s65⟩ := cons_of s64
      clear s64
      obtain ⟨x66, t66, rfl, s66⟩ := cons_of s65
      clear s65
      obtain ⟨x67, t67, rfl, s67⟩ := cons_of s66
      clear s66
      obtain ⟨x68, t68, rfl, s68⟩ := cons_of s67
      clear s67
      obtain ⟨x69, t69, rfl, s69⟩ := cons_of s68
      clear s68
      obtain ⟨x70, t70, rfl, s70⟩ := cons_of s69
      clear s69
      obtain ⟨x71, t71, rfl, s71⟩ := cons_of s70
      clear s70
      obtain ⟨x72, t72, rfl, s72⟩ := cons_of s71
      clear s71
      obtain ⟨x73, t73, rfl, s73⟩ := cons_of s72
      clear s72
      obtain ⟨x74, t74, rfl, s74⟩ := cons_of s73
      clear s73
      obtain ⟨x75, t75, rfl, s75⟩ := cons_of s74
      clear s74
      obtain ⟨x76, t76, rfl, s76⟩ := cons_of s75
      clear s75
      obtain ⟨x77, t77, rfl, s77⟩ := cons_of s76
      clear s76
      obtain ⟨x78, t78, rfl, s78⟩ := cons_of s77
      clear s77
      obtain ⟨x79, t79, rfl, s79⟩ := cons_of s78
      clear s78
      obtain ⟨x80, t80, rfl, s80⟩ := cons_of s79
      clear s79
      obtain ⟨x81, t81, rfl, s81⟩ := cons_of s80
      clear s80
      obtain ⟨x82, t82, rfl, s82⟩ := cons_of s81
      clear s81
      obtain ⟨x83, t83, rfl, s83⟩ := cons_of s82
      clear s82
      obtain ⟨x84, t84, rfl, s84⟩ := cons_of s83
      clear s83
      obtain ⟨x85, t85, rfl, s85⟩ := cons_of s84
      clear s84
      obtain ⟨x86, t86, rfl, s86⟩ := cons_of s85
      clear s85
      obtain ⟨x87, t87, rfl, s87⟩ := cons_of s86
      clear s86
      obtain ⟨x88, t88, rfl, s88⟩ := cons_of s87
      clear s87
      obtain rfl : t88 = [] := List.eq_nil_of_length_eq_zero s88
      have g4 : x4 = .pointer (some ⟨w.heap.size, 0, none⟩) := Option.some.inj p4
      have g9 : x9 = .bool true := Option.some.inj p9
      have g10 : x10 = .int .i64 4 := Option.some.inj p10
      have g11 : x11 = .slice A5 m4 c5 := Option.some.inj p11
      have g12 : x12 = .pointer (some ⟨w4.heap.size, 0, none⟩) := Option.some.inj p12
      have g14 : x14 = .pointer (some ⟨b, 0, none⟩) := h14
      have g15 : x15 = .int .i64 0 := h15
      have gd : df' = [] := df
      subst g4 g9 g10 g11 g12 g14 g15 gd
      clear p4 p9 p10 p11 p12 h14 h15 df s88
      go_wp2_with fail
      refine wp_region_own (s := 12) (late := fun i => i == 10 || i == 13) (G := cG w6.heap.size A5 m4 c5 (hv (1 + (n : Int)) l4n l3n l2n l1n l0n l5n) 4) (N := cN) (T := fun _ w7 => Up w6 w7) (by kernel_rfl) (by show (12 : Nat) < 14; decide) rfl (by kernel_rfl) (by kernel_rfl) (by kernel_rfl) cG_up cG_N ?step ?pure ?store ?keep ?fin
      case step =>
        intro i o his hla ho a w' u old pre
        have p11 : a.tmps.getD 11 undef = .slice A5 m4 c5 := getD_some ((old 11 (by kernel_rfl)).trans rfl)
        have p12 : a.tmps.getD 12 undef = .pointer (some ⟨w4.heap.size, 0, none⟩) := getD_some ((old 12 (by kernel_rfl)).trans rfl)
        have p10 : a.tmps.getD 10 undef = .int .i64 4 := getD_some ((old 10 (by kernel_rfl)).trans rfl)
        clear old
        have hi := lt_of_get ho
        have hi' : i = 0 ∨ i = 1 ∨ i = 2 ∨ i = 3 ∨ i = 4 ∨ i = 5 ∨ i = 6 ∨ i = 7 ∨ i = 8 ∨ i = 9 ∨ i = 10 ∨ i = 11 ∨ i = 12 ∨ i = 13 := by have : i < 14 := hi; omega
        rcases hi' with rfl | rfl | rfl | rfl | rfl | rfl | rfl | rfl | rfl | rfl | rfl | rfl | rfl | rfl
        · injection ho with ho; subst ho
          exact wp_run w' a _ (ex_mov w' a _ 11 _ p11 rfl) ⟨_, rfl, fun d hd => (by injection hd with hd; subst hd; exact (show Value.slice A5 m4 c5 = _ from rfl)), u, .inl (Up.refl _)⟩
        · injection ho with ho; subst ho
          exact wp_run w' a _ (ex_mov w' a _ 11 _ p11 rfl) ⟨_, rfl, fun d hd => (by injection hd with hd; subst hd; exact (show Value.slice A5 m4 c5 = _ from rfl)), u, .inl (Up.refl _)⟩
        · injection ho with ho; subst ho
          exact wp_run w' a _ (ex_lenU w' a _ 64 A5 m4 c5 (show a.tmps.getD 64 undef = .slice A5 m4 c5 from (pre ⟨1, .data⟩ (by simp) rfl _ 64 rfl rfl)) rfl) ⟨_, rfl, fun d hd => (by injection hd with hd; subst hd; exact (show Value.int .i64 (m4 : Int) = _ from rfl)), u, .inl (Up.refl _)⟩
        · injection ho with ho; subst ho
          exact wp_run w' a _ (ex_sub1 w' a _ 65 m4 bd4b (by omega) (show a.tmps.getD 65 undef = .int .i64 (m4 : Int) from (pre ⟨2, .data⟩ (by simp) rfl _ 65 rfl rfl)) rfl) ⟨_, rfl, fun d hd => (by injection hd with hd; subst hd; exact (show Value.int .i64 ((m4 - 1 : Nat) : Int) = _ from rfl)), u, .inl (Up.refl _)⟩
        · injection ho with ho; subst ho
          exact wp_run w' a _ (ex_cutU w' a _ 63 66 A5 m4 c5 (m4 - 1) (by omega) (show a.tmps.getD 63 undef = .slice A5 m4 c5 from (pre ⟨0, .data⟩ (by simp) rfl _ 63 rfl rfl)) (show a.tmps.getD 66 undef = .int .i64 ((m4 - 1 : Nat) : Int) from (pre ⟨3, .data⟩ (by simp) rfl _ 66 rfl rfl)) rfl) ⟨_, rfl, fun d hd => (by injection hd with hd; subst hd; exact (show Value.slice A5 (m4 - 1) c5 = _ from rfl)), u, .inl (Up.refl _)⟩
        · injection ho with ho; subst ho
          exact wp_run w' a _ (ex_ldH w' a _ 12 _ _ _ _ _ _ _ _ p12 (H6.out.up u) rfl) ⟨_, rfl, fun d hd => (by injection hd with hd; subst hd; exact (show (hv (1 + (n : Int)) l4n l3n l2n l1n l0n l5n) = _ from rfl)), u, .inl (Up.refl _)⟩
        · injection ho with ho; subst ho
          exact wp_run w' a _ (ex_mov w' a _ 10 _ p10 rfl) ⟨_, rfl, fun d hd => (by injection hd with hd; subst hd; exact (show Value.int .i64 4 = _ from rfl)), u, .inl (Up.refl _)⟩
        · injection ho with ho; subst ho
          refine wp_call3 w' a _ 21 (fun args w => call_dec args w) 67 68 69 _ _ _ _ rfl (show a.tmps.getD 67 undef = .slice A5 (m4 - 1) c5 from (pre ⟨4, .data⟩ (by simp) rfl _ 67 rfl rfl)) (show a.tmps.getD 68 undef = (hv (1 + (n : Int)) l4n l3n l2n l1n l0n l5n) from (pre ⟨5, .data⟩ (by simp) rfl _ 68 rfl rfl)) (show a.tmps.getD 69 undef = .int .i64 4 from (pre ⟨6, .data⟩ (by simp) rfl _ 69 rfl rfl)) ?_
          refine (DS.out A5 c5 w' f5 g5 (R6.out.up u)).mono ?_
          rintro e w'' ⟨vd, rfl, bd, ud⟩
          exact ⟨_, rfl, _, rfl, fun d hd => (by injection hd with hd; subst hd; exact (show ∃ v', _ ∧ BkR w'' v' bk0 from ⟨_, rfl, bd⟩)), u.trans ud, .inl ud⟩
        · injection ho with ho; subst ho
          obtain ⟨v', e1, e2⟩ := (show ∃ v', a.tmps.getD 70 undef = .tuple #[v', .int .i64 5] ∧ BkR w' v' bk0 from (pre ⟨7, .data⟩ (by simp) rfl _ 70 rfl rfl))
          exact wp_run w' a _ (ex_mov w' a _ 70 _ e1 rfl) ⟨_, rfl, fun d hd => (by injection hd with hd; subst hd; exact (show ∃ v', _ ∧ BkR w' v' bk0 from ⟨_, rfl, e2⟩)), u, .inl (Up.refl _)⟩
        · injection ho with ho; subst ho
          obtain ⟨v', e1, e2⟩ := (show ∃ v', a.tmps.getD 62 undef = .tuple #[v', .int .i64 5] ∧ BkR w' v' bk0 from (pre ⟨8, .data⟩ (by simp) rfl _ 62 rfl rfl))
          exact wp_run w' a _ (ex_ext0 w' a _ 62 _ _ e1 rfl) ⟨_, rfl, fun d hd => (by injection hd with hd; subst hd; exact (show BkR w' v' bk0 from e2)), u, .inl (Up.refl _)⟩
        · cases hla
        · injection ho with ho; subst ho
          exact wp_run w' a _ (ex_box w' a _ rfl) ⟨_, rfl, fun d hd => (by injection hd with hd; subst hd; exact (show ∃ b, _ from ⟨_, rfl, u.size, heap_alloc_new w' _⟩)), u.alloc' _, .inl (Up.alloc _ _)⟩
        · exact absurd rfl his
        · cases hla
      case pure =>
        intro i o hla ho a w' old pre
        clear old
        have hi := lt_of_get ho
        have hi' : i = 0 ∨ i = 1 ∨ i = 2 ∨ i = 3 ∨ i = 4 ∨ i = 5 ∨ i = 6 ∨ i = 7 ∨ i = 8 ∨ i = 9 ∨ i = 10 ∨ i = 11 ∨ i = 12 ∨ i = 13 := by have : i < 14 := hi; omega
        rcases hi' with rfl | rfl | rfl | rfl | rfl | rfl | rfl | rfl | rfl | rfl | rfl | rfl | rfl | rfl
        · cases hla
        · cases hla
        · cases hla
        · cases hla
        · cases hla
        · cases hla
        · cases hla
        · cases hla
        · cases hla
        · cases hla
        · injection ho with ho; subst ho
          obtain ⟨v', e1⟩ := (show ∃ v', a.tmps.getD 62 undef = .tuple #[v', .int .i64 5] from (pre ⟨8, .data⟩ (by simp) rfl _ 62 rfl rfl))
          exact ⟨_, ex_ext1 w' a _ 62 _ _ e1 rfl, fun d hd => (by injection hd with hd; subst hd; exact (show Value.int .i64 5 = _ from rfl))⟩
        · cases hla
        · cases hla
        · injection ho with ho; subst ho
          have e1 := (show a.tmps.getD 72 undef = .int .i64 5 from (pre ⟨10, .data⟩ (by simp) rfl _ 72 rfl rfl))
          exact ⟨_, ex_asg w' a _ 72 _ e1 rfl, fun d hd => (by injection hd with hd; subst hd; exact (show Value.int .i64 5 = _ from rfl))⟩
      case store =>
        intro o ho a w' u sz old pre
        injection ho with ho; subst ho
        obtain ⟨b, h16, hbb', hbx⟩ := (show ∃ b, a.tmps.getD 16 undef = .pointer (some ⟨b, 0, none⟩) ∧ w6.heap.size ≤ b ∧ w'.heap[b]? = some (.cells #[.slice none 0 0, .slice none 0 0, .slice none 0 0, .slice none 0 0, .slice none 0 0] 27 (0, 0)) from (pre ⟨11, .data⟩ (by simp) rfl _ 16 rfl rfl))
        have h71 : BkR w' (a.tmps.getD 71 undef) bk0 := (pre ⟨9, .data⟩ (by simp) rfl _ 71 rfl rfl)
        obtain ⟨F0, f0, I0, F1, f1, I1, F2, f2, I2, F3, f3, I3, F4, f4, I4, e71⟩ := h71.form
        exact wp_stoB w' a _ 16 71 b _ _ _ _ _ _ _ _ _ _ _ _ _ _ _ h16 e71 (bx_heap hbx).1 (bx_heap hbx).2 rfl rfl ⟨rfl, u.five hbb' _ _ _ _ _⟩
      case keep =>
        intro a w' i p d v hla hp hpd hT
        exact hT
      case fin =>
        intro a w7 sz df old hT hN
        have h17 : a.tmps.getD 17 undef = .int .i64 5 := hN 13 _ 17 rfl rfl rfl
        have p4 : a.tmps[4]? = some (.pointer (some ⟨w.heap.size, 0, none⟩)) := (old 4 (by kernel_rfl)).trans rfl
        have p9 : a.tmps[9]? = some (.bool true) := (old 9 (by kernel_rfl)).trans rfl
        have p14 : a.tmps[14]? = some (.pointer (some ⟨b, 0, none⟩)) := (old 14 (by kernel_rfl)).trans rfl
        have p15 : a.tmps[15]? = some (.int .i64 0) := (old 15 (by kernel_rfl)).trans rfl
        have O7 := Lib.hid (O6.out.up hT)
        have B7 := B6.out.up hT
        have X7 := X6.out.up hT
        have V7 := Lib.hid (V6.out.up hT)
        have U7 := Lib.hid (U6.out.trans hT)
        clear old hN hT O6 B6 X6 V6 U6 H6 R6 DS
        obtain ⟨⟨l⟩, df'⟩ := a
        replace sz : l.length = 89 := sz
        obtain ⟨x0, t0, rfl, s0⟩ := cons_of sz
        clear sz
        obtain ⟨x1, t1, rfl, s1⟩ := cons_of s0
        clear s0
        obtain ⟨x2, t2, rfl, s2⟩ := cons_of s1
        clear s1
        obtain ⟨x3, t3, rfl, s3⟩ := cons_of s2
        clear s2
        obtain ⟨x4, t4, rfl, s4⟩ := cons_of s3
        clear s3
        obtain ⟨x5, t5, rfl, s5⟩ := cons_of s4
        clear s4
        obtain ⟨x6, t6, rfl, s6⟩ := cons_of s5
        clear s5
        obtain ⟨x7, t7, rfl, s7⟩ := cons_of s6
        clear s6
        obtain ⟨x8, t8, rfl, s8⟩ := cons_of s7
        clear s7
        obtain ⟨x9, t9, rfl, s9⟩ := cons_of s8
        clear s8
        obtain ⟨x10, t10, rfl, s10⟩ := cons_of s9
        clear s9
        obtain ⟨x11, t11, rfl, s11⟩ := cons_of s10
        clear s10
        obtain ⟨x12, t12, rfl, s12⟩ := cons_of s11
        clear s11
        obtain ⟨x13, t13, rfl, s13⟩ := cons_of s12
        clear s12
        obtain ⟨x14, t14, rfl, s14⟩ := cons_of s13
        clear s13
        obtain ⟨x15, t15, rfl, s15⟩ := cons_of s14
        clear s14
        obtain ⟨x16, t16, rfl, s16⟩ := cons_of s15
        clear s15
        obtain ⟨x17, t17, rfl, s17⟩ := cons_of s16
        clear s16
        obtain ⟨x18, t18, rfl, s18⟩ := cons_of s17
        clear s17
        obtain ⟨x19, t19, rfl, s19⟩ := cons_of s18
        clear s18
        obtain ⟨x20, t20, rfl, s20⟩ := cons_of s19
        clear s19
        obtain ⟨x21, t21, rfl, s21⟩ := cons_of s20
        clear s20
        obtain ⟨x22, t22, rfl, s22⟩ := cons_of s21
        clear s21
        obtain ⟨x23, t23, rfl, s23⟩ := cons_of s22
        clear s22
        obtain ⟨x24, t24, rfl, s24⟩ := cons_of s23
        clear s23
        obtain ⟨x25, t25, rfl, s25⟩ := cons_of s24
        clear s24
        obtain ⟨x26, t26, rfl, s26⟩ := cons_of s25
        clear s25
        obtain ⟨x27, t27, rfl, s27⟩ := cons_of s26
        clear s26
        obtain ⟨x28, t28, rfl, s28⟩ := cons_of s27
        clear s27
        obtain ⟨x29, t29, rfl, s29⟩ := cons_of s28
        clear s28
        obtain ⟨x30, t30, rfl, s30⟩ := cons_of s29
        clear s29
        obtain ⟨x31, t31, rfl, s31⟩ := cons_of s30
        clear s30
        obtain ⟨x32, t32, rfl, s32⟩ := cons_of s31
        clear s31
        obtain ⟨x33, t33, rfl, s33⟩ := cons_of s32
        clear s32
        obtain ⟨x34, t34, rfl, s34⟩ := cons_of s33
        clear s33
        obtain ⟨x35, t35, rfl, s35⟩ := cons_of s34
        clear s34
        obtain ⟨x36, t36, rfl, s36⟩ := cons_of s35
        clear s35
        obtain ⟨x37, t37, rfl, s37⟩ := cons_of s36
        clear s36
        obtain ⟨x38, t38, rfl, s38⟩ := cons_of s37
        clear s37
        obtain ⟨x39, t39, rfl, s39⟩ := cons_of s38
        clear s38
        obtain ⟨x40, t40, rfl, s40⟩ := cons_of s39
        clear s39
        obtain ⟨x41, t41, rfl, s41⟩ := cons_of s40
        clear s40
        obtain ⟨x42, t42, rfl, s42⟩ := cons_of s41
        clear s41
        obtain ⟨x43, t43, rfl, s43⟩ := cons_of s42
        clear s42
        obtain ⟨x44, t44, rfl, s44⟩ := cons_of s43
        clear s43
        obtain ⟨x45, t45, rfl, s45⟩ := cons_of s44
        clear s44
        obtain ⟨x46, t46, rfl, s46⟩ := cons_of s45
        clear s45
        obtain ⟨x47, t47, rfl, s47⟩ := cons_of s46
        clear s46
        obtain ⟨x48, t48, rfl, s48⟩ := cons_of s47
        clear s47
        obtain ⟨x49, t49, rfl, s49⟩ := cons_of s48
        clear s48
        obtain ⟨x50, t50, rfl, s50⟩ := cons_of s49
        clear s49
        obtain ⟨x51, t51, rfl, s51⟩ := cons_of s50
        clear s50
        obtain ⟨x52, t52, rfl, s52⟩ := cons_of s51
        clear s51
        obtain ⟨x53, t53, rfl, s53⟩ := cons_of s52
        clear s52
        obtain ⟨x54, t54, rfl, s54⟩ := cons_of s53
        clear s53
        obtain ⟨x55, t55, rfl, s55⟩ := cons_of s54
        clear s54
        obtain ⟨x56, t56, rfl, s56⟩ := cons_of s55
        clear s55
        obtain ⟨x57, t57, rfl, s57⟩ := cons_of s56
        clear s56
        obtain ⟨x58, t58, rfl, s58⟩ := cons_of s57
        clear s57
        obtain ⟨x59, t59, rfl, s59⟩ := cons_of s58
        clear s58
        obtain ⟨x60, t60, rfl, s60⟩ := cons_of s59
        clear s59
        obtain ⟨x61, t61, rfl, s61⟩ := cons_of s60
        clear s60
        obtain ⟨x62, t62, rfl, s62⟩ := cons_of s61
        clear s61
        obtain ⟨x63, t63, rfl, s63⟩ := cons_of s62
        clear s62
        obtain ⟨x64, t64, rfl, s64⟩ := cons_of s63
        clear s63
        obtain ⟨x65, t65, rfl, s65⟩ := cons_of s64
        clear s64
        obtain ⟨x66, t66, rfl, s66⟩ := cons_of s65
        clear s65
        obtain ⟨x67, t67, rfl, s67⟩ := cons_of s66
        clear s66
        obtain ⟨x68, t68, rfl, s68⟩ := cons_of s67
        clear s67
        obtain ⟨x69, t69, rfl, s69⟩ := cons_of s68
        clear s68
        obtain ⟨x70, t70, rfl, s70⟩ := cons_of s69
        clear s69
        obtain ⟨x71, t71, rfl, s71⟩ := cons_of s70
        clear s70
        obtain ⟨x72, t72, rfl, s72⟩ := cons_of s71
        clear s71
        obtain ⟨x73, t73, rfl, s73⟩ := cons_of s72
        clear s72
        obtain ⟨x74, t74, rfl, s74⟩ := cons_of s73
        clear s73
        obtain ⟨x75, t75, rfl, s75⟩ := cons_of s74
        clear s74
        obtain ⟨x76, t76, rfl, s76⟩ := cons_of s75
        clear s75
        obtain ⟨x77, t77, rfl, s77⟩ := cons_of s76
        clear s76
        obtain ⟨x78, t78, rfl, s78⟩ := cons_of s77
        clear s77
        obtain ⟨x79, t79, rfl, s79⟩ := cons_of s78
        clear s78
        obtain ⟨x80, t80, rfl, s80⟩ := cons_of s79
        clear s79
        obtain ⟨x81, t81, rfl, s81⟩ := cons_of s80
        clear s80
        obtain ⟨x82, t82, rfl, s82⟩ := cons_of s81
        clear s81
        obtain ⟨x83, t83, rfl, s83⟩ := cons_of s82
        clear s82
        obtain ⟨x84, t84, rfl, s84⟩ := cons_of s83
        clear s83
        obtain ⟨x85, t85, rfl, s85⟩ := cons_of s84
        clear s84
        obtain ⟨x86, t86, rfl, s86⟩ := cons_of s85
        clear s85
        obtain ⟨x87, t87, rfl, s87⟩ := cons_of s86
        clear s86
        obtain ⟨x88, t88, rfl, s88⟩ := cons_of s87
        clear s87
        obtain rfl : t88 = [] := List.eq_nil_of_length_eq_zero s88
        have g4 : x4 = .pointer (some ⟨w.heap.size, 0, none⟩) := Option.some.inj p4
        have g9 : x9 = .bool true := Option.some.inj p9
        have g14 : x14 = .pointer (some ⟨b, 0, none⟩) := Option.some.inj p14
        have g15 : x15 = .int .i64 0 := Option.some.inj p15
        have g17 : x17 = .int .i64 5 := h17
        have gd : df' = [] := df
        subst g4 g9 g14 g15 g17 gd
        clear p4 p9 p14 p15 h17 df s88
        go_wp2_with fail
        obtain ⟨a0, a1', a2', a3', a4⟩ := B7
        obtain ⟨b0, b1, b2, b3, b4⟩ := X7
        replace a0 := cell_regrown a0; replace a1' := cell_regrown a1'; replace a2' := cell_regrown a2'; replace a3' := cell_regrown a3'; replace a4 := cell_regrown a4
        replace b0 := cell_regrown b0; replace b1 := cell_regrown b1; replace b2 := cell_regrown b2; replace b3 := cell_regrown b3; replace b4 := cell_regrown b4
        have Q1 := quiet_up (w := w7) (fun V u => ref_blk _ X V (O7.out.up u))
        have Q2 := quiet_up (w := w7) (fun V u => ref_blk _ X V (V7.out.up u))
        have Q3 := quiet_up (w := w7) (fun V u => same_yes _ _ X V (O7.out.up u) (V7.out.up u))
        refine wp_region_quiet_below (by kernel_rfl) (by kernel_rfl) ?_
        repeat (quiet_step (first | (with_reducible exact Q1 _ _) | (with_reducible exact Q2 _ _) | (with_reducible exact Q3 _ _)))
        refine wpQuiet_nil ?_
        intro _ hw'
        obtain ⟨⟨dq, osq⟩, hw''⟩ := hw'
        subst hw''
        go_wp2_with fail
        go_ret
        exact ⟨rfl, U7.out.trans (up_grown w7 dq osq)⟩
  · have RI := Lib.hid (fun w1 v h => bright_any v X 8 (1 + (n : Int)) w1 h)
    have EN := Lib.hid (fun v w1 h hr => bencode_no v X 8 (1 + (n : Int)) w1 h (.inr hr))
    obtain ⟨ri, hri⟩ : ∃ ri, rightB X 8 (1 + (n : Int)) = ri := ⟨_, rfl⟩
    rw [hri] at RI EN
    go_enter Try.func5, Try.ntmps5
    go_wp2_with fail
    refine (shown_any _).mono ?_; rintro e w1 ⟨rfl, u1⟩
    have U1 := Lib.hid (U0.out.trans u1)
    have B1 := Lib.hid (BX.out.up u1)
    have F1 := Lib.hid (FX.out.up u1)
    clear u1 BX FX U0
    obtain ⟨a0, a1', a2', a3', a4⟩ := B1.out
    go_wp2_with fail
    clear a0 a1' a2' a3' a4
    refine (FW.out _ U1.out).mono ?_; rintro e w2 ⟨v2, rfl, o2, u2⟩
    have U2 := Lib.hid (U1.out.trans u2)
    have lt2 : w.heap.size < w1.heap.size := F1.out.1
    obtain ⟨P0, q0, d0, P1, q1, d1, P2, q2, d2, P3, q3, d3, P4, q4, d4, rfl⟩ := o2.rd.form
    have O3 := Lib.hid (o2.low lt2 (.slice P0 q0 d0) (.slice P1 q1 d1) (.slice P2 q2 d2) (.slice P3 q3 d3) (.slice P4 q4 d4)).rd
    have B3 := Lib.hid (Bx5.five (B1.out.up u2) (.slice P0 q0 d0) (.slice P1 q1 d1) (.slice P2 q2 d2) (.slice P3 q3 d3) (.slice P4 q4 d4))
    have U3 := Lib.hid (Up.five U2.out (Nat.le_refl _) (.slice P0 q0 d0) (.slice P1 q1 d1) (.slice P2 q2 d2) (.slice P3 q3 d3) (.slice P4 q4 d4))
    obtain ⟨a0, a1', a2', a3', a4⟩ := B1.out.up u2
    obtain ⟨_, fz⟩ := F1.out.up u2
    have z0 := fz 0; have z1 := fz 1; have z2 := fz 2; have z3 := fz 3; have z4 := fz 4
    clear fz o2 u2 U2 B1 F1 U1 FW
    go_wp2_with fail
    clear a0 a1' a2' a3' a4 z0 z1 z2 z3 z4
    unfold five at O3 B3 U3
    generalize (((((w2.setCell ⟨w.heap.size, 0, none⟩ (.slice P0 q0 d0)).setCell ⟨w.heap.size, 1, none⟩ (.slice P1 q1 d1)).setCell ⟨w.heap.size, 2, none⟩ (.slice P2 q2 d2)).setCell ⟨w.heap.size, 3, none⟩ (.slice P3 q3 d3)).setCell ⟨w.heap.size, 4, none⟩ (.slice P4 q4 d4)) = w3 at *
    cases ri
    · refine (EN.out _ _ O3.out rfl).mono ?_; rintro e w4 ⟨rfl, u4⟩
      obtain ⟨a0, a1', a2', a3', a4⟩ := B3.out.up u4
      have lt4 := cell_lt a0
      go_wp2_with fail
      clear a0 a1' a2' a3' a4 lt4
      have u5 := u4.alloc' (.cells #[.int .i64 0, .int .i64 0, .int .i64 0, .int .i64 0, .int .i64 0, .int .i64 0, .int .i64 0] 35)
      refine (RI.out _ _ (O3.out.up u5)).mono ?_; rintro e w6 ⟨rfl, u6⟩
      go_wp2_with fail
      go_ret
      exact ⟨rfl, (U3.out.trans u5).trans u6⟩
    have E4 := Lib.hid (enc8 X (1 + (n : Int)) (by omega) (by omega) hri)
    have D4 := Lib.hid (dec8 X (1 + (n : Int)) (by omega) (by omega) hri hbi.out k3 (encL X 8 ++ k3) _ rfl rfl)
    have DS0 := dec_less X 8 (1 + (n : Int)) hri (by omega) (by omega)
    have bd4 := enc_bd (z := 8) hri
    clear hri RI EN
    obtain ⟨m4, hm4⟩ : ∃ m4, (encL X 8).length = m4 := ⟨_, rfl⟩
    have EL := Lib.hid hm4
    rw [hm4] at E4 bd4
    have DS := Lib.hid (DS0 m4 hm4 bd4.2)
    clear hm4 DS0
    obtain ⟨bd4a, bd4b⟩ := bd4
    obtain ⟨l0n, hl0⟩ : ∃ k, X.ks.length = k := ⟨_, rfl⟩
    obtain ⟨l1n, hl1⟩ : ∃ k, X.js.length = k := ⟨_, rfl⟩
    obtain ⟨l2n, hl2⟩ : ∃ k, X.ls.length = k := ⟨_, rfl⟩
    obtain ⟨l3n, hl3⟩ : ∃ k, X.sd.length = k := ⟨_, rfl⟩
    obtain ⟨l4n, hl4⟩ : ∃ k, X.ut.length = k := ⟨_, rfl⟩
    obtain ⟨l5n, hl5⟩ : ∃ k, (nmB X).length = k := ⟨_, rfl⟩
    rw [hl0, hl1, hl2, hl3, hl4, hl5] at E4 D4 DS
    clear hl0 hl1 hl2 hl3 hl4 hl5
    refine (E4.out _ _ O3.out).mono ?_; rintro e w4 ⟨A5, c5, rfl, f5, g5, r5, u4⟩
    have H5 := Lib.hid (HBox.new w4 (1 + (n : Int)) l4n l3n l2n l1n l0n l5n 35)
    have ua := Up.alloc w4 (.cells #[.int .i64 (1 + (n : Int)), .int .i64 l4n, .int .i64 l3n, .int .i64 l2n, .int .i64 l1n, .int .i64 l0n, .int .i64 l5n] 35)
    have u5 := u4.trans ua
    have O5 := Lib.hid (O3.out.up u5)
    have B5 := Lib.hid (B3.out.up u5)
    have U5 := Lib.hid (U3.out.trans u5)
    have R5 := Lib.hid (r5.up ua)
    have m4p : ¬ (m4 : Int) = 0 := by omega
    have m4q : ¬ m4 = 0 := by omega
    clear r5 u4 ua u5 O3 B3 U3 E4
    go_wp2_with fail
    generalize w4.alloc (.cells #[.int .i64 (1 + (n : Int)), .int .i64 l4n, .int .i64 l3n, .int .i64 l2n, .int .i64 l1n, .int .i64 l0n, .int .i64 l5n] 35) = w5 at *
    refine wp_region_own (s := 12) (late := fun i => i == 10 || i == 13) (G := bG w5.heap.size A5 m4 c5 A3 p3 c3 (encL X 8) k3 (hv (1 + (n : Int)) l4n l3n l2n l1n l0n l5n) 8 X) (N := bN) (T := bT w5 X) (by kernel_rfl) (by show (12 : Nat) < 14; decide) rfl (by kernel_rfl) (by kernel_rfl) (by kernel_rfl) bG_up bG_N ?step ?pure ?store ?keep ?fin
    case step =>
      intro i o his hla ho a w' u old pre
      have p11 : a.tmps.getD 11 undef = .slice A5 m4 c5 := getD_some ((old 11 (by kernel_rfl)).trans rfl)
      have p03 : a.tmps.getD 3 undef = .slice A3 p3 c3 := getD_some ((old 3 (by kernel_rfl)).trans rfl)
      have p12 : a.tmps.getD 12 undef = .pointer (some ⟨w4.heap.size, 0, none⟩) := getD_some ((old 12 (by kernel_rfl)).trans rfl)
      have p10 : a.tmps.getD 10 undef = .int .i64 8 := getD_some ((old 10 (by kernel_rfl)).trans rfl)
      clear old
      have hi := lt_of_get ho
      have hi' : i = 0 ∨ i = 1 ∨ i = 2 ∨ i = 3 ∨ i = 4 ∨ i = 5 ∨ i = 6 ∨ i = 7 ∨ i = 8 ∨ i = 9 ∨ i = 10 ∨ i = 11 ∨ i = 12 ∨ i = 13 := by have : i < 14 := hi; omega
      rcases hi' with rfl | rfl | rfl | rfl | rfl | rfl | rfl | rfl | rfl | rfl | rfl | rfl | rfl | rfl
      · injection ho with ho; subst ho
        exact wp_run w' a _ (ex_newU w' a _ rfl) ⟨_, rfl, fun d hd => (by injection hd with hd; subst hd; exact (show ∃ g, _ from ⟨_, rfl, World.ownsRow_made w' #[] 0 u.size (Nat.zero_le _) rfl⟩)), u.alloc' _, .inl (Up.alloc _ _)⟩
      · injection ho with ho; subst ho
        exact wp_run w' a _ (ex_mov w' a _ 11 _ p11 rfl) ⟨_, rfl, fun d hd => (by injection hd with hd; subst hd; exact (show Value.slice A5 m4 c5 = _ from rfl)), u, .inl (Up.refl _)⟩
      · injection ho with ho
        rw [← ho] at pre
        obtain ⟨g, hg, hown⟩ := (show ∃ g, a.tmps.getD 52 undef = .slice (some ⟨g, 0, none⟩) 0 0 ∧ w'.ownsRow w5.heap.size 5 1 (.slice (some ⟨g, 0, none⟩) 0 0) 0 [] from (pre ⟨0, .data⟩ (by simp) rfl _ 52 rfl rfl))
        obtain ⟨v', w'', h1, h2, h3⟩ := ex_appU w' a o w5.heap.size 52 53 g hg hown A5 m4 c5 (encL X 8) (show a.tmps.getD 53 undef = .slice A5 m4 c5 from (pre ⟨1, .data⟩ (by simp) rfl _ 53 rfl rfl)) EL.out (R5.out.up u) (by omega) u.size (by rw [← ho]; rfl)
        exact wp_run w' a o h1 ⟨_, rfl, fun d hd => (by rw [← ho] at hd; injection hd with hd; subst hd; exact (show Ow w'' w5.heap.size v' (encL X 8) from h2)), u.trans h3, .inl h3⟩
      · injection ho with ho; subst ho
        exact wp_run w' a _ (ex_mov w' a _ 3 _ p03 rfl) ⟨_, rfl, fun d hd => (by injection hd with hd; subst hd; exact (show Value.slice A3 p3 c3 = _ from rfl)), u, .inl (Up.refl _)⟩
      · injection ho with ho; subst ho
        have h54 : Ow w' w5.heap.size (a.tmps.getD 54 undef) (encL X 8) := (pre ⟨2, .data⟩ (by simp) rfl _ 54 rfl rfl)
        refine wp_append_bytes w' _ _ rfl w5.heap.size _ (encL X 8) rfl h54 A3 k3 p3 c3 (show a.tmps.getD 55 undef = .slice A3 p3 c3 from (pre ⟨3, .data⟩ (by simp) rfl _ 55 rfl rfl)) K3.out (R3.out.up (U5.out.trans u)) (by have := EL.out; have := K3.out; omega) u.size ?_
        intro v' w'' ho hg _
        refine ⟨v', rfl, fun d hd => (by injection hd with hd; subst hd; exact (show Ow w'' w5.heap.size v' (encL X 8 ++ k3) from ho)), Up.grown u hg h54.block, .inr ?_⟩
        intro j p d v'' hal hp hpd hG
        have hj := lt_of_get hp
        have hj' : j = 0 ∨ j = 1 ∨ j = 2 ∨ j = 3 ∨ j = 4 ∨ j = 5 ∨ j = 6 ∨ j = 7 ∨ j = 8 ∨ j = 9 ∨ j = 10 ∨ j = 11 ∨ j = 12 ∨ j = 13 := by have : j < 14 := hj; omega
        rcases hj' with rfl | rfl | rfl | rfl | rfl | rfl | rfl | rfl | rfl | rfl | rfl | rfl | rfl | rfl
        · exact absurd hal (no_true (by kernel_rfl))
        · exact absurd hal (no_true (by kernel_rfl))
        · exact absurd hal (no_true (by kernel_rfl))
        · exact absurd hal (no_true (by kernel_rfl))
        · exact absurd hal (no_true (by kernel_rfl))
        · injection hp with hp; subst hp; injection hpd with hpd; subst hpd; exact hG
        · injection hp with hp; subst hp; injection hpd with hpd; subst hpd; exact hG
        · exact absurd hal (no_true (by kernel_rfl))
        · exact absurd hal (no_true (by kernel_rfl))
        · exact absurd hal (no_true (by kernel_rfl))
        · exact absurd hal (no_true (by kernel_rfl))
        · injection hp with hp; subst hp; injection hpd with hpd; subst hpd
          obtain ⟨b, q1', q2', q3'⟩ := (show ∃ b, v'' = .pointer (some ⟨b, 0, none⟩) ∧ w5.heap.size ≤ b ∧ w'.heap[b]? = some (.cells #[.slice none 0 0, .slice none 0 0, .slice none 0 0, .slice none 0 0, .slice none 0 0] 27 (0, 0)) from hG)
          exact (show ∃ b, _ from ⟨b, q1', q2', heap_grown hg q3' (row_ty h54 q3' (by decide))⟩)
        · exact absurd hal (no_true (by kernel_rfl))
        · exact absurd hal (no_true (by kernel_rfl))
      · injection ho with ho; subst ho
        exact wp_run w' a _ (ex_ldH w' a _ 12 _ _ _ _ _ _ _ _ p12 (H5.out.up u) rfl) ⟨_, rfl, fun d hd => (by injection hd with hd; subst hd; exact (show (hv (1 + (n : Int)) l4n l3n l2n l1n l0n l5n) = _ from rfl)), u, .inl (Up.refl _)⟩
      · injection ho with ho; subst ho
        exact wp_run w' a _ (ex_mov w' a _ 10 _ p10 rfl) ⟨_, rfl, fun d hd => (by injection hd with hd; subst hd; exact (show Value.int .i64 8 = _ from rfl)), u, .inl (Up.refl _)⟩
      · injection ho with ho; subst ho
        have h56 : Ow w' w5.heap.size (a.tmps.getD 56 undef) (encL X 8 ++ k3) := (pre ⟨4, .data⟩ (by simp) rfl _ 56 rfl rfl)
        obtain ⟨A6, c6, e6, f6, g6, r6, _⟩ := h56.form
        refine wp_call3 w' a _ 21 (fun args w => call_dec args w) 56 57 58 _ _ _ _ rfl e6 (show a.tmps.getD 57 undef = (hv (1 + (n : Int)) l4n l3n l2n l1n l0n l5n) from (pre ⟨5, .data⟩ (by simp) rfl _ 57 rfl rfl)) (show a.tmps.getD 58 undef = .int .i64 8 from (pre ⟨6, .data⟩ (by simp) rfl _ 58 rfl rfl)) ?_
        refine (D4.out A6 c6 w' f6 g6 r6).mono ?_
        rintro e w'' ⟨vd, rfl, bd, ud⟩
        exact ⟨_, rfl, _, rfl, fun d hd => (by injection hd with hd; subst hd; exact (show ∃ v', _ ∧ BkR w'' v' X from ⟨_, rfl, bd⟩)), u.trans ud, .inl ud⟩
      · injection ho with ho; subst ho
        obtain ⟨v', e1, e2⟩ := (show ∃ v', a.tmps.getD 59 undef = .tuple #[v', .int .i64 0] ∧ BkR w' v' X from (pre ⟨7, .data⟩ (by simp) rfl _ 59 rfl rfl))
        exact wp_run w' a _ (ex_mov w' a _ 59 _ e1 rfl) ⟨_, rfl, fun d hd => (by injection hd with hd; subst hd; exact (show ∃ v', _ ∧ BkR w' v' X from ⟨_, rfl, e2⟩)), u, .inl (Up.refl _)⟩
      · injection ho with ho; subst ho
        obtain ⟨v', e1, e2⟩ := (show ∃ v', a.tmps.getD 51 undef = .tuple #[v', .int .i64 0] ∧ BkR w' v' X from (pre ⟨8, .data⟩ (by simp) rfl _ 51 rfl rfl))
        exact wp_run w' a _ (ex_ext0 w' a _ 51 _ _ e1 rfl) ⟨_, rfl, fun d hd => (by injection hd with hd; subst hd; exact (show BkR w' v' X from e2)), u, .inl (Up.refl _)⟩
      · cases hla
      · injection ho with ho; subst ho
        exact wp_run w' a _ (ex_box w' a _ rfl) ⟨_, rfl, fun d hd => (by injection hd with hd; subst hd; exact (show ∃ b, _ from ⟨_, rfl, u.size, heap_alloc_new w' _⟩)), u.alloc' _, .inl (Up.alloc _ _)⟩
      · exact absurd rfl his
      · cases hla
    case pure =>
      intro i o hla ho a w' old pre
      clear old
      have hi := lt_of_get ho
      have hi' : i = 0 ∨ i = 1 ∨ i = 2 ∨ i = 3 ∨ i = 4 ∨ i = 5 ∨ i = 6 ∨ i = 7 ∨ i = 8 ∨ i = 9 ∨ i = 10 ∨ i = 11 ∨ i = 12 ∨ i = 13 := by have : i < 14 := hi; omega
      rcases hi' with rfl | rfl | rfl | rfl | rfl | rfl | rfl | rfl | rfl | rfl | rfl | rfl | rfl | rfl
      · cases hla
      · cases hla
      · cases hla
      · cases hla
      · cases hla
      · cases hla
      · cases hla
      · cases hla
      · cases hla
      · cases hla
      · injection ho with ho; subst ho
        obtain ⟨v', e1⟩ := (show ∃ v', a.tmps.getD 51 undef = .tuple #[v', .int .i64 0] from (pre ⟨8, .data⟩ (by simp) rfl _ 51 rfl rfl))
        exact ⟨_, ex_ext1 w' a _ 51 _ _ e1 rfl, fun d hd => (by injection hd with hd; subst hd; exact (show Value.int .i64 0 = _ from rfl))⟩
      · cases hla
      · cases hla
      · injection ho with ho; subst ho
        have e1 := (show a.tmps.getD 61 undef = .int .i64 0 from (pre ⟨10, .data⟩ (by simp) rfl _ 61 rfl rfl))
        exact ⟨_, ex_asg w' a _ 61 _ e1 rfl, fun d hd => (by injection hd with hd; subst hd; exact (show Value.int .i64 0 = _ from rfl))⟩
    case store =>
      intro o ho a w' u sz old pre
      injection ho with ho; subst ho
      obtain ⟨b, h14, hbb, hbx⟩ := (show ∃ b, a.tmps.getD 14 undef = .pointer (some ⟨b, 0, none⟩) ∧ w5.heap.size ≤ b ∧ w'.heap[b]? = some (.cells #[.slice none 0 0, .slice none 0 0, .slice none 0 0, .slice none 0 0, .slice none 0 0] 27 (0, 0)) from (pre ⟨11, .data⟩ (by simp) rfl _ 14 rfl rfl))
      have h60 : BkR w' (a.tmps.getD 60 undef) X := (pre ⟨9, .data⟩ (by simp) rfl _ 60 rfl rfl)
      obtain ⟨S0, s0, T0, S1, s1, T1, S2, s2, T2, S3, s3, T3, S4, s4, T4, e60⟩ := h60.form
      rw [e60] at h60
      refine wp_stoB w' a _ 14 60 b _ _ _ _ _ _ _ _ _ _ _ _ _ _ _ h14 e60 (bx_heap hbx).1 (bx_heap hbx).2 rfl rfl ⟨rfl, ?_⟩
      exact ⟨b, _, _, _, _, _, _, _, _, _, _, _, _, _, _, _, h14, hbb, (bx_heap (five_heap hbx _ _ _ _ _)).1, bk_box h60 hbx _ _ _ _ _, u.five hbb _ _ _ _ _⟩
    case keep =>
      intro a w' i p d v hla hp hpd hT
      obtain ⟨b, S0, s0, T0, S1, s1, T1, S2, s2, T2, S3, s3, T3, S4, s4, T4, h14, rest⟩ := hT
      have hi := lt_of_get hp
      have hi' : i = 0 ∨ i = 1 ∨ i = 2 ∨ i = 3 ∨ i = 4 ∨ i = 5 ∨ i = 6 ∨ i = 7 ∨ i = 8 ∨ i = 9 ∨ i = 10 ∨ i = 11 ∨ i = 12 ∨ i = 13 := by have : i < 14 := hi; omega
      rcases hi' with rfl | rfl | rfl | rfl | rfl | rfl | rfl | rfl | rfl | rfl | rfl | rfl | rfl | rfl
      · cases hla
      · cases hla
      · cases hla
      · cases hla
      · cases hla
      · cases hla
      · cases hla
      · cases hla
      · cases hla
      · cases hla
      · injection hp with hp; subst hp; injection hpd with hpd; subst hpd
        refine ⟨b, S0, s0, T0, S1, s1, T1, S2, s2, T2, S3, s3, T3, S4, s4, T4, ?_, rest⟩
        rw [← h14]; simp [Act.put, Array.getD_eq_getD_getElem?]
      · cases hla
      · cases hla
      · injection hp with hp; subst hp; injection hpd with hpd; subst hpd
        refine ⟨b, S0, s0, T0, S1, s1, T1, S2, s2, T2, S3, s3, T3, S4, s4, T4, ?_, rest⟩
        rw [← h14]; simp [Act.put, Array.getD_eq_getD_getElem?]
    case fin =>
      intro a w6 sz df old hT hN
      obtain ⟨b, S0, s0, T0, S1, s1, T1, S2, s2, T2, S3, s3, T3, S4, s4, T4, h14, hbb, bx6, v6, u6⟩ := hT
      have h15 : a.tmps.getD 15 undef = .int .i64 0 := hN 13 _ 15 rfl rfl rfl
      have p4 : a.tmps[4]? = some (.pointer (some ⟨w.heap.size, 0, none⟩)) := (old 4 (by kernel_rfl)).trans rfl
      have p9 : a.tmps[9]? = some (.bool true) := (old 9 (by kernel_rfl)).trans rfl
      have p10 : a.tmps[10]? = some (.int .i64 8) := (old 10 (by kernel_rfl)).trans rfl
      have p11 : a.tmps[11]? = some (.slice A5 m4 c5) := (old 11 (by kernel_rfl)).trans rfl
      have p12 : a.tmps[12]? = some (.pointer (some ⟨w4.heap.size, 0, none⟩)) := (old 12 (by kernel_rfl)).trans rfl
      have H6 := Lib.hid (H5.out.up u6)
      have R6 := Lib.hid (R5.out.up u6)
      have O6 := Lib.hid (O5.out.up u6)
      have B6 := Lib.hid (B5.out.up u6)
      have U6 := Lib.hid (U5.out.trans u6)
      have X6 := Lib.hid bx6
      have V6 := Lib.hid v6
      clear old hN u6 bx6 v6 H5 R5 O5 B5 U5 D4 R3 K3
      obtain ⟨⟨l⟩, df'⟩ := a
      replace sz : l.length = 89 := sz
      obtain ⟨x0, t0, rfl, s0⟩ := cons_of sz
      clear sz
      obtain ⟨x1, t1, rfl, s1⟩ := cons_of s0
      clear s0
      obtain ⟨x2, t2, rfl, s2⟩ := cons_of s1
      clear s1
      obtain ⟨x3, t3, rfl, s3⟩ := cons_of s2
      clear s2
      obtain ⟨x4, t4, rfl, s4⟩ := cons_of s3
      clear s3
      obtain ⟨x5, t5, rfl, s5⟩ := cons_of s4
      clear s4
      obtain ⟨x6, t6, rfl, s6⟩ := cons_of s5
      clear s5
      obtain ⟨x7, t7, rfl, s7⟩ := cons_of s6
      clear s6
      obtain ⟨x8, t8, rfl, s8⟩ := cons_of s7
      clear s7
      obtain ⟨x9, t9, rfl, s9⟩ := cons_of s8
      clear s8
      obtain ⟨x10, t10, rfl, s10⟩ := cons_of s9
      clear s9
      obtain ⟨x11, t11, rfl, s11⟩ := cons_of s10
      clear s10
      obtain ⟨x12, t12, rfl, s12⟩ := cons_of s11
      clear s11
      obtain ⟨x13, t13, rfl, s13⟩ := cons_of s12
      clear s12
      obtain ⟨x14, t14, rfl, s14⟩ := cons_of s13
      clear s13
      obtain ⟨x15, t15, rfl, s15⟩ := cons_of s14
      clear s14
      obtain ⟨x16, t16, rfl, s16⟩ := cons_of s15
      clear s15
      obtain ⟨x17, t17, rfl, s17⟩ := cons_of s16
      clear s16
      obtain ⟨x18, t18, rfl, s18⟩ := cons_of s17
      clear s17
      obtain ⟨x19, t19, rfl, s19⟩ := cons_of s18
      clear s18
      obtain ⟨x20, t20, rfl, s20⟩ := cons_of s19
      clear s19
      obtain ⟨x21, t21, rfl, s21⟩ := cons_of s20
      clear s20
      obtain ⟨x22, t22, rfl, s22⟩ := cons_of s21
      clear s21
      obtain ⟨x23, t23, rfl, s23⟩ := cons_of s22
      clear s22
      obtain ⟨x24, t24, rfl, s24⟩ := cons_of s23
      clear s23
      obtain ⟨x25, t25, rfl, s25⟩ := cons_of s24
      clear s24
      obtain ⟨x26, t26, rfl, s26⟩ := cons_of s25
      clear s25
      obtain ⟨x27, t27, rfl, s27⟩ := cons_of s26
      clear s26
      obtain ⟨x28, t28, rfl, s28⟩ := cons_of s27
      clear s27
      obtain ⟨x29, t29, rfl, s29⟩ := cons_of s28
      clear s28
      obtain ⟨x30, t30, rfl, s30⟩ := cons_of s29
      clear s29
      obtain ⟨x31, t31, rfl, s31⟩ := cons_of s30
      clear s30
      obtain ⟨x32, t32, rfl, s32⟩ := cons_of s31
      clear s31
      obtain ⟨x33, t33, rfl, s33⟩ := cons_of s32
      clear s32
      obtain ⟨x34, t34, rfl, s34⟩ := cons_of s33
      clear s33
      obtain ⟨x35, t35, rfl, s35⟩ := cons_of s34
      clear s34
      obtain ⟨x36, t36, rfl, s36⟩ := cons_of s35
      clear s35
      obtain ⟨x37, t37, rfl, s37⟩ := cons_of s36
      clear s36
      obtain ⟨x38, t38, rfl, s38⟩ := cons_of s37
      clear s37
      obtain ⟨x39, t39, rfl, s39⟩ := cons_of s38
      clear s38
      obtain ⟨x40, t40, rfl, s40⟩ := cons_of s39
      clear s39
      obtain ⟨x41, t41, rfl, s41⟩ := cons_of s40
      clear s40
      obtain ⟨x42, t42, rfl, s42⟩ := cons_of s41
      clear s41
      obtain ⟨x43, t43, rfl, s43⟩ := cons_of s42
      clear s42
      obtain ⟨x44, t44, rfl, s44⟩ := cons_of s43
      clear s43
      obtain ⟨x45, t45, rfl, s45⟩ := cons_of s44
      clear s44
      obtain ⟨x46, t46, rfl, s46⟩ := cons_of s45
      clear s45
      obtain ⟨x47, t47, rfl, s47⟩ := cons_of s46
      clear s46
      obtain ⟨x48, t48, rfl, s48⟩ := cons_of s47
      clear s47
      obtain ⟨x49, t49, rfl, s49⟩ := cons_of s48
      clear s48
      obtain ⟨x50, t50, rfl, s50⟩ := cons_of s49
      clear s49
      obtain ⟨x51, t51, rfl, s51⟩ := cons_of s50
      clear s50
      obtain ⟨x52, t52, rfl, s52⟩ := cons_of s51
      clear s51
      obtain ⟨x53, t53, rfl, s53⟩ := cons_of s52
      clear s52
      obtain ⟨x54, t54, rfl, s54⟩ := cons_of s53
      clear s53
      obtain ⟨x55, t55, rfl, s55⟩ := cons_of s54
      clear s54
      obtain ⟨x56, t56, rfl, s56⟩ := cons_of s55
      clear s55
      obtain ⟨x57, t57, rfl, s57⟩ := cons_of s56
      clear s56
      obtain ⟨x58, t58, rfl, s58⟩ := cons_of s57
      clear s57
      obtain ⟨x59, t59, rfl, s59⟩ := cons_of s58
      clear s58
      obtain ⟨x60, t60, rfl, s60⟩ := cons_of s59
      clear s59
      obtain ⟨x61, t61, rfl, s61⟩ := cons_of s60
      clear s60
      obtain ⟨x62, t62, rfl, s62⟩ := cons_of s61
      clear s61
      obtain ⟨x63, t63, rfl, s63⟩ := cons_of s62
      clear s62
      obtain ⟨x64, t64, rfl, s64⟩ := cons_of s63
      clear s63
      obtain ⟨x65, t65, rfl, s65⟩ := cons_of s64
      clear s64
      obtain ⟨x66, t66, rfl, s66⟩ := cons_of s65
      clear s65
      obtain ⟨x67, t67, rfl, s67⟩ := cons_of s66
      clear s66
      obtain ⟨x68, t68, rfl, s68⟩ := cons_of s67
      clear s67
      obtain ⟨x69, t69, rfl, s69⟩ := cons_of s68
      clear s68
      obtain ⟨x70, t70, rfl, s70⟩ := cons_of s69
      clear s69
      obtain ⟨x71, t71, rfl, s71⟩ := cons_of s70
      clear s70
      obtain ⟨x72, t72, rfl, s72⟩ := cons_of s71
      clear s71
      obtain ⟨x73, t73, rfl, s73⟩ := cons_of s72
      clear s72
      obtain ⟨x74, t74, rfl, s74⟩ := cons_of s73
      clear s73
      obtain ⟨x75, t75, rfl, s75⟩ := cons_of s74
      clear s74
      obtain ⟨x76, t76, rfl, s76⟩ := cons_of s75
      clear s75
      obtain ⟨x77, t77, rfl, s77⟩ := cons_of s76
      clear s76
      obtain ⟨x78, t78, rfl, s78⟩ := cons_of s77
      clear s77
      obtain ⟨x79, t79, rfl, s79⟩ := cons_of s78
      clear s78
      obtain ⟨x80, t80, rfl, s80⟩ := cons_of s79
      clear s79
      obtain ⟨x81, t81, rfl, s81⟩ := cons_of s80
      clear s80
      obtain ⟨x82, t82, rfl, s82⟩ := cons_of s81
      clear s81
      obtain ⟨x83, t83, rfl, s83⟩ := cons_of s82
      clear s82
      obtain ⟨x84, t84, rfl, s84⟩ := cons_of s83
      clear s83
      obtain ⟨x85, t85, rfl, s85⟩ := cons_of s84
      clear s84
      obtain ⟨x86, t86, rfl, s86⟩ := cons_of s85
      clear s85
      obtain ⟨x87, t87, rfl, s87⟩ := cons_of s86
      clear s86
      obtain ⟨x88, t88, rfl, s88⟩ := cons_of s87
      clear s87
      obtain rfl : t88 = [] := List.eq_nil_of_length_eq_zero s88
      have g4 : x4 = .pointer (some ⟨w.heap.size, 0, none⟩) := Option.some.inj p4
      have g9 : x9 = .bool true := Option.some.inj p9
      have g10 : x10 = .int .i64 8 := Option.some.inj p10
      have g11 : x11 = .slice A5 m4 c5 := Option.some.inj p11
      have g12 : x12 = .pointer (some ⟨w4.heap.size, 0, none⟩) := Option.some.inj p12
      have g14 : x14 = .pointer (some ⟨b, 0, none⟩) := h14
      have g15 : x15 = .int .i64 0 := h15
      have gd : df' = [] := df
      subst g4 g9 g10 g11 g12 g14 g15 gd
      clear p4 p9 p10 p11 p12 h14 h15 df s88
      go_wp2_with fail
      refine wp_region_own (s := 12) (late := fun i => i == 10 || i == 13) (G := cG w6.heap.size A5 m4 c5 (hv (1 + (n : Int)) l4n l3n l2n l1n l0n l5n) 8) (N := cN) (T := fun _ w7 => Up w6 w7) (by kernel_rfl) (by show (12 : Nat) < 14; decide) rfl (by kernel_rfl) (by kernel_rfl) (by kernel_rfl) cG_up cG_N ?step ?pure ?store ?keep ?fin
      case step =>
        intro i o his hla ho a w' u old pre
        have p11 : a.tmps.getD 11 undef = .slice A5 m4 c5 := getD_some ((old 11 (by kernel_rfl)).trans rfl)
        have p12 : a.tmps.getD 12 undef = .pointer (some ⟨w4.heap.size, 0, none⟩) := getD_some ((old 12 (by kernel_rfl)).trans rfl)
        have p10 : a.tmps.getD 10 undef = .int .i64 8 := getD_some ((old 10 (by kernel_rfl)).trans rfl)
        clear old
        have hi := lt_of_get ho
        have hi' : i = 0 ∨ i = 1 ∨ i = 2 ∨ i = 3 ∨ i = 4 ∨ i = 5 ∨ i = 6 ∨ i = 7 ∨ i = 8 ∨ i = 9 ∨ i = 10 ∨ i = 11 ∨ i = 12 ∨ i = 13 := by have : i < 14 := hi; omega
        rcases hi' with rfl | rfl | rfl | rfl | rfl | rfl | rfl | rfl | rfl | rfl | rfl | rfl | rfl | rfl
        · injection ho with ho; subst ho
          exact wp_run w' a _ (ex_mov w' a _ 11 _ p11 rfl) ⟨_, rfl, fun d hd => (by injection hd with hd; subst hd; exact (show Value.slice A5 m4 c5 = _ from rfl)), u, .inl (Up.refl _)⟩
        · injection ho with ho; subst ho
          exact wp_run w' a _ (ex_mov w' a _ 11 _ p11 rfl) ⟨_, rfl, fun d hd => (by injection hd with hd; subst hd; exact (show Value.slice A5 m4 c5 = _ from rfl)), u, .inl (Up.refl _)⟩
        · injection ho with ho; subst ho
          exact wp_run w' a _ (ex_lenU w' a _ 64 A5 m4 c5 (show a.tmps.getD 64 undef = .slice A5 m4 c5 from (pre ⟨1, .data⟩ (by simp) rfl _ 64 rfl rfl)) rfl) ⟨_, rfl, fun d hd => (by injection hd with hd; subst hd; exact (show Value.int .i64 (m4 : Int) = _ from rfl)), u, .inl (Up.refl _)⟩
        · injection ho with ho; subst ho
          exact wp_run w' a _ (ex_sub1 w' a _ 65 m4 bd4b (by omega) (show a.tmps.getD 65 undef = .int .i64 (m4 : Int) from (pre ⟨2, .data⟩ (by simp) rfl _ 65 rfl rfl)) rfl) ⟨_, rfl, fun d hd => (by injection hd with hd; subst hd; exact (show Value.int .i64 ((m4 - 1 : Nat) : Int) = _ from rfl)), u, .inl (Up.refl _)⟩
        · injection ho with ho; subst ho
          exact wp_run w' a _ (ex_cutU w' a _ 63 66 A5 m4 c5 (m4 - 1) (by omega) (show a.tmps.getD 63 undef = .slice A5 m4 c5 from (pre ⟨0, .data⟩ (by simp) rfl _ 63 rfl rfl)) (show a.tmps.getD 66 undef = .int .i64 ((m4 - 1 : Nat) : Int) from (pre ⟨3, .data⟩ (by simp) rfl _ 66 rfl rfl)) rfl) ⟨_, rfl, fun d hd => (by injection hd with hd; subst hd; exact (show Value.slice A5 (m4 - 1) c5 = _ from rfl)), u, .inl (Up.refl _)⟩
        · injection ho with ho; subst ho
          exact wp_run w' a _ (ex_ldH w' a _ 12 _ _ _ _ _ _ _ _ p12 (H6.out.up u) rfl) ⟨_, rfl, fun d hd => (by injection hd with hd; subst hd; exact (show (hv (1 + (n : Int)) l4n l3n l2n l1n l0n l5n) = _ from rfl)), u, .inl (Up.refl _)⟩
        · injection ho with ho; subst ho
          exact wp_run w' a _ (ex_mov w' a _ 10 _ p10 rfl) ⟨_, rfl, fun d hd => (by injection hd with hd; subst hd; exact (show Value.int .i64 8 = _ from rfl)), u, .inl (Up.refl _)⟩
        · injection ho with ho; subst ho
          refine wp_call3 w' a _ 21 (fun args w => call_dec args w) 67 68 69 _ _ _ _ rfl (show a.tmps.getD 67 undef = .slice A5 (m4 - 1) c5 from (pre ⟨4, .data⟩ (by simp) rfl _ 67 rfl rfl)) (show a.tmps.getD 68 undef = (hv (1 + (n : Int)) l4n l3n l2n l1n l0n l5n) from (pre ⟨5, .data⟩ (by simp) rfl _ 68 rfl rfl)) (show a.tmps.getD 69 undef = .int .i64 8 from (pre ⟨6, .data⟩ (by simp) rfl _ 69 rfl rfl)) ?_
          refine (DS.out A5 c5 w' f5 g5 (R6.out.up u)).mono ?_
          rintro e w'' ⟨vd, rfl, bd, ud⟩
          exact ⟨_, rfl, _, rfl, fun d hd => (by injection hd with hd; subst hd; exact (show ∃ v', _ ∧ BkR w'' v' bk0 from ⟨_, rfl, bd⟩)), u.trans ud, .inl ud⟩
        · injection ho with ho; subst ho
          obtain ⟨v', e1, e2⟩ := (show ∃ v', a.tmps.getD 70 undef = .tuple #[v', .int .i64 5] ∧ BkR w' v' bk0 from (pre ⟨7, .data⟩ (by simp) rfl _ 70 rfl rfl))
          exact wp_run w' a _ (ex_mov w' a _ 70 _ e1 rfl) ⟨_, rfl, fun d hd => (by injection hd with hd; subst hd; exact (show ∃ v', _ ∧ BkR w' v' bk0 from ⟨_, rfl, e2⟩)), u, .inl (Up.refl _)⟩
        · injection ho with ho; subst ho
          obtain ⟨v', e1, e2⟩ := (show ∃ v', a.tmps.getD 62 undef = .tuple #[v', .int .i64 5] ∧ BkR w' v' bk0 from (pre ⟨8, .data⟩ (by simp) rfl _ 62 rfl rfl))
          exact wp_run w' a _ (ex_ext0 w' a _ 62 _ _ e1 rfl) ⟨_, rfl, fun d hd => (by injection hd with hd; subst hd; exact (show BkR w' v' bk0 from e2)), u, .inl (Up.refl _)⟩
        · cases hla
        · injection ho with ho; subst ho
          exact wp_run w' a _ (ex_box w' a _ rfl) ⟨_, rfl, fun d hd => (by injection hd with hd; subst hd; exact (show ∃ b, _ from ⟨_, rfl, u.size, heap_alloc_new w' _⟩)), u.alloc' _, .inl (Up.alloc _ _)⟩
        · exact absurd rfl his
        · cases hla
      case pure =>
        intro i o hla ho a w' old pre
        clear old
        have hi := lt_of_get ho
        have hi' : i = 0 ∨ i = 1 ∨ i = 2 ∨ i = 3 ∨ i = 4 ∨ i = 5 ∨ i = 6 ∨ i = 7 ∨ i = 8 ∨ i = 9 ∨ i = 10 ∨ i = 11 ∨ i = 12 ∨ i = 13 := by have : i < 14 := hi; omega
        rcases hi' with rfl | rfl | rfl | rfl | rfl | rfl | rfl | rfl | rfl | rfl | rfl | rfl | rfl | rfl
        · cases hla
        · cases hla
        · cases hla
        · cases hla
        · cases hla
        · cases hla
        · cases hla
        · cases hla
        · cases hla
        · cases hla
        · injection ho with ho; subst ho
          obtain ⟨v', e1⟩ := (show ∃ v', a.tmps.getD 62 undef = .tuple #[v', .int .i64 5] from (pre ⟨8, .data⟩ (by simp) rfl _ 62 rfl rfl))
          exact ⟨_, ex_ext1 w' a _ 62 _ _ e1 rfl, fun d hd => (by injection hd with hd; subst hd; exact (show Value.int .i64 5 = _ from rfl))⟩
        · cases hla
        · cases hla
        · injection ho with ho; subst ho
          have e1 := (show a.tmps.getD 72 undef = .int .i64 5 from (pre ⟨10, .data⟩ (by simp) rfl _ 72 rfl rfl))
          exact ⟨_, ex_asg w' a _ 72 _ e1 rfl, fun d hd => (by injection hd with hd; subst hd; exact (show Value.int .i64 5 = _ from rfl))⟩
      case store =>
        intro o ho a w' u sz old pre
        injection ho with ho; subst ho
        obtain ⟨b, h16, hbb', hbx⟩ := (show ∃ b, a.tmps.getD 16 undef = .pointer (some ⟨b, 0, none⟩) ∧ w6.heap.size ≤ b ∧ w'.heap[b]? = some (.cells #[.slice none 0 0, .slice none 0 0, .slice none 0 0, .slice none 0 0, .slice none 0 0] 27 (0, 0)) from (pre ⟨11, .data⟩ (by simp) rfl _ 16 rfl rfl))
        have h71 : BkR w' (a.tmps.getD 71 undef) bk0 := (pre ⟨9, .data⟩ (by simp) rfl _ 71 rfl rfl)
        obtain ⟨F0, f0, I0, F1, f1, I1, F2, f2, I2, F3, f3, I3, F4, f4, I4, e71⟩ := h71.form
        exact wp_stoB w' a _ 16 71 b _ _ _ _ _ _ _ _ _ _ _ _ _ _ _ h16 e71 (bx_heap hbx).1 (bx_heap hbx).2 rfl rfl ⟨rfl, u.five hbb' _ _ _ _ _⟩
      case keep =>
        intro a w' i p d v hla hp hpd hT
        exact hT
      case fin =>
        intro a w7 sz df old hT hN
        have h17 : a.tmps.getD 17 undef = .int .i64 5 := hN 13 _ 17 rfl rfl rfl
        have p4 : a.tmps[4]? = some (.pointer (some ⟨w.heap.size, 0, none⟩)) := (old 4 (by kernel_rfl)).trans rfl
        have p9 : a.tmps[9]? = some (.bool true) := (old 9 (by kernel_rfl)).trans rfl
        have p14 : a.tmps[14]? = some (.pointer (some ⟨b, 0, none⟩)) := (old 14 (by kernel_rfl)).trans rfl
        have p15 : a.tmps[15]? = some (.int .i64 0) := (old 15 (by kernel_rfl)).trans rfl
        have O7 := Lib.hid (O6.out.up hT)
        have B7 := B6.out.up hT
        have X7 := X6.out.up hT
        have V7 := Lib.hid (V6.out.up hT)
        have U7 := Lib.hid (U6.out.trans hT)
        clear old hN hT O6 B6 X6 V6 U6 H6 R6 DS
        obtain ⟨⟨l⟩, df'⟩ := a
        replace sz : l.length = 89 := sz
        obtain ⟨x0, t0, rfl, s0⟩ := cons_of sz
        clear sz
        obtain ⟨x1, t1, rfl, s1⟩ := cons_of s0
        clear s0
        obtain ⟨x2, t2, rfl, s2⟩ := cons_of s1
        clear s1
        obtain ⟨x3, t3, rfl, s3⟩ := cons_of s2
        clear s2
        obtain ⟨x4, t4, rfl, s4⟩ := cons_of s3
        clear s3
        obtain ⟨x5, t5, rfl, s5⟩ := cons_of s4
        clear s4
        obtain ⟨x6, t6, rfl, s6⟩ := cons_of s5
        clear s5
        obtain ⟨x7, t7, rfl, s7⟩ := cons_of s6
        clear s6
        obtain ⟨x8, t8, rfl, s8⟩ := cons_of s7
        clear s7
        obtain ⟨x9, t9, rfl, s9⟩ := cons_of s8
        clear s8
        obtain ⟨x10, t10, rfl, s10⟩ := cons_of s9
        clear s9
        obtain ⟨x11, t11, rfl, s11⟩ := cons_of s10
        clear s10
        obtain ⟨x12, t12, rfl, s12⟩ := cons_of s11
        clear s11
        obtain ⟨x13, t13, rfl, s13⟩ := cons_of s12
        clear s12
        obtain ⟨x14, t14, rfl, s14⟩ := cons_of s13
        clear s13
        obtain ⟨x15, t15, rfl, s15⟩ := cons_of s14
        clear s14
        obtain ⟨x16, t16, rfl, s16⟩ := cons_of s15
        clear s15
        obtain ⟨x17, t17, rfl, s17⟩ := cons_of s16
        clear s16
        obtain ⟨x18, t18, rfl, s18⟩ := cons_of s17
        clear s17
        obtain ⟨x19, t19, rfl, s19⟩ := cons_of s18
        clear s18
        obtain ⟨x20, t20, rfl, s20⟩ := cons_of s19
        clear s19
        obtain ⟨x21, t21, rfl, s21⟩ := cons_of s20
        clear s20
        obtain ⟨x22, t22, rfl, s22⟩ := cons_of s21
        clear s21
        obtain ⟨x23, t23, rfl, s23⟩ := cons_of s22
        clear s22
        obtain ⟨x24, t24, rfl, s24⟩ := cons_of s23
        clear s23
        obtain ⟨x25, t25, rfl, s25⟩ := cons_of s24
        clear s24
        obtain ⟨x26, t26, rfl, s26⟩ := cons_of s25
        clear s25
        obtain ⟨x27, t27, rfl, s27⟩ := cons_of s26
        clear s26
        obtain ⟨x28, t28, rfl, s28⟩ := cons_of s27
        clear s27
        obtain ⟨x29, t29, rfl, s29⟩ := cons_of s28
        clear s28
        obtain ⟨x30, t30, rfl, s30⟩ := cons_of s29
        clear s29
        obtain ⟨x31, t31, rfl, s31⟩ := cons_of s30
        clear s30
        obtain ⟨x32, t32, rfl, s32⟩ := cons_of s31
        clear s31
        obtain ⟨x33, t33, rfl, s33⟩ := cons_of s32
        clear s32
        obtain ⟨x34, t34, rfl, s34⟩ := cons_of s33
        clear s33
        obtain ⟨x35, t35, rfl, s35⟩ := cons_of s34
        clear s34
        obtain ⟨x36, t36, rfl, s36⟩ := cons_of s35
        clear s35
        obtain ⟨x37, t37, rfl, s37⟩ := cons_of s36
        clear s36
        obtain ⟨x38, t38, rfl, s38⟩ := cons_of s37
        clear s37
        obtain ⟨x39, t39, rfl, s39⟩ := cons_of s38
        clear s38
        obtain ⟨x40, t40, rfl, s40⟩ := cons_of s39
        clear s39
        obtain ⟨x41, t41, rfl, s41⟩ := cons_of s40
        clear s40
        obtain ⟨x42, t42, rfl, s42⟩ := cons_of s41
        clear s41
        obtain ⟨x43, t43, rfl, s43⟩ := cons_of s42
        clear s42
        obtain ⟨x44, t44, rfl, s44⟩ := cons_of s43
        clear s43
        obtain ⟨x45, t45, rfl, s45⟩ := cons_of s44
        clear s44
        obtain ⟨x46, t46, rfl, s46⟩ := cons_of s45
        clear s45
        obtain ⟨x47, t47, rfl, s47⟩ := cons_of s46
        clear s46
        obtain ⟨x48, t48, rfl, s48⟩ := cons_of s47
        clear s47
        obtain ⟨x49, t49, rfl, s49⟩ := cons_of s48
        clear s48
        obtain ⟨x50, t50, rfl, s50⟩ := cons_of s49
        clear s49
        obtain ⟨x51, t51, rfl, s51⟩ := cons_of s50
        clear s50
        obtain ⟨x52, t52, rfl, s52⟩ := cons_of s51
        clear s51
        obtain ⟨x53, t53, rfl, s53⟩ := cons_of s52
        clear s52
        obtain ⟨x54, t54, rfl, s54⟩ := cons_of s53
        clear s53
        obtain ⟨x55, t55, rfl, s55⟩ := cons_of s54
        clear s54
        obtain ⟨x56, t56, rfl, s56⟩ := cons_of s55
        clear s55
        obtain ⟨x57, t57, rfl, s57⟩ := cons_of s56
        clear s56
        obtain ⟨x58, t58, rfl, s58⟩ := cons_of s57
        clear s57
        obtain ⟨x59, t59, rfl, s59⟩ := cons_of s58
        clear s58
        obtain ⟨x60, t60, rfl, s60⟩ := cons_of s59
        clear s59
        obtain ⟨x61, t61, rfl, s61⟩ := cons_of s60
        clear s60
        obtain ⟨x62, t62, rfl, s62⟩ := cons_of s61
        clear s61
        obtain ⟨x63, t63, rfl, s63⟩ := cons_of s62
        clear s62
        obtain ⟨x64, t64, rfl, s64⟩ := cons_of s63
        clear s63
        obtain ⟨x65, t65, rfl, s65⟩ := cons_of s64
        clear s64
        obtain ⟨x66, t66, rfl, s66⟩ := cons_of s65
        clear s65
        obtain ⟨x67, t67, rfl, s67⟩ := cons_of s66
        clear s66
        obtain ⟨x68, t68, rfl, s68⟩ := cons_of s67
        clear s67
        obtain ⟨x69, t69, rfl, s69⟩ := cons_of s68
        clear s68
        obtain ⟨x70, t70, rfl, s70⟩ := cons_of s69
        clear s69
        obtain ⟨x71, t71, rfl, s71⟩ := cons_of s70
        clear s70
        obtain ⟨x72, t72, rfl, s72⟩ := cons_of s71
        clear s71
        obtain ⟨x73, t73, rfl, s73⟩ := cons_of s72
        clear s72
        obtain ⟨x74, t74, rfl, s74⟩ := cons_of s73
        clear s73
        obtain ⟨x75, t75, rfl, s75⟩ := cons_of s74
        clear s74
        obtain ⟨x76, t76, rfl, s76⟩ := cons_of s75
        clear s75
        obtain ⟨x77, t77, rfl, s77⟩ := cons_of s76
        clear s76
        obtain ⟨x78, t78, rfl, s78⟩ := cons_of s77
        clear s77
        obtain ⟨x79, t79, rfl, s79⟩ := cons_of s78
        clear s78
        obtain ⟨x80, t80, rfl, s80⟩ := cons_of s79
        clear s79
        obtain ⟨x81, t81, rfl, s81⟩ := cons_of s80
        clear s80
        obtain ⟨x82, t82, rfl, s82⟩ := cons_of s81
        clear s81
        obtain ⟨x83, t83, rfl, s83⟩ := cons_of s82
        clear s82
        obtain ⟨x84, t84, rfl, s84⟩ := cons_of s83
        clear s83
        obtain ⟨x85, t85, rfl, s85⟩ := cons_of s84
        clear s84
        obtain ⟨x86, t86, rfl, s86⟩ := cons_of s85
        clear s85
        obtain ⟨x87, t87, rfl, s87⟩ := cons_of s86
        clear s86
        obtain ⟨x88, t88, rfl, s88⟩ := cons_of s87
        clear s87
        obtain rfl : t88 = [] := List.eq_nil_of_length_eq_zero s88
        have g4 : x4 = .pointer (some ⟨w.heap.size, 0, none⟩) := Option.some.inj p4
        have g9 : x9 = .bool true := Option.some.inj p9
        have g14 : x14 = .pointer (some ⟨b, 0, none⟩) := Option.some.inj p14
        have g15 : x15 = .int .i64 0 := Option.some.inj p15
        have g17 : x17 = .int .i64 5 := h17
        have gd : df' = [] := df
        subst g4 g9 g14 g15 g17 gd
        clear p4 p9 p14 p15 h17 df s88
        go_wp2_with fail
        obtain ⟨a0, a1', a2', a3', a4⟩ := B7
        obtain ⟨b0, b1, b2, b3, b4⟩ := X7
        replace a0 := cell_regrown a0; replace a1' := cell_regrown a1'; replace a2' := cell_regrown a2'; replace a3' := cell_regrown a3'; replace a4 := cell_regrown a4
        replace b0 := cell_regrown b0; replace b1 := cell_regrown b1; replace b2 := cell_regrown b2; replace b3 := cell_regrown b3; replace b4 := cell_regrown b4
        have Q1 := quiet_up (w := w7) (fun V u => ref_blk _ X V (O7.out.up u))
        have Q2 := quiet_up (w := w7) (fun V u => ref_blk _ X V (V7.out.up u))
        have Q3 := quiet_up (w := w7) (fun V u => same_yes _ _ X V (O7.out.up u) (V7.out.up u))
        refine wp_region_quiet_below (by kernel_rfl) (by kernel_rfl) ?_
        repeat (quiet_step (first | (with_reducible exact Q1 _ _) | (with_reducible exact Q2 _ _) | (with_reducible exact Q3 _ _)))
        refine wpQuiet_nil ?_
        intro _ hw'
        obtain ⟨⟨dq, osq⟩, hw''⟩ := hw'
        subst hw''
        go_wp2_with fail
        go_ret
        exact ⟨rfl, U7.out.trans (up_grown w7 dq osq)⟩

theorem readable : ∀ t ∈ Try.f5.params.toList, Try.prog.readableRec t = true ∧ t < Try.prog.types.size := by
  rw [Try.params5]
  intro t ht
  have hall : ([27, 4, 3, 33].all fun u => Try.prog.readableRec u && decide (u < Try.prog.types.size)) = true := by kernel_rfl
  have := List.all_eq_true.1 hall t (by simpa using ht)
  simpa using this

set_option maxRecDepth 100000 in
theorem lifted (os : Os) (started : os.Started) (H : Type) (enc : TypeId × Value → H) :
    ReturnsInHanded {} Try.checked os 5 .any (Rows.blockBackSpec.pre6 enc Try.prog Try.f5 Rows.blockBackRow.domain false) (Rows.blockBackSpec.post enc Try.prog Try.f5 false true false false) := by
  refine returnsInHanded_of_change (C := Try.checked) own started (by kernel_rfl) Try.func5
    (ChangeSpec.witness6 (enc := enc) (C := Try.checked) false ⟨#[], #[.agg #[.slice none 0 0, .slice none 0 0, .slice none 0 0, .slice none 0 0, .slice none 0 0], .bool false, .int .i64 0, .slice none 0 0], []⟩ 8 (by kernel_rfl) (by kernel_rfl) (by kernel_rfl) (by kernel_rfl)) ?_
  intro W base args ds gs before hval0 hW hcnd _
  have hval : ∀ (j : Nat) t v, Try.f5.params[j]? = some t → args[j]? = some v → Value.okWide Try.prog W .any base t v := hval0
  have hW' := hW
  obtain ⟨p, q, hA0, hV, rfl, hfz, hnd⟩ := hW
  have hA : DataW.TrodAll enc Try.prog W 0 (fun _ => true) true Try.f5.params.toList args.toList ds p := hA0
  rw [Try.params5] at hA hval
  obtain ⟨v0, vs0, d0, ds0, p0, q0, hargs, rfl, rfl, h0, r0⟩ := trodAll_cons hA
  obtain ⟨v1, vs1, d1, ds1, p1, q1, rfl, rfl, rfl, h1, r1⟩ := trodAll_cons r0
  obtain ⟨v2, vs2, d2, ds2, p2, q2, rfl, rfl, rfl, h2, r2⟩ := trodAll_cons r1
  obtain ⟨v3, vs3, d3, ds3, p3, q3, rfl, rfl, rfl, h3, r3⟩ := trodAll_cons r2
  obtain ⟨rfl, rfl, rfl⟩ := trodAll_nil r3
  obtain rfl : args = #[v0, v1, v2, v3] := by cases args; simp_all
  obtain ⟨rfl, rfl⟩ := trodVars_none hV
  obtain ⟨x0, R0, b0⟩ := open_blk (hval 0 27 v0 rfl rfl) h0
  obtain ⟨a1, rfl, rfl, rfl⟩ := open_bool Try.underlying4 (hval 1 4 v1 rfl rfl) h1
  obtain ⟨a2, rfl, rfl, rfl, w2⟩ := open_int Try.underlying3 (hval 2 3 v2 rfl rfl) h2
  obtain ⟨A3, l3, c3, rfl, n3, m3, R3⟩ := open_bytes (hval 3 33 v3 rfl rfl) h3
  clear hA0 hval0
  refine (walk W v0 x0 a1 a2 A3 l3 c3 R0 b0  w2 n3 m3 R3).mono fun e W' ⟨he, hg⟩ => ?_
  subst he
  exact ⟨_, rfl, post_up laidOut readable rfl hW' (fun _ _ _ => (trodAll_cons_mk (shut_bool Try.underlying4 _) trodAll_mk0)) rfl rfl
    hg (ok_one (by kernel_rfl) rfl (okWide_bool_mk Try.underlying4 _))⟩

theorem over : Rows.blockBackRow.holds Try.pinned (OpenSpec.ofChange Rows.blockBackSpec) :=
  OpenClaim.holds_of_wide 5 Try.f5 rfl rfl rfl rfl rfl rfl rfl ⟨rfl, rfl, rfl, rfl, rfl⟩ rfl rfl rfl rfl rfl (by kernel_rfl) Try.func5 (by kernel_rfl)
    (of_decide_eq_true (by kernel_rfl)) (by unfold Func.isWrapper; first | (rw [if_pos (by decide +kernel)]; kernel_rfl) | (rw [if_neg (by decide +kernel)]; exact ⟨rfl, rfl⟩))
    (fun os started H enc _ => lifted os started H enc)

theorem proved : Rows.BlockBackSaid :=
  over
end Go.Proofs.Ytoijaananjlfpaa.blockBack
