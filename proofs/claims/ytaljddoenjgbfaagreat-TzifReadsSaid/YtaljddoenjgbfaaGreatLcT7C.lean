/-
  The document's file: half, Decode.
-/
import Derived.Test.YtaljddoenjgbfaaGreatLcTzD
import Derived.Test.YtaljddoenjgbfaaGreatLcHdrK
import Derived.Test.YtaljddoenjgbfaaGreatLcHdrI
import Derived.Test.YtaljddoenjgbfaaGreatLcRfA
import Derived.Test.YtaljddoenjgbfaaGreatLcInv
import Derived.Test.YtaljddoenjgbfaaGreatLcOps
namespace Go.Proofs.YtaljddoenjgbfaaGreat
open Go.ChangeShapes Go.WideShapes Go.ChangeAt Go.RowKit Lc

set_option maxRecDepth 100000 in
theorem decH_no {l : List UInt8} (h : errH l ≠ 0) : decH l = hv 0 0 0 0 0 0 0 := by
  unfold decH
  have : isH l = false := by
    unfold errH at h
    split at h
    · rename_i h1; exact isH_short h1
    · split at h
      · exact absurd rfl h
      · rename_i h2; simpa using h2
  rw [this]; rfl
set_option maxRecDepth 100000 in
theorem isH_of {l : List UInt8} (h : errH l = 0) : isH l = true ∧ 44 ≤ l.length := by
  unfold errH at h
  split at h
  · cases h
  · rename_i h1
    split at h
    · rename_i h2; exact ⟨h2, by omega⟩
    · cases h
set_option maxRecDepth 100000 in
theorem rightH_of {l : List UInt8} (h : isH l = true) : rightH (vH l) (cntI l 0) (cntI l 1) (cntI l 2) (cntI l 3) (cntI l 4) (cntI l 5) = true := (isH_err h).2.2
set_option maxRecDepth 100000 in
theorem cell_ne {w : World} {b i j : Nat} {u x : Value} (hn : i ≠ j) (hc : w.cell? ⟨b, j, none⟩ = some x) : (w.setCell ⟨b, i, none⟩ u).cell? ⟨b, j, none⟩ = some x := by
  rw [World.cell?_setCell_other _ _ _ _ (fun c => hn (by injection c))]; exact hc
set_option maxRecDepth 100000 in
theorem Bx7.seven {w : World} {B : Nat} {a b c d e f g : Value} (h : Bx7 w B a b c d e f g) (v0 v1 v2 v3 v4 v5 v6 : Value) : Bx7 (Go.Proofs.YtaljddoenjgbfaaGreat.seven w B v0 v1 v2 v3 v4 v5 v6) B v0 v1 v2 v3 v4 v5 v6 := by
  obtain ⟨h0, h1, h2, h3, h4, h5, h6⟩ := h
  have s : ∀ (W : World) (j : Nat) (x u : Value), W.cell? ⟨B, j, none⟩ = some x → (W.setCell ⟨B, j, none⟩ u).cell? ⟨B, j, none⟩ = some u := fun W j x u hc => World.cell?_setCell_same _ _ _ hc
  refine ⟨?_, ?_, ?_, ?_, ?_, ?_, ?_⟩
  · exact cell_ne (by decide) (cell_ne (by decide) (cell_ne (by decide) (cell_ne (by decide) (cell_ne (by decide) (cell_ne (by decide) (s _ 0 _ _ h0))))))
  · exact cell_ne (by decide) (cell_ne (by decide) (cell_ne (by decide) (cell_ne (by decide) (cell_ne (by decide) (s _ 1 _ _ (cell_ne (by decide) h1))))))
  · exact cell_ne (by decide) (cell_ne (by decide) (cell_ne (by decide) (cell_ne (by decide) (s _ 2 _ _ (cell_ne (by decide) (cell_ne (by decide) h2))))))
  · exact cell_ne (by decide) (cell_ne (by decide) (cell_ne (by decide) (s _ 3 _ _ (cell_ne (by decide) (cell_ne (by decide) (cell_ne (by decide) h3))))))
  · exact cell_ne (by decide) (cell_ne (by decide) (s _ 4 _ _ (cell_ne (by decide) (cell_ne (by decide) (cell_ne (by decide) (cell_ne (by decide) h4))))))
  · exact cell_ne (by decide) (s _ 5 _ _ (cell_ne (by decide) (cell_ne (by decide) (cell_ne (by decide) (cell_ne (by decide) (cell_ne (by decide) h5))))))
  · exact s _ 6 _ _ (cell_ne (by decide) (cell_ne (by decide) (cell_ne (by decide) (cell_ne (by decide) (cell_ne (by decide) (cell_ne (by decide) h6))))))
set_option maxRecDepth 100000 in
theorem cell_far {w : World} {b c i j : Nat} {u x : Value} (hn : b ≠ c) (hc : w.cell? ⟨c, j, none⟩ = some x) : (w.setCell ⟨b, i, none⟩ u).cell? ⟨c, j, none⟩ = some x := by
  rw [World.cell?_setCell_other _ _ _ _ (fun e => hn (by injection e))]; exact hc
set_option maxRecDepth 100000 in
theorem Bx5.far {w : World} {B C o : Nat} {u a b c d e : Value} (h : Bx5 w C a b c d e) (hn : B ≠ C) : Bx5 (w.setCell ⟨B, o, none⟩ u) C a b c d e :=
  ⟨cell_far hn h.1, cell_far hn h.2.1, cell_far hn h.2.2.1, cell_far hn h.2.2.2.1, cell_far hn h.2.2.2.2⟩
set_option maxRecDepth 100000 in
theorem Bx7.far {w : World} {B C o : Nat} {u a b c d e f g : Value} (h : Bx7 w C a b c d e f g) (hn : B ≠ C) : Bx7 (w.setCell ⟨B, o, none⟩ u) C a b c d e f g :=
  ⟨cell_far hn h.1, cell_far hn h.2.1, cell_far hn h.2.2.1, cell_far hn h.2.2.2.1, cell_far hn h.2.2.2.2.1, cell_far hn h.2.2.2.2.2.1, cell_far hn h.2.2.2.2.2.2⟩
set_option maxRecDepth 100000 in
theorem Bx5.far7 {w : World} {B C : Nat} {a b c d e : Value} (h : Bx5 w C a b c d e) (hn : B ≠ C) (v0 v1 v2 v3 v4 v5 v6 : Value) : Bx5 (Go.Proofs.YtaljddoenjgbfaaGreat.seven w B v0 v1 v2 v3 v4 v5 v6) C a b c d e :=
  Bx5.far (Bx5.far (Bx5.far (Bx5.far (Bx5.far (Bx5.far (Bx5.far h hn) hn) hn) hn) hn) hn) hn
set_option maxRecDepth 100000 in
theorem Bx7.far5 {w : World} {B C : Nat} {a b c d e f g : Value} (h : Bx7 w C a b c d e f g) (hn : B ≠ C) (v0 v1 v2 v3 v4 : Value) : Bx7 (Go.Proofs.YtaljddoenjgbfaaGreat.five w B v0 v1 v2 v3 v4) C a b c d e f g :=
  Bx7.far (Bx7.far (Bx7.far (Bx7.far (Bx7.far h hn) hn) hn) hn) hn
set_option maxRecDepth 100000 in
/-- Both boxes behind the stores of what is answered. -/
theorem boxes {w V : World} {B : Nat} {h0 h1 h2 h3 h4 h5 h6 e0 e1 e2 e3 e4 : Value} (hh : Bx7 w B h0 h1 h2 h3 h4 h5 h6) (hb : Bx5 w (B + 1) e0 e1 e2 e3 e4) (v0 v1 v2 v3 v4 v5 v6 b0 b1 b2 b3 b4 : Value) (u : Up (five (seven w B v0 v1 v2 v3 v4 v5 v6) (B + 1) b0 b1 b2 b3 b4) V) :
    Bx7 V B v0 v1 v2 v3 v4 v5 v6 ∧ Bx5 V (B + 1) b0 b1 b2 b3 b4 :=
  ⟨((hh.seven v0 v1 v2 v3 v4 v5 v6).far5 (by omega) b0 b1 b2 b3 b4).up u, (Bx5.five (hb.far7 (by omega) v0 v1 v2 v3 v4 v5 v6) b0 b1 b2 b3 b4).up u⟩
set_option maxRecDepth 100000 in
set_option maxHeartbeats 2000000 in
theorem dhalf_no (A : Option Addr) (l : List UInt8) (n c : Nat) (z : Int) (w : World) (hn : l.length = n) (hc : n ≤ c) (hcm : c ≤ maxLen) (hr : Rd w A l) (h : errH l ≠ 0) :
    Calls Tryz.prog 23 #[.slice A n c, .int .i64 z] w fun e w' => e = .returned (.tuple #[hv 0 0 0 0 0 0 0, bz, .int .i64 0, .int .i64 (errH l)]) ∧ Up w w' := by
  subst hn
  have D := Lib.hid (fun w1 (u : Up w w1) => refDecode_any A l c w1 hc hcm (hr.up u))
  rw [decH_no h] at D
  have UW := Lib.hid ((Up.alloc w (.cells #[.int .i64 0, .int .i64 0, .int .i64 0, .int .i64 0, .int .i64 0, .int .i64 0, .int .i64 0] 60)).alloc' (.cells #[.slice none 0 0, .slice none 0 0, .slice none 0 0, .slice none 0 0, .slice none 0 0] 37))
  have h0 : (errH l != 0) = true := by simpa using h
  have FA := Lib.hid ((Free.new w #[.int .i64 0, .int .i64 0, .int .i64 0, .int .i64 0, .int .i64 0, .int .i64 0, .int .i64 0] 60).up (Up.alloc _ (.cells #[.slice none 0 0, .slice none 0 0, .slice none 0 0, .slice none 0 0, .slice none 0 0] 37)))
  have XA := Lib.hid ((HBox.new w 0 0 0 0 0 0 0 60).up (Up.alloc _ (.cells #[.slice none 0 0, .slice none 0 0, .slice none 0 0, .slice none 0 0, .slice none 0 0] 37)))
  have FB := Free.new (w.alloc (.cells #[.int .i64 0, .int .i64 0, .int .i64 0, .int .i64 0, .int .i64 0, .int .i64 0, .int .i64 0] 60)) #[.slice none 0 0, .slice none 0 0, .slice none 0 0, .slice none 0 0, .slice none 0 0] 37
  have XB := Bx5.new (w.alloc (.cells #[.int .i64 0, .int .i64 0, .int .i64 0, .int .i64 0, .int .i64 0, .int .i64 0, .int .i64 0] 60)) (.slice none 0 0) (.slice none 0 0) (.slice none 0 0) (.slice none 0 0) (.slice none 0 0) 37
  rw [World.size_alloc] at FB XB
  generalize errH l = er at *
  generalize l.length = n at *
  go_enter Tryz.func23, Tryz.ntmps23
  go_wp2_with fail
  generalize (w.alloc (.cells #[.int .i64 0, .int .i64 0, .int .i64 0, .int .i64 0, .int .i64 0, .int .i64 0, .int .i64 0] 60)).alloc (.cells #[.slice none 0 0, .slice none 0 0, .slice none 0 0, .slice none 0 0, .slice none 0 0] 37) = W at *
  refine (D.out _ UW.out).mono ?_; rintro e w1 ⟨rfl, u1⟩
  have U1 := Lib.hid (UW.out.trans u1)
  obtain ⟨a0, a1, a2, a3, a4, a5, a6⟩ := XA.out.up u1
  obtain ⟨b0, b1, b2, b3, b4⟩ := XB.up u1
  have fa := (FA.out.up u1).2
  have fb := (FB.up u1).2
  have q0 := fa 0; have q1 := fa 1; have q2 := fa 2; have q3 := fa 3; have q4 := fa 4; have q5 := fa 5; have q6 := fa 6
  have r0 := fb 0; have r1 := fb 1; have r2 := fb 2; have r3 := fb 3; have r4 := fb 4
  have lta := cell_lt a0
  have ltb := cell_lt b0
  clear fa fb
  have hh : Bx7 w1 w.heap.size (.int .i64 0) (.int .i64 0) (.int .i64 0) (.int .i64 0) (.int .i64 0) (.int .i64 0) (.int .i64 0) := ⟨a0, a1, a2, a3, a4, a5, a6⟩
  have hb : Bx5 w1 (w.heap.size + 1) (.slice none 0 0) (.slice none 0 0) (.slice none 0 0) (.slice none 0 0) (.slice none 0 0) := ⟨b0, b1, b2, b3, b4⟩
  have UZ := Up.alloc (five (seven w1 w.heap.size (.int .i64 0) (.int .i64 0) (.int .i64 0) (.int .i64 0) (.int .i64 0) (.int .i64 0) (.int .i64 0)) (w.heap.size + 1) (.slice none 0 0) (.slice none 0 0) (.slice none 0 0) (.slice none 0 0) (.slice none 0 0)) (.cells #[.int .i64 0, .int .i64 0, .int .i64 0, .int .i64 0, .int .i64 0, .int .i64 0, .int .i64 0] 60)
  have ZB := Lib.hid (boxes hh hb (.int .i64 0) (.int .i64 0) (.int .i64 0) (.int .i64 0) (.int .i64 0) (.int .i64 0) (.int .i64 0) (.slice none 0 0) (.slice none 0 0) (.slice none 0 0) (.slice none 0 0) (.slice none 0 0) UZ)
  have UZ2 := Lib.hid ((Up.five (Up.seven U1.out (Nat.le_refl _) (.int .i64 0) (.int .i64 0) (.int .i64 0) (.int .i64 0) (.int .i64 0) (.int .i64 0) (.int .i64 0)) (Nat.le_succ _) (.slice none 0 0) (.slice none 0 0) (.slice none 0 0) (.slice none 0 0) (.slice none 0 0)).trans UZ)
  clear hh hb UZ
  go_wp2_with fail
  obtain ⟨⟨g0, g1, g2, g3, g4, g5, g6⟩, k0, k1, k2, k3, k4⟩ := ZB.out
  exact bodyPost_ret (v := .tuple #[hv 0 0 0 0 0 0 0, bz, .int .i64 0, .int .i64 er]) (by simp [results, Tryz.results23, go_sem, hv, g0, g1, g2, g3, g4, g5, g6, k0, k1, k2, k3, k4]) rfl ⟨rfl, UZ2.out⟩
set_option maxRecDepth 100000 in
theorem rc_box {w : World} {A : Option Addr} {vs : List Value} (h : Rc w A vs) (hn : ∀ u ∈ vs, u ≠ .slice none 0 0) {b : Nat} {t : TypeId} (hb : w.heap[b]? = some (.cells #[.slice none 0 0, .slice none 0 0, .slice none 0 0, .slice none 0 0, .slice none 0 0] t (0, 0))) (v0 v1 v2 v3 v4 : Value) : Rc (five w b v0 v1 v2 v3 v4) A vs := fun h0 => by
  obtain ⟨g, o, e, hc⟩ := h h0
  refine ⟨g, o, e, fun i v hi => ?_⟩
  have hcell := hc i v hi
  have ne : b ≠ g := fun c => by
    subst c
    have hv := hn v (List.mem_of_getElem? hi)
    simp only [World.cell?, hb] at hcell
    have key : ∀ q : Nat, (#[Value.slice none 0 0, .slice none 0 0, .slice none 0 0, .slice none 0 0, .slice none 0 0] : Array Value)[q]? = some v → v = .slice none 0 0 := fun q hq => by
      have : q = 0 ∨ q = 1 ∨ q = 2 ∨ q = 3 ∨ q = 4 ∨ 5 ≤ q := by omega
      rcases this with rfl | rfl | rfl | rfl | rfl | h5
      · exact (Option.some.inj hq).symm
      · exact (Option.some.inj hq).symm
      · exact (Option.some.inj hq).symm
      · exact (Option.some.inj hq).symm
      · exact (Option.some.inj hq).symm
      · rw [Array.getElem?_eq_none (by simpa using h5)] at hq; cases hq
    exact hv (key (o + i) (by simpa using hcell))
  have oth : ∀ (W : World) (j : Nat) (u : Value), (W.setCell ⟨b, j, none⟩ u).cell? ⟨g, o + i, none⟩ = W.cell? ⟨g, o + i, none⟩ := fun W j u => World.cell?_setCell_other _ _ _ _ (fun c => ne (by injection c))
  show (five w b v0 v1 v2 v3 v4).cell? ⟨g, o + i, none⟩ = some v
  rw [oth, oth, oth, oth, oth]
  exact hcell
set_option maxRecDepth 100000 in
theorem ns_kc (ks : List Knd) : ∀ u ∈ kc ks, u ≠ .slice none 0 0 := fun u hu => by
  obtain ⟨k, _, hk⟩ := List.mem_flatMap.1 hu
  simp only [List.mem_cons, List.not_mem_nil, or_false] at hk
  rcases hk with rfl | rfl | rfl <;> exact fun h => by cases h
set_option maxRecDepth 100000 in
theorem ns_jc (ks : List Jmp) : ∀ u ∈ jc ks, u ≠ .slice none 0 0 := fun u hu => by
  obtain ⟨k, _, hk⟩ := List.mem_flatMap.1 hu
  simp only [List.mem_cons, List.not_mem_nil, or_false] at hk
  rcases hk with rfl | rfl <;> exact fun h => by cases h
set_option maxRecDepth 100000 in
theorem ns_lc (ks : List Lep) : ∀ u ∈ lc ks, u ≠ .slice none 0 0 := fun u hu => by
  obtain ⟨k, _, hk⟩ := List.mem_flatMap.1 hu
  simp only [List.mem_cons, List.not_mem_nil, or_false] at hk
  rcases hk with rfl | rfl <;> exact fun h => by cases h
set_option maxRecDepth 100000 in
theorem ns_oc (ks : List Bool) : ∀ u ∈ oc ks, u ≠ .slice none 0 0 := fun u hu => by
  obtain ⟨k, _, rfl⟩ := List.mem_map.1 hu
  exact fun h => by cases h
set_option maxRecDepth 100000 in
theorem bk_box {w : World} {v : Value} {x : Blk} (h : BkR w v x) {b : Nat} {t : TypeId} (hb : w.heap[b]? = some (.cells #[.slice none 0 0, .slice none 0 0, .slice none 0 0, .slice none 0 0, .slice none 0 0] t (0, 0))) (v0 v1 v2 v3 v4 : Value) : BkR (five w b v0 v1 v2 v3 v4) v x := by
  obtain ⟨_, _, _, _, _, rfl, ⟨A0, c0, rfl, m0, n0, r0⟩, ⟨A1, c1, rfl, m1, n1, r1⟩, ⟨A2, c2, rfl, m2, n2, r2⟩, ⟨A3, c3, rfl, m3, n3, r3⟩, ⟨A4, c4, rfl, m4, n4, r4⟩⟩ := h
  exact ⟨_, _, _, _, _, rfl, ⟨A0, c0, rfl, m0, n0, rc_box r0 (ns_kc _) hb _ _ _ _ _⟩, ⟨A1, c1, rfl, m1, n1, rc_box r1 (ns_jc _) hb _ _ _ _ _⟩, ⟨A2, c2, rfl, m2, n2, rc_box r2 (ns_lc _) hb _ _ _ _ _⟩, ⟨A3, c3, rfl, m3, n3, rc_box r3 (ns_oc _) hb _ _ _ _ _⟩, ⟨A4, c4, rfl, m4, n4, rc_box r4 (ns_oc _) hb _ _ _ _ _⟩⟩
/-- The rest of a slice behind its first 44 bytes. -/
def sl44 (g o n c : Nat) : Value := .slice (if c = 44 then some ⟨g, o, none⟩ else some ⟨g, o + 44, none⟩) (n - 44) (c - 44)
set_option maxRecDepth 100000 in
theorem ex_cut44 (w : World) (a : Act) (o : Oper) (t : Tmp) (g q n c : Nat) (hn : 44 ≤ n) (hc : n ≤ c) (h : a.tmps.getD t undef = .slice (some ⟨g, q, none⟩) n c) (ho : o.op = .slice 32 (.tmp t) (some (.const (.int .i64 44))) none none) :
    (execOp a.eval o).run Tryz.prog w = .ok (.value (sl44 g q n c)) w := by
  have b1 : (44 : Int) ≤ (n : Int) := by omega
  unfold sl44
  by_cases b3 : c = 44
  · subst b3
    unfold execOp; rw [ho]; simp [go_sem, tg h, b1]
  · rw [if_neg b3]
    unfold execOp; rw [ho]; simp [go_sem, tg h, b1, b3]
set_option maxRecDepth 100000 in
theorem ex_ldR (w : World) (a : Act) (o : Oper) (t : Tmp) (b : Nat) (x0 x1 x2 x3 x4 x5 x6 : Int) (h : a.tmps.getD t undef = .pointer (some ⟨b, 0, none⟩)) (hc : HBox w b x0 x1 x2 x3 x4 x5 x6) (ho : o.op = .load 60 (.tmp t)) : (execOp a.eval o).run Tryz.prog w = .ok (.value (hv x0 x1 x2 x3 x4 x5 x6)) w := by
  obtain ⟨c0, c1, c2, c3, c4, c5, c6⟩ := hc
  unfold execOp; rw [ho]; simp [go_sem, tg h, c0, c1, c2, c3, c4, c5, c6]
set_option maxRecDepth 100000 in
theorem ex_boxR (w : World) (a : Act) (o : Oper) (ho : o.op = .alloc 37) : (execOp a.eval o).run Tryz.prog w = .ok (.value (.pointer (some ⟨w.heap.size, 0, none⟩))) (w.alloc (.cells #[.slice none 0 0, .slice none 0 0, .slice none 0 0, .slice none 0 0, .slice none 0 0] 37)) := by
  unfold execOp; rw [ho]; simp [go_sem]
set_option maxRecDepth 100000 in
theorem call_dec6 (args : Array Value) (w : World) : (callFunc 41 args).run Tryz.prog w = .ok (.enter 41 args) w := by
  unfold callFunc
  simp only [Sem.run_bind, run_program, Result.andThen_ok, Tryz.func41]
  rfl
set_option maxRecDepth 100000 in
theorem wp_stoR (w : World) (a : Act) (o : Oper) (t s : Tmp) (b : Nat) (P0 P1 P2 P3 P4 : Option Addr) (n0 n1 n2 n3 n4 d0 d1 d2 d3 d4 : Nat) (h3 : a.tmps.getD t undef = .pointer (some ⟨b, 0, none⟩)) (h50 : a.tmps.getD s undef = .agg #[.slice P0 n0 d0, .slice P1 n1 d1, .slice P2 n2 d2, .slice P3 n3 d3, .slice P4 n4 d4])
    {x0 x1 x2 x3 x4 : Value} (hx : Bx5 w b x0 x1 x2 x3 x4) (hf : Free w b) (hd : o.dst = none) (ho : o.op = .store 37 (.tmp t) (.tmp s)) {K : Act → World → Prop} {Q : Exit → Act → World → Prop}
    (k : K a (five w b (.slice P0 n0 d0) (.slice P1 n1 d1) (.slice P2 n2 d2) (.slice P3 n3 d3) (.slice P4 n4 d4))) : o.wp Tryz.prog a w K Q := by
  obtain ⟨e0, e1, e2, e3, e4⟩ := hx
  have f0 := hf.2 0; have f1 := hf.2 1; have f2 := hf.2 2; have f3 := hf.2 3; have f4 := hf.2 4
  unfold Oper.wp execOp
  rw [ho]
  simp [go_sem, tg h3, tg h50, e0, e1, e2, e3, e4, f0, f1, f2, f3, f4, Oper.upon, Act.put, hd]
  exact k
/-- What is known of the slots while a block is read. -/
def hlG (W : World) (sb sc Hd : Value) (z er : Int) (X : Blk) (t : Nat) (v : Value) (w : World) : Prop :=
  if t = 23 then v = sb
  else if t = 24 then v = sc
  else if t = 25 then v = Hd
  else if t = 26 then v = .int .i64 z
  else if t = 27 ∨ t = 22 then ∃ v', v = .tuple #[v', .int .i64 er] ∧ BkR w v' X ∧ BkF W v'
  else if t = 28 then BkR w v X ∧ BkF W v
  else if t = 10 then ∃ b, v = .pointer (some ⟨b, 0, none⟩) ∧ W.heap.size ≤ b ∧ w.heap[b]? = some (.cells #[.slice none 0 0, .slice none 0 0, .slice none 0 0, .slice none 0 0, .slice none 0 0] 37 (0, 0))
  else if t = 29 ∨ t = 11 then v = .int .i64 er
  else True
def hlN (er : Int) (t : Nat) (v : Value) : Prop := if t = 27 ∨ t = 22 then ∃ v', v = .tuple #[v', .int .i64 er] else if t = 29 ∨ t = 11 then v = .int .i64 er else True
def hlT (W : World) (X : Blk) (a : Act) (w : World) : Prop := ∃ b S0 s0 T0 S1 s1 T1 S2 s2 T2 S3 s3 T3 S4 s4 T4, a.tmps.getD 10 undef = .pointer (some ⟨b, 0, none⟩) ∧ W.heap.size ≤ b ∧ Bx5 w b (.slice S0 s0 T0) (.slice S1 s1 T1) (.slice S2 s2 T2) (.slice S3 s3 T3) (.slice S4 s4 T4) ∧ BkR w (.agg #[.slice S0 s0 T0, .slice S1 s1 T1, .slice S2 s2 T2, .slice S3 s3 T3, .slice S4 s4 T4]) X ∧ BkF W (.agg #[.slice S0 s0 T0, .slice S1 s1 T1, .slice S2 s2 T2, .slice S3 s3 T3, .slice S4 s4 T4]) ∧ Up W w
set_option maxRecDepth 100000 in
theorem hlG_up {W : World} {sb sc Hd : Value} {z er : Int} {X : Blk} (t : Nat) (v : Value) (w w' : World) (h : hlG W sb sc Hd z er X t v w) (u : Up w w') : hlG W sb sc Hd z er X t v w' := by
  unfold hlG at *
  by_cases t0 : t = 23
  · rw [if_pos t0] at h ⊢; exact h
  rw [if_neg t0] at h ⊢
  by_cases t1 : t = 24
  · rw [if_pos t1] at h ⊢; exact h
  rw [if_neg t1] at h ⊢
  by_cases t2 : t = 25
  · rw [if_pos t2] at h ⊢; exact h
  rw [if_neg t2] at h ⊢
  by_cases t3 : t = 26
  · rw [if_pos t3] at h ⊢; exact h
  rw [if_neg t3] at h ⊢
  by_cases t4 : t = 27 ∨ t = 22
  · rw [if_pos t4] at h ⊢; obtain ⟨v', h1, h2, h3⟩ := h; exact ⟨v', h1, h2.up u, h3⟩
  rw [if_neg t4] at h ⊢
  by_cases t5 : t = 28
  · rw [if_pos t5] at h ⊢; exact ⟨h.1.up u, h.2⟩
  rw [if_neg t5] at h ⊢
  by_cases t6 : t = 10
  · rw [if_pos t6] at h ⊢; obtain ⟨b, h1, h2, h3⟩ := h; exact ⟨b, h1, h2, heap_up u h3⟩
  rw [if_neg t6] at h ⊢
  exact h
set_option maxRecDepth 100000 in
theorem hlG_N {W : World} {sb sc Hd : Value} {z er : Int} {X : Blk} (t : Nat) (v : Value) (w : World) (h : hlG W sb sc Hd z er X t v w) : hlN er t v := by
  unfold hlN
  by_cases t4 : t = 27 ∨ t = 22
  · rw [if_pos t4]
    unfold hlG at h
    rw [if_neg (by omega), if_neg (by omega), if_neg (by omega), if_neg (by omega), if_pos t4] at h
    obtain ⟨v', h1, _⟩ := h
    exact ⟨v', h1⟩
  rw [if_neg t4]
  by_cases t8 : t = 29 ∨ t = 11
  · rw [if_pos t8]
    unfold hlG at h
    rw [if_neg (by omega), if_neg (by omega), if_neg (by omega), if_neg (by omega), if_neg t4, if_neg (by omega), if_neg (by omega), if_pos t8] at h
    exact h
  rw [if_neg t8]
  trivial
set_option maxRecDepth 100000 in
theorem cons_of {l : List Value} {n : Nat} (h : l.length = n + 1) : ∃ a m, l = a :: m ∧ m.length = n := by
  cases l with
  | nil => cases h
  | cons a m => exact ⟨a, m, rfl, by simpa using h⟩
set_option maxRecDepth 100000 in
theorem ex_ldB6 (w : World) (a : Act) (o : Oper) (t : Tmp) (b : Nat) (x0 x1 x2 x3 x4 : Value) (h : a.tmps.getD t undef = .pointer (some ⟨b, 0, none⟩)) (hc : Bx5 w b x0 x1 x2 x3 x4) (ho : o.op = .load 37 (.tmp t)) : (execOp a.eval o).run Tryz.prog w = .ok (.value (.agg #[x0, x1, x2, x3, x4])) w := by
  obtain ⟨c0, c1, c2, c3, c4⟩ := hc
  unfold execOp; rw [ho]; simp [go_sem, tg h, c0, c1, c2, c3, c4]
set_option maxRecDepth 100000 in
theorem ex_add44 (w : World) (a : Act) (o : Oper) (t : Tmp) (n : Int) (hw : IntKind.i64.wrap (44 + n) = 44 + n) (h : a.tmps.getD t undef = .int .i64 n) (ho : o.op = .binOp .add 3 (.const (.int .i64 44)) (.tmp t) 3) : (execOp a.eval o).run Tryz.prog w = .ok (.value (.int .i64 (44 + n))) w := by
  unfold execOp; rw [ho]; simp [go_sem, tg h, hw]
set_option maxRecDepth 100000 in
theorem call_body5 (args : Array Value) (w : World) : (callFunc 42 args).run Tryz.prog w = .ok (.enter 42 args) w := by
  unfold callFunc
  simp only [Sem.run_bind, run_program, Result.andThen_ok, Tryz.func42]
  rfl
set_option maxRecDepth 100000 in
theorem wp_call2 (w : World) (a : Act) (o : Oper) (f : FuncId) (hf : ∀ args w, (callFunc f args).run Tryz.prog w = .ok (.enter f args) w) (t1 t2 : Tmp) (v1 v2 : Value) (tys : Array TypeId) (ho : o.op = .call { callee := .value (.func f), args := #[.tmp t1, .tmp t2], argTypes := tys }) (h1 : a.tmps.getD t1 undef = v1) (h2 : a.tmps.getD t2 undef = v2)
    {K : Act → World → Prop} {Q : Exit → Act → World → Prop} (c : Calls Tryz.prog f #[v1, v2] w fun e w' => ∃ v, e = .returned v ∧ K (a.put o.dst v) w') : o.wp Tryz.prog a w K Q := by
  unfold Oper.wp execOp
  rw [ho]
  simp [go_sem, tg h1, tg h2]
  rw [hf, Oper.upon_enter]
  exact c.mono fun e w' ⟨v, he, hk⟩ => by subst he; exact hk
set_option maxRecDepth 100000 in
theorem wp_stoH (w : World) (a : Act) (o : Oper) (t s : Tmp) (b : Nat) (ver k0 k1 k2 k3 k4 k5 : Int) (h3 : a.tmps.getD t undef = .pointer (some ⟨b, 0, none⟩)) (h50 : a.tmps.getD s undef = hv ver k0 k1 k2 k3 k4 k5)
    {x0 x1 x2 x3 x4 x5 x6 : Value} (hx : Bx7 w b x0 x1 x2 x3 x4 x5 x6) (hf : Free w b) (hd : o.dst = none) (ho : o.op = .store 60 (.tmp t) (.tmp s)) {K : Act → World → Prop} {Q : Exit → Act → World → Prop}
    (k : K a (seven w b (.int .i64 ver) (.int .i64 k0) (.int .i64 k1) (.int .i64 k2) (.int .i64 k3) (.int .i64 k4) (.int .i64 k5))) : o.wp Tryz.prog a w K Q := by
  obtain ⟨e0, e1, e2, e3, e4, e5, e6⟩ := hx
  have f0 := hf.2 0; have f1 := hf.2 1; have f2 := hf.2 2; have f3 := hf.2 3; have f4 := hf.2 4; have f5 := hf.2 5; have f6 := hf.2 6
  unfold hv at h50
  unfold Oper.wp execOp
  rw [ho]
  simp [go_sem, tg h3, tg h50, e0, e1, e2, e3, e4, e5, e6, f0, f1, f2, f3, f4, f5, f6, Oper.upon, Act.put, hd]
  exact k
set_option maxRecDepth 100000 in
theorem free_set {w : World} {b c o : Nat} {u : Value} (h : Free w c) : Free (w.setCell ⟨b, o, none⟩ u) c :=
  ⟨by simpa [World.setCell] using h.1, fun j => (World.frozen?_setCell _ _ _ _).trans (h.2 j)⟩
set_option maxRecDepth 100000 in
theorem free_seven {w : World} {b c : Nat} (h : Free w c) (v0 v1 v2 v3 v4 v5 v6 : Value) : Free (seven w b v0 v1 v2 v3 v4 v5 v6) c := free_set (free_set (free_set (free_set (free_set (free_set (free_set h))))))
set_option maxRecDepth 100000 in
theorem free_five {w : World} {b c : Nat} (h : Free w c) (v0 v1 v2 v3 v4 : Value) : Free (five w b v0 v1 v2 v3 v4) c := free_set (free_set (free_set (free_set (free_set h))))
/-- What stands while half's answers are stored. -/
def hrJ (w W2 : World) (H bq : Nat) (ver k0 k1 k2 k3 k4 k5 : Int) (S0 S1 S2 S3 S4 : Option Addr) (s0 s1 s2 s3 s4 T0 T1 T2 T3 T4 : Nat) (X : Blk) (w' : World) : Prop :=
  HBox w' H ver k0 k1 k2 k3 k4 k5 ∧ Bx5 w' bq (.slice S0 s0 T0) (.slice S1 s1 T1) (.slice S2 s2 T2) (.slice S3 s3 T3) (.slice S4 s4 T4) ∧ (∃ v0 v1 v2 v3 v4 v5 v6, Bx7 w' w.heap.size v0 v1 v2 v3 v4 v5 v6) ∧ Free w' w.heap.size ∧ (∃ v0 v1 v2 v3 v4, Bx5 w' (w.heap.size + 1) v0 v1 v2 v3 v4) ∧ Free w' (w.heap.size + 1) ∧ BkR w' (.agg #[.slice S0 s0 T0, .slice S1 s1 T1, .slice S2 s2 T2, .slice S3 s3 T3, .slice S4 s4 T4]) X ∧ Up w w' ∧ BkF W2 (.agg #[.slice S0 s0 T0, .slice S1 s1 T1, .slice S2 s2 T2, .slice S3 s3 T3, .slice S4 s4 T4]) ∧ w.heap.size + 1 < W2.heap.size ∧ w.heap.size + 1 < H ∧ w.heap.size + 1 < bq
def hrA (B : Nat) (ver k0 k1 k2 k3 k4 k5 : Int) (S0 S1 S2 S3 S4 : Option Addr) (s0 s1 s2 s3 s4 T0 T1 T2 T3 T4 : Nat) (i : Nat) (w' : World) : Prop :=
  if i = 7 then Bx7 w' B (.int .i64 ver) (.int .i64 k0) (.int .i64 k1) (.int .i64 k2) (.int .i64 k3) (.int .i64 k4) (.int .i64 k5) else if i = 8 then Bx5 w' (B + 1) (.slice S0 s0 T0) (.slice S1 s1 T1) (.slice S2 s2 T2) (.slice S3 s3 T3) (.slice S4 s4 T4) else True
def hrG (Hd vx : Value) (z bo er : Int) (t : Nat) (v : Value) : Prop :=
  if t = 30 then v = Hd else if t = 31 then v = vx else if t = 32 then v = Hd else if t = 33 then v = .int .i64 z else if t = 34 then v = .int .i64 bo else if t = 35 then v = .int .i64 (44 + bo) else if t = 36 then v = .int .i64 er else if t = 6 then v = .int .i64 (44 + bo) else if t = 7 then v = .int .i64 er else True
section
variable {w W2 w' : World} {H bq : Nat} {ver k0 k1 k2 k3 k4 k5 : Int} {S0 S1 S2 S3 S4 : Option Addr} {s0 s1 s2 s3 s4 T0 T1 T2 T3 T4 : Nat} {X : Blk}
set_option maxRecDepth 100000 in
theorem hrJ.up {w'' : World} (h : hrJ w W2 H bq ver k0 k1 k2 k3 k4 k5 S0 S1 S2 S3 S4 s0 s1 s2 s3 s4 T0 T1 T2 T3 T4 X w') (u : Up w' w'') : hrJ w W2 H bq ver k0 k1 k2 k3 k4 k5 S0 S1 S2 S3 S4 s0 s1 s2 s3 s4 T0 T1 T2 T3 T4 X w'' := by
  obtain ⟨h1, h2, ⟨_, _, _, _, _, _, _, h3⟩, h4, ⟨_, _, _, _, _, h5⟩, h6, h7, h8, h9⟩ := h
  exact ⟨h1.up u, h2.up u, ⟨_, _, _, _, _, _, _, h3.up u⟩, h4.up u, ⟨_, _, _, _, _, h5.up u⟩, h6.up u, h7.up u, h8.trans u, h9⟩
set_option maxRecDepth 100000 in
theorem hb_of {w : World} {B : Nat} {v u s l t y c : Int} (h : HBox w B v u s l t y c) : Bx7 w B (.int .i64 v) (.int .i64 u) (.int .i64 s) (.int .i64 l) (.int .i64 t) (.int .i64 y) (.int .i64 c) := h
set_option maxRecDepth 100000 in
theorem Bx7.far7 {w : World} {B C : Nat} {a b c d e f g : Value} (h : Bx7 w C a b c d e f g) (hn : B ≠ C) (v0 v1 v2 v3 v4 v5 v6 : Value) : Bx7 (Go.Proofs.YtaljddoenjgbfaaGreat.seven w B v0 v1 v2 v3 v4 v5 v6) C a b c d e f g :=
  Bx7.far (Bx7.far (Bx7.far (Bx7.far (Bx7.far (Bx7.far (Bx7.far h hn) hn) hn) hn) hn) hn) hn
set_option maxRecDepth 100000 in
theorem Bx5.far5 {w : World} {B C : Nat} {a b c d e : Value} (h : Bx5 w C a b c d e) (hn : B ≠ C) (v0 v1 v2 v3 v4 : Value) : Bx5 (Go.Proofs.YtaljddoenjgbfaaGreat.five w B v0 v1 v2 v3 v4) C a b c d e :=
  Bx5.far (Bx5.far (Bx5.far (Bx5.far (Bx5.far h hn) hn) hn) hn) hn
set_option maxRecDepth 100000 in
theorem hrJ.st7 (h : hrJ w W2 H bq ver k0 k1 k2 k3 k4 k5 S0 S1 S2 S3 S4 s0 s1 s2 s3 s4 T0 T1 T2 T3 T4 X w') : hrJ w W2 H bq ver k0 k1 k2 k3 k4 k5 S0 S1 S2 S3 S4 s0 s1 s2 s3 s4 T0 T1 T2 T3 T4 X (seven w' w.heap.size (.int .i64 ver) (.int .i64 k0) (.int .i64 k1) (.int .i64 k2) (.int .i64 k3) (.int .i64 k4) (.int .i64 k5)) := by
  obtain ⟨h1, h2, ⟨_, _, _, _, _, _, _, h3⟩, h4, ⟨_, _, _, _, _, h5⟩, h6, h7, h8, h9, h10, h11, h12⟩ := h
  exact ⟨(hb_of h1).far7 (by omega) _ _ _ _ _ _ _, h2.far7 (by omega) _ _ _ _ _ _ _, ⟨_, _, _, _, _, _, _, h3.seven _ _ _ _ _ _ _⟩, free_seven h4 _ _ _ _ _ _ _, ⟨_, _, _, _, _, h5.far7 (by omega) _ _ _ _ _ _ _⟩, free_seven h6 _ _ _ _ _ _ _, h7.gb (gb_seven (World.grownBy.refl w' _) _ _ _ _ _ _ _) h9 (by omega), h8.seven (Nat.le_refl _) _ _ _ _ _ _ _, h9, h10, h11, h12⟩
set_option maxRecDepth 100000 in
theorem hrJ.st8 (h : hrJ w W2 H bq ver k0 k1 k2 k3 k4 k5 S0 S1 S2 S3 S4 s0 s1 s2 s3 s4 T0 T1 T2 T3 T4 X w') : hrJ w W2 H bq ver k0 k1 k2 k3 k4 k5 S0 S1 S2 S3 S4 s0 s1 s2 s3 s4 T0 T1 T2 T3 T4 X (five w' (w.heap.size + 1) (.slice S0 s0 T0) (.slice S1 s1 T1) (.slice S2 s2 T2) (.slice S3 s3 T3) (.slice S4 s4 T4)) := by
  obtain ⟨h1, h2, ⟨_, _, _, _, _, _, _, h3⟩, h4, ⟨_, _, _, _, _, h5⟩, h6, h7, h8, h9, h10, h11, h12⟩ := h
  exact ⟨(hb_of h1).far5 (by omega) _ _ _ _ _, h2.far5 (by omega) _ _ _ _ _, ⟨_, _, _, _, _, _, _, h3.far5 (by omega) _ _ _ _ _⟩, free_five h4 _ _ _ _ _, ⟨_, _, _, _, _, Bx5.five h5 _ _ _ _ _⟩, free_five h6 _ _ _ _ _, h7.gb (gb_five (World.grownBy.refl w' _) _ _ _ _ _) h9 h10, h8.five (Nat.le_succ _) _ _ _ _ _, h9, h10, h11, h12⟩
set_option maxRecDepth 100000 in
theorem hrA_up {w'' : World} {B j : Nat} (u : Up w' w'') (h : hrA B ver k0 k1 k2 k3 k4 k5 S0 S1 S2 S3 S4 s0 s1 s2 s3 s4 T0 T1 T2 T3 T4 j w') : hrA B ver k0 k1 k2 k3 k4 k5 S0 S1 S2 S3 S4 s0 s1 s2 s3 s4 T0 T1 T2 T3 T4 j w'' := by
  unfold hrA at *
  by_cases t0 : j = 7
  · rw [if_pos t0] at h ⊢; exact h.up u
  rw [if_neg t0] at h ⊢
  by_cases t1 : j = 8
  · rw [if_pos t1] at h ⊢; exact h.up u
  rw [if_neg t1] at h ⊢
  exact h
set_option maxRecDepth 100000 in
theorem hrA_7 {B j : Nat} {x0 x1 x2 x3 x4 x5 x6 : Value} (hx : Bx7 w' B x0 x1 x2 x3 x4 x5 x6) (h : hrA B ver k0 k1 k2 k3 k4 k5 S0 S1 S2 S3 S4 s0 s1 s2 s3 s4 T0 T1 T2 T3 T4 j w') : hrA B ver k0 k1 k2 k3 k4 k5 S0 S1 S2 S3 S4 s0 s1 s2 s3 s4 T0 T1 T2 T3 T4 j (seven w' B (.int .i64 ver) (.int .i64 k0) (.int .i64 k1) (.int .i64 k2) (.int .i64 k3) (.int .i64 k4) (.int .i64 k5)) := by
  unfold hrA at *
  by_cases t0 : j = 7
  · rw [if_pos t0] at h ⊢; exact hx.seven _ _ _ _ _ _ _
  rw [if_neg t0] at h ⊢
  by_cases t1 : j = 8
  · rw [if_pos t1] at h ⊢; exact h.far7 (by omega) _ _ _ _ _ _ _
  rw [if_neg t1] at h ⊢
  exact h
set_option maxRecDepth 100000 in
theorem hrA_8 {B j : Nat} {x0 x1 x2 x3 x4 : Value} (hx : Bx5 w' (B + 1) x0 x1 x2 x3 x4) (h : hrA B ver k0 k1 k2 k3 k4 k5 S0 S1 S2 S3 S4 s0 s1 s2 s3 s4 T0 T1 T2 T3 T4 j w') : hrA B ver k0 k1 k2 k3 k4 k5 S0 S1 S2 S3 S4 s0 s1 s2 s3 s4 T0 T1 T2 T3 T4 j (five w' (B + 1) (.slice S0 s0 T0) (.slice S1 s1 T1) (.slice S2 s2 T2) (.slice S3 s3 T3) (.slice S4 s4 T4)) := by
  unfold hrA at *
  by_cases t0 : j = 7
  · rw [if_pos t0] at h ⊢; exact h.far5 (by omega) _ _ _ _ _
  rw [if_neg t0] at h ⊢
  by_cases t1 : j = 8
  · rw [if_pos t1] at h ⊢; exact Bx5.five hx _ _ _ _ _
  rw [if_neg t1] at h ⊢
  exact h
end
/-- What half answers of a header that is read. -/
def HlP (w : World) (l : List UInt8) (z : Int) (e : Ending) (w' : World) : Prop := ∃ vx, e = .returned (.tuple #[hv (vH l) (cntI l 0) (cntI l 1) (cntI l 2) (cntI l 3) (cntI l 4) (cntI l 5), vx, .int .i64 (44 + bodyI (cntI l 0) (cntI l 1) (cntI l 2) (cntI l 3) (cntI l 4) (cntI l 5) z), .int .i64 (hB l z)]) ∧ BkR w' vx (hX l z) ∧ BkF w vx ∧ Up w w'
set_option maxRecDepth 100000 in
theorem dec44 (g o : Nat) (l : List UInt8) (n c : Nat) (z : Int) (w : World) (hn : l.length = n) (h44 : 44 ≤ n) (hc : n ≤ c) (hcm : c ≤ maxLen) (hr : Rd w (some ⟨g, o, none⟩) l) :
    ∀ w1, Up w w1 → Calls Tryz.prog 41 #[sl44 g o n c, hv (vH l) (cntI l 0) (cntI l 1) (cntI l 2) (cntI l 3) (cntI l 4) (cntI l 5), .int .i64 z] w1 fun e w' => DcN w1 (hB l z) (hX l z) e w' := fun w1 u => by
  have e : (l.drop 44).length = n - 44 := by rw [List.length_drop, hn]
  unfold sl44 hB hX
  by_cases h : c = 44
  · have e2 : l.drop 44 = [] := List.drop_eq_nil_of_le (by omega)
    have e3 : n - 44 = ([] : List UInt8).length := by simp; omega
    rw [if_pos h, e2, e3]
    exact ddecodeN_any _ [] (c - 44) _ _ _ _ _ _ _ z w1 (by omega) (by simp) (Rd.nil _ _)
  · rw [if_neg h, ← e]
    exact ddecodeN_any _ (l.drop 44) (c - 44) _ _ _ _ _ _ _ z w1 (by omega) (by omega) ((hr.up u).drop 44)
set_option maxRecDepth 100000 in
set_option maxHeartbeats 2000000 in
theorem dhalf_yes (A : Option Addr) (l : List UInt8) (n c : Nat) (z : Int) (w : World) (hn : l.length = n) (hc : n ≤ c) (hcm : c ≤ maxLen) (hr : Rd w A l) (h : errH l = 0) (hz : z = 4 ∨ z = 8) :
    Calls Tryz.prog 23 #[.slice A n c, .int .i64 z] w fun e w' => HlP w l z e w' := by
  obtain ⟨hi, h44⟩ := isH_of h
  have rh := rightH_of hi
  have q := rightH_true.1 rh
  obtain ⟨g, o, rfl, _⟩ := hr (by omega)
  have D := Lib.hid (fun w1 (u : Up w w1) => refDecode_any (some ⟨g, o, none⟩) l c w1 (by omega) hcm (hr.up u))
  rw [h, hn] at D
  rw [hn] at h44
  have DH : decH l = hv (vH l) (cntI l 0) (cntI l 1) (cntI l 2) (cntI l 3) (cntI l 4) (cntI l 5) := by unfold decH; rw [if_pos hi]; rfl
  rw [DH] at D
  have D2 := Lib.hid (fun w1 (u : Up w w1) => dec44 g o l n c z w hn h44 hc hcm hr w1 u)
  have BO := Lib.hid (fun w1 => refBody_any (vH l) (cntI l 0) (cntI l 1) (cntI l 2) (cntI l 3) (cntI l 4) (cntI l 5) z w1 (by omega) (by omega) (by omega) (by omega) (by omega) (by omega) hz)
  have bd := bodyI_bd rh (z := z) (by omega)
  obtain ⟨P, hP⟩ : ∃ P, HlP w l z = P := ⟨_, rfl⟩
  have HP := Lib.hid (show ∀ e w', (∃ vx, e = .returned (.tuple #[hv (vH l) (cntI l 0) (cntI l 1) (cntI l 2) (cntI l 3) (cntI l 4) (cntI l 5), vx, .int .i64 (44 + bodyI (cntI l 0) (cntI l 1) (cntI l 2) (cntI l 3) (cntI l 4) (cntI l 5) z), .int .i64 (hB l z)]) ∧ BkR w' vx (hX l z) ∧ BkF w vx ∧ Up w w') → P e w' from fun e w' g => by rw [← hP]; exact g)
  rw [hP]
  unfold DcN at D2
  generalize bodyI (cntI l 0) (cntI l 1) (cntI l 2) (cntI l 3) (cntI l 4) (cntI l 5) z = bo at *
  generalize hB l z = er at *
  generalize hX l z = X at *
  generalize vH l = ver at *
  generalize cntI l 0 = k0 at *
  generalize cntI l 1 = k1 at *
  generalize cntI l 2 = k2 at *
  generalize cntI l 3 = k3 at *
  generalize cntI l 4 = k4 at *
  generalize cntI l 5 = k5 at *
  obtain ⟨bd0, bd1⟩ := bd
  have UW := Lib.hid ((Up.alloc w (.cells #[.int .i64 0, .int .i64 0, .int .i64 0, .int .i64 0, .int .i64 0, .int .i64 0, .int .i64 0] 60)).alloc' (.cells #[.slice none 0 0, .slice none 0 0, .slice none 0 0, .slice none 0 0, .slice none 0 0] 37))
  have FA := Lib.hid ((Free.new w #[.int .i64 0, .int .i64 0, .int .i64 0, .int .i64 0, .int .i64 0, .int .i64 0, .int .i64 0] 60).up (Up.alloc _ (.cells #[.slice none 0 0, .slice none 0 0, .slice none 0 0, .slice none 0 0, .slice none 0 0] 37)))
  have XA := Lib.hid ((HBox.new w 0 0 0 0 0 0 0 60).up (Up.alloc _ (.cells #[.slice none 0 0, .slice none 0 0, .slice none 0 0, .slice none 0 0, .slice none 0 0] 37)))
  have FB := Free.new (w.alloc (.cells #[.int .i64 0, .int .i64 0, .int .i64 0, .int .i64 0, .int .i64 0, .int .i64 0, .int .i64 0] 60)) #[.slice none 0 0, .slice none 0 0, .slice none 0 0, .slice none 0 0, .slice none 0 0] 37
  have XB := Bx5.new (w.alloc (.cells #[.int .i64 0, .int .i64 0, .int .i64 0, .int .i64 0, .int .i64 0, .int .i64 0, .int .i64 0] 60)) (.slice none 0 0) (.slice none 0 0) (.slice none 0 0) (.slice none 0 0) (.slice none 0 0) 37
  rw [World.size_alloc] at FB XB
  clear h hi hn hP hr rh q DH
  go_enter Tryz.func23, Tryz.ntmps23
  go_wp2_with fail
  generalize (w.alloc (.cells #[.int .i64 0, .int .i64 0, .int .i64 0, .int .i64 0, .int .i64 0, .int .i64 0, .int .i64 0] 60)).alloc (.cells #[.slice none 0 0, .slice none 0 0, .slice none 0 0, .slice none 0 0, .slice none 0 0] 37) = W at *
  refine (D.out _ UW.out).mono ?_; rintro e w1 ⟨rfl, u1⟩
  have U1 := Lib.hid (UW.out.trans u1)
  have XA1 := Lib.hid (XA.out.up u1)
  have FA1 := Lib.hid (FA.out.up u1)
  have XB1 := Lib.hid (XB.up u1)
  have FB1 := Lib.hid (FB.up u1)
  have uh := Up.alloc w1 (.cells #[.int .i64 ver, .int .i64 k0, .int .i64 k1, .int .i64 k2, .int .i64 k3, .int .i64 k4, .int .i64 k5] 60)
  have HH := Lib.hid (HBox.new w1 ver k0 k1 k2 k3 k4 k5 60)
  clear u1 XA FA XB FB UW D
  go_upto_region 4 with (fail)
  have ltH : w.heap.size + 1 < w1.heap.size := FB1.out.1
  have UW2 := Lib.hid (U1.out.trans uh)
  have XA2 := Lib.hid (XA1.out.up uh)
  have FA2 := Lib.hid (FA1.out.up uh)
  have XB2 := Lib.hid (XB1.out.up uh)
  have FB2 := Lib.hid (FB1.out.up uh)
  clear uh XA1 FA1 XB1 FB1 U1
  generalize w1.alloc (.cells #[.int .i64 ver, .int .i64 k0, .int .i64 k1, .int .i64 k2, .int .i64 k3, .int .i64 k4, .int .i64 k5] 60) = W2 at *
  --REGION
  refine wp_region_own (s := 9) (late := fun i => i == 7 || i == 10) (G := hlG W2 (Value.slice (some ⟨g, o, none⟩) n c) (sl44 g o n c) (hv ver k0 k1 k2 k3 k4 k5) z er X) (N := hlN er) (T := hlT W2 X) (by kernel_rfl) (by show (9 : Nat) < 11; decide) rfl (by kernel_rfl) (by kernel_rfl) (by kernel_rfl) hlG_up hlG_N ?step ?pure ?store ?keep ?fin
  case step =>
    intro i o' his hla ho a w' u old pre
    have p0 : a.tmps.getD 0 undef = (Value.slice (some ⟨g, o, none⟩) n c) := getD_some ((old 0 (by kernel_rfl)).trans rfl)
    have p1 : a.tmps.getD 1 undef = .int .i64 z := getD_some ((old 1 (by kernel_rfl)).trans rfl)
    have p8 : a.tmps.getD 8 undef = .pointer (some ⟨w1.heap.size, 0, none⟩) := getD_some ((old 8 (by kernel_rfl)).trans rfl)
    clear old
    have hi := lt_of_get ho
    have hi' : i = 0 ∨ i = 1 ∨ i = 2 ∨ i = 3 ∨ i = 4 ∨ i = 5 ∨ i = 6 ∨ i = 7 ∨ i = 8 ∨ i = 9 ∨ i = 10 := by have : i < 11 := hi; omega
    rcases hi' with rfl | rfl | rfl | rfl | rfl | rfl | rfl | rfl | rfl | rfl | rfl
    · injection ho with ho; subst ho
      exact wp_run w' a _ (ex_mov w' a _ 0 _ p0 rfl) ⟨_, rfl, fun d hd => (by injection hd with hd; subst hd; exact (show (Value.slice (some ⟨g, o, none⟩) n c) = _ from rfl)), u, .inl (Up.refl _)⟩
    · injection ho with ho; subst ho
      exact wp_run w' a _ (ex_cut44 w' a _ 23 g o n c h44 hc (pre ⟨0, .data⟩ (by simp) rfl _ 23 rfl rfl) rfl) ⟨_, rfl, fun d hd => (by injection hd with hd; subst hd; exact (show (sl44 g o n c) = _ from rfl)), u, .inl (Up.refl _)⟩
    · injection ho with ho; subst ho
      exact wp_run w' a _ (ex_ldR w' a _ 8 _ _ _ _ _ _ _ _ p8 (HH.out.up u) rfl) ⟨_, rfl, fun d hd => (by injection hd with hd; subst hd; exact (show (hv ver k0 k1 k2 k3 k4 k5) = _ from rfl)), u, .inl (Up.refl _)⟩
    · injection ho with ho; subst ho
      exact wp_run w' a _ (ex_mov w' a _ 1 _ p1 rfl) ⟨_, rfl, fun d hd => (by injection hd with hd; subst hd; exact (show Value.int .i64 z = _ from rfl)), u, .inl (Up.refl _)⟩
    · injection ho with ho; subst ho
      refine wp_call3 w' a _ 41 (fun args w => call_dec6 args w) 24 25 26 _ _ _ _ rfl (show a.tmps.getD 24 undef = (sl44 g o n c) from (pre ⟨1, .data⟩ (by simp) rfl _ 24 rfl rfl)) (show a.tmps.getD 25 undef = (hv ver k0 k1 k2 k3 k4 k5) from (pre ⟨2, .data⟩ (by simp) rfl _ 25 rfl rfl)) (show a.tmps.getD 26 undef = .int .i64 z from (pre ⟨3, .data⟩ (by simp) rfl _ 26 rfl rfl)) ?_
      refine (D2.out w' (UW2.out.trans u)).mono ?_
      rintro e w'' ⟨vd, rfl, bd, ud, fd⟩
      exact ⟨_, rfl, _, rfl, fun d hd => (by injection hd with hd; subst hd; exact (show ∃ v', _ ∧ BkR w'' v' X ∧ BkF W2 v' from ⟨_, rfl, bd, fd.base u⟩)), u.trans ud, .inl ud⟩
    · injection ho with ho; subst ho
      obtain ⟨v', e1, e2⟩ := (show ∃ v', a.tmps.getD 27 undef = .tuple #[v', .int .i64 er] ∧ BkR w' v' X ∧ BkF W2 v' from (pre ⟨4, .data⟩ (by simp) rfl _ 27 rfl rfl))
      exact wp_run w' a _ (ex_mov w' a _ 27 _ e1 rfl) ⟨_, rfl, fun d hd => (by injection hd with hd; subst hd; exact (show ∃ v', _ ∧ BkR w' v' X ∧ BkF W2 v' from ⟨_, rfl, e2⟩)), u, .inl (Up.refl _)⟩
    · injection ho with ho; subst ho
      obtain ⟨v', e1, e2⟩ := (show ∃ v', a.tmps.getD 22 undef = .tuple #[v', .int .i64 er] ∧ BkR w' v' X ∧ BkF W2 v' from (pre ⟨5, .data⟩ (by simp) rfl _ 22 rfl rfl))
      exact wp_run w' a _ (ex_ext0 w' a _ 22 _ _ e1 rfl) ⟨_, rfl, fun d hd => (by injection hd with hd; subst hd; exact (show BkR w' v' X ∧ BkF W2 v' from e2)), u, .inl (Up.refl _)⟩
    · cases hla
    · injection ho with ho; subst ho
      exact wp_run w' a _ (ex_boxR w' a _ rfl) ⟨_, rfl, fun d hd => (by injection hd with hd; subst hd; exact (show ∃ b, _ from ⟨_, rfl, u.size, heap_alloc_new w' _⟩)), u.alloc' _, .inl (Up.alloc _ _)⟩
    · exact absurd rfl his
    · cases hla
  case pure =>
    intro i o' hla ho a w' old pre
    clear old
    have hi := lt_of_get ho
    have hi' : i = 0 ∨ i = 1 ∨ i = 2 ∨ i = 3 ∨ i = 4 ∨ i = 5 ∨ i = 6 ∨ i = 7 ∨ i = 8 ∨ i = 9 ∨ i = 10 := by have : i < 11 := hi; omega
    rcases hi' with rfl | rfl | rfl | rfl | rfl | rfl | rfl | rfl | rfl | rfl | rfl
    · cases hla
    · cases hla
    · cases hla
    · cases hla
    · cases hla
    · cases hla
    · cases hla
    · injection ho with ho; subst ho
      obtain ⟨v', e1⟩ := (show ∃ v', a.tmps.getD 22 undef = .tuple #[v', .int .i64 er] from (pre ⟨5, .data⟩ (by simp) rfl _ 22 rfl rfl))
      exact ⟨_, ex_ext1 w' a _ 22 _ _ e1 rfl, fun d hd => (by injection hd with hd; subst hd; exact (show Value.int .i64 er = _ from rfl))⟩
    · cases hla
    · cases hla
    · injection ho with ho; subst ho
      have e1 := (show a.tmps.getD 29 undef = .int .i64 er from (pre ⟨7, .data⟩ (by simp) rfl _ 29 rfl rfl))
      exact ⟨_, ex_asg w' a _ 29 _ e1 rfl, fun d hd => (by injection hd with hd; subst hd; exact (show Value.int .i64 er = _ from rfl))⟩
  case store =>
    intro o' ho a w' u sz old pre
    injection ho with ho; subst ho
    obtain ⟨b, h10, hbb, hbx⟩ := (show ∃ b, a.tmps.getD 10 undef = .pointer (some ⟨b, 0, none⟩) ∧ W2.heap.size ≤ b ∧ w'.heap[b]? = some (.cells #[.slice none 0 0, .slice none 0 0, .slice none 0 0, .slice none 0 0, .slice none 0 0] 37 (0, 0)) from (pre ⟨8, .data⟩ (by simp) rfl _ 10 rfl rfl))
    obtain ⟨h28, f28⟩ : BkR w' (a.tmps.getD 28 undef) X ∧ BkF W2 (a.tmps.getD 28 undef) := (pre ⟨6, .data⟩ (by simp) rfl _ 28 rfl rfl)
    obtain ⟨S0, s0, T0, S1, s1, T1, S2, s2, T2, S3, s3, T3, S4, s4, T4, e28⟩ := h28.form
    rw [e28] at h28 f28
    refine wp_stoR w' a _ 10 28 b _ _ _ _ _ _ _ _ _ _ _ _ _ _ _ h10 e28 (bx_heap hbx).1 (bx_heap hbx).2 rfl rfl ⟨rfl, ?_⟩
    exact ⟨b, _, _, _, _, _, _, _, _, _, _, _, _, _, _, _, h10, hbb, (bx_heap (five_heap hbx _ _ _ _ _)).1, bk_box h28 hbx _ _ _ _ _, f28, u.five hbb _ _ _ _ _⟩
  case keep =>
    intro a w' i o' d v hla hp hpd hT
    obtain ⟨b, S0, s0, T0, S1, s1, T1, S2, s2, T2, S3, s3, T3, S4, s4, T4, h10, rest⟩ := hT
    have hi := lt_of_get hp
    have hi' : i = 0 ∨ i = 1 ∨ i = 2 ∨ i = 3 ∨ i = 4 ∨ i = 5 ∨ i = 6 ∨ i = 7 ∨ i = 8 ∨ i = 9 ∨ i = 10 := by have : i < 11 := hi; omega
    rcases hi' with rfl | rfl | rfl | rfl | rfl | rfl | rfl | rfl | rfl | rfl | rfl
    · cases hla
    · cases hla
    · cases hla
    · cases hla
    · cases hla
    · cases hla
    · cases hla
    · injection hp with hp; subst hp; injection hpd with hpd; subst hpd
      refine ⟨b, S0, s0, T0, S1, s1, T1, S2, s2, T2, S3, s3, T3, S4, s4, T4, ?_, rest⟩
      rw [← h10]; simp [Act.put, Array.getD_eq_getD_getElem?]
    · cases hla
    · cases hla
    · injection hp with hp; subst hp; injection hpd with hpd; subst hpd
      refine ⟨b, S0, s0, T0, S1, s1, T1, S2, s2, T2, S3, s3, T3, S4, s4, T4, ?_, rest⟩
      rw [← h10]; simp [Act.put, Array.getD_eq_getD_getElem?]
  case fin =>
    intro a w4 sz df old hT hN
    obtain ⟨bq, S0, s0, T0, S1, s1, T1, S2, s2, T2, S3, s3, T3, S4, s4, T4, h10, hbb, bx4, v4, f4, u4⟩ := hT
    have h11 : a.tmps.getD 11 undef = .int .i64 er := hN 10 _ 11 rfl rfl rfl
    have p1 : a.tmps[1]? = some (.int .i64 z) := (old 1 (by kernel_rfl)).trans rfl
    have p4 : a.tmps[4]? = some (.pointer (some ⟨w.heap.size, 0, none⟩)) := (old 4 (by kernel_rfl)).trans rfl
    have p5 : a.tmps[5]? = some (.pointer (some ⟨w.heap.size + 1, 0, none⟩)) := (old 5 (by kernel_rfl)).trans rfl
    have p8 : a.tmps[8]? = some (.pointer (some ⟨w1.heap.size, 0, none⟩)) := (old 8 (by kernel_rfl)).trans rfl
    clear old hN D2
    obtain ⟨⟨l'⟩, df'⟩ := a
    replace sz : l'.length = 37 := sz
    obtain ⟨x0, t0, rfl, s0'⟩ := cons_of sz; clear sz
    obtain ⟨x1, t1, rfl, s1'⟩ := cons_of s0'; clear s0'
    obtain ⟨x2, t2, rfl, s2'⟩ := cons_of s1'; clear s1'
    obtain ⟨x3, t3, rfl, s3'⟩ := cons_of s2'; clear s2'
    obtain ⟨x4, t4, rfl, s4'⟩ := cons_of s3'; clear s3'
    obtain ⟨x5, t5, rfl, s5'⟩ := cons_of s4'; clear s4'
    obtain ⟨x6, t6, rfl, s6'⟩ := cons_of s5'; clear s5'
    obtain ⟨x7, t7, rfl, s7'⟩ := cons_of s6'; clear s6'
    obtain ⟨x8, t8, rfl, s8'⟩ := cons_of s7'; clear s7'
    obtain ⟨x9, t9, rfl, s9'⟩ := cons_of s8'; clear s8'
    obtain ⟨x10, t10, rfl, s10'⟩ := cons_of s9'; clear s9'
    obtain ⟨x11, t11, rfl, s11'⟩ := cons_of s10'; clear s10'
    obtain ⟨x12, t12, rfl, s12'⟩ := cons_of s11'; clear s11'
    obtain ⟨x13, t13, rfl, s13'⟩ := cons_of s12'; clear s12'
    obtain ⟨x14, t14, rfl, s14'⟩ := cons_of s13'; clear s13'
    obtain ⟨x15, t15, rfl, s15'⟩ := cons_of s14'; clear s14'
    obtain ⟨x16, t16, rfl, s16'⟩ := cons_of s15'; clear s15'
    obtain ⟨x17, t17, rfl, s17'⟩ := cons_of s16'; clear s16'
    obtain ⟨x18, t18, rfl, s18'⟩ := cons_of s17'; clear s17'
    obtain ⟨x19, t19, rfl, s19'⟩ := cons_of s18'; clear s18'
    obtain ⟨x20, t20, rfl, s20'⟩ := cons_of s19'; clear s19'
    obtain ⟨x21, t21, rfl, s21'⟩ := cons_of s20'; clear s20'
    obtain ⟨x22, t22, rfl, s22'⟩ := cons_of s21'; clear s21'
    obtain ⟨x23, t23, rfl, s23'⟩ := cons_of s22'; clear s22'
    obtain ⟨x24, t24, rfl, s24'⟩ := cons_of s23'; clear s23'
    obtain ⟨x25, t25, rfl, s25'⟩ := cons_of s24'; clear s24'
    obtain ⟨x26, t26, rfl, s26'⟩ := cons_of s25'; clear s25'
    obtain ⟨x27, t27, rfl, s27'⟩ := cons_of s26'; clear s26'
    obtain ⟨x28, t28, rfl, s28'⟩ := cons_of s27'; clear s27'
    obtain ⟨x29, t29, rfl, s29'⟩ := cons_of s28'; clear s28'
    obtain ⟨x30, t30, rfl, s30'⟩ := cons_of s29'; clear s29'
    obtain ⟨x31, t31, rfl, s31'⟩ := cons_of s30'; clear s30'
    obtain ⟨x32, t32, rfl, s32'⟩ := cons_of s31'; clear s31'
    obtain ⟨x33, t33, rfl, s33'⟩ := cons_of s32'; clear s32'
    obtain ⟨x34, t34, rfl, s34'⟩ := cons_of s33'; clear s33'
    obtain ⟨x35, t35, rfl, s35'⟩ := cons_of s34'; clear s34'
    obtain ⟨x36, t36, rfl, s36'⟩ := cons_of s35'; clear s35'
    have e : t36 = [] := List.eq_nil_of_length_eq_zero s36'
    subst e
    clear s36'
    obtain rfl : x10 = _ := h10
    obtain rfl : x11 = _ := h11
    obtain rfl : x1 = _ := Option.some.inj p1
    obtain rfl : x4 = _ := Option.some.inj p4
    obtain rfl : x5 = _ := Option.some.inj p5
    obtain rfl : x8 = _ := Option.some.inj p8
    obtain rfl : df' = [] := df
  --END
    have HH4 := Lib.hid (HH.out.up u4)
    have XA4 := Lib.hid (XA2.out.up u4)
    have FA4 := Lib.hid (FA2.out.up u4)
    have XB4 := Lib.hid (XB2.out.up u4)
    have FB4 := Lib.hid (FB2.out.up u4)
    have U4 := Lib.hid (UW2.out.trans u4)
    have X4 := Lib.hid bx4
    have V4 := Lib.hid v4
    have N4 := Lib.hid f4
    have lt2 := FB2.out.1
    clear bx4 v4 f4 u4 HH XA2 FA2 XB2 FB2
    have wb : IntKind.i64.wrap (44 + bo) = 44 + bo := IntWalk.i64_in _ (by omega)
    have J4 : Hid (hrJ w W2 w1.heap.size bq ver k0 k1 k2 k3 k4 k5 S0 S1 S2 S3 S4 s0 s1 s2 s3 s4 T0 T1 T2 T3 T4 X w4) :=
      ⟨HH4.out, X4.out, ⟨_, _, _, _, _, _, _, hb_of XA4.out⟩, FA4.out, ⟨_, _, _, _, _, XB4.out⟩, FB4.out, V4.out, U4.out, N4.out, lt2, ltH, by omega⟩
    obtain ⟨h0, h1, h2, h3, h4, h5, h6⟩ := HH4.out
    obtain ⟨a0, a1, a2, a3, a4, a5, a6⟩ := XA4.out
    obtain ⟨b0, b1, b2, b3, b4⟩ := XB4.out
    obtain ⟨y0, y1, y2, y3, y4⟩ := X4.out
    clear HH4 XA4 FA4 XB4 FB4 U4 X4 V4 N4
    go_upto_region 5 with (fail)
    clear h0 h1 h2 h3 h4 h5 h6 a0 a1 a2 a3 a4 a5 a6 b0 b1 b2 b3 b4 y0 y1 y2 y3 y4
    --RET
    refine wp_region_inv (n := 10) (J := hrJ w W2 w1.heap.size bq ver k0 k1 k2 k3 k4 k5 S0 S1 S2 S3 S4 s0 s1 s2 s3 s4 T0 T1 T2 T3 T4 X) (G := hrG (hv ver k0 k1 k2 k3 k4 k5) (.agg #[.slice S0 s0 T0, .slice S1 s1 T1, .slice S2 s2 T2, .slice S3 s3 T3, .slice S4 s4 T4]) z bo er) (A := hrA w.heap.size ver k0 k1 k2 k3 k4 k5 S0 S1 S2 S3 S4 s0 s1 s2 s3 s4 T0 T1 T2 T3 T4) (by kernel_rfl) (by kernel_rfl) (by kernel_rfl) (by kernel_rfl) (by kernel_rfl) (J4.out.up (Up.drewN _ 1)) ?step ?last
    case step =>
      intro i o' hin ho a w' hJ old pre
      have p1 : a.tmps.getD 1 undef = .int .i64 z := getD_some ((old 1 (by kernel_rfl)).trans rfl)
      have p4 : a.tmps.getD 4 undef = .pointer (some ⟨w.heap.size, 0, none⟩) := getD_some ((old 4 (by kernel_rfl)).trans rfl)
      have p5 : a.tmps.getD 5 undef = .pointer (some ⟨w.heap.size + 1, 0, none⟩) := getD_some ((old 5 (by kernel_rfl)).trans rfl)
      have p8 : a.tmps.getD 8 undef = .pointer (some ⟨w1.heap.size, 0, none⟩) := getD_some ((old 8 (by kernel_rfl)).trans rfl)
      have p10 : a.tmps.getD 10 undef = .pointer (some ⟨bq, 0, none⟩) := getD_some ((old 10 (by kernel_rfl)).trans rfl)
      have p11 : a.tmps.getD 11 undef = .int .i64 er := getD_some ((old 11 (by kernel_rfl)).trans rfl)
      clear old
      have hi' : i = 0 ∨ i = 1 ∨ i = 2 ∨ i = 3 ∨ i = 4 ∨ i = 5 ∨ i = 6 ∨ i = 7 ∨ i = 8 ∨ i = 9 := by omega
      rcases hi' with rfl | rfl | rfl | rfl | rfl | rfl | rfl | rfl | rfl | rfl
      · injection ho with ho; subst ho
        exact wp_run w' a _ (ex_ldR w' a _ 8 _ _ _ _ _ _ _ _ p8 hJ.1 rfl) ⟨_, rfl, fun d hd => (by injection hd with hd; subst hd; exact (show (hv ver k0 k1 k2 k3 k4 k5) = _ from rfl)), hJ, trivial, fun _ h => h⟩
      · injection ho with ho; subst ho
        exact wp_run w' a _ (ex_ldB6 w' a _ 10 _ _ _ _ _ _ p10 hJ.2.1 rfl) ⟨_, rfl, fun d hd => (by injection hd with hd; subst hd; exact (show (Value.agg #[.slice S0 s0 T0, .slice S1 s1 T1, .slice S2 s2 T2, .slice S3 s3 T3, .slice S4 s4 T4]) = _ from rfl)), hJ, trivial, fun _ h => h⟩
      · injection ho with ho; subst ho
        exact wp_run w' a _ (ex_ldR w' a _ 8 _ _ _ _ _ _ _ _ p8 hJ.1 rfl) ⟨_, rfl, fun d hd => (by injection hd with hd; subst hd; exact (show (hv ver k0 k1 k2 k3 k4 k5) = _ from rfl)), hJ, trivial, fun _ h => h⟩
      · injection ho with ho; subst ho
        exact wp_run w' a _ (ex_mov w' a _ 1 _ p1 rfl) ⟨_, rfl, fun d hd => (by injection hd with hd; subst hd; exact (show Value.int .i64 z = _ from rfl)), hJ, trivial, fun _ h => h⟩
      · injection ho with ho; subst ho
        refine wp_call2 w' a _ 42 (fun args w => call_body5 args w) 32 33 _ _ _ rfl (show a.tmps.getD 32 undef = (hv ver k0 k1 k2 k3 k4 k5) from (pre ⟨2, .data⟩ (by simp) rfl _ 32 rfl rfl)) (show a.tmps.getD 33 undef = .int .i64 z from (pre ⟨3, .data⟩ (by simp) rfl _ 33 rfl rfl)) ?_
        refine (BO.out w').mono ?_
        rintro e w'' ⟨rfl, ud⟩
        exact ⟨_, rfl, _, rfl, fun d hd => (by injection hd with hd; subst hd; exact (show Value.int .i64 bo = _ from rfl)), hJ.up ud, trivial, fun j h => hrA_up ud h⟩
      · injection ho with ho; subst ho
        exact wp_run w' a _ (ex_add44 w' a _ 34 bo wb (pre ⟨4, .data⟩ (by simp) rfl _ 34 rfl rfl) rfl) ⟨_, rfl, fun d hd => (by injection hd with hd; subst hd; exact (show Value.int .i64 (44 + bo) = _ from rfl)), hJ, trivial, fun _ h => h⟩
      · injection ho with ho; subst ho
        exact wp_run w' a _ (ex_mov w' a _ 11 _ p11 rfl) ⟨_, rfl, fun d hd => (by injection hd with hd; subst hd; exact (show Value.int .i64 er = _ from rfl)), hJ, trivial, fun _ h => h⟩
      · injection ho with ho; subst ho
        have h30 : a.tmps.getD 30 undef = (hv ver k0 k1 k2 k3 k4 k5) := (pre ⟨0, .data⟩ (by simp) rfl _ 30 rfl rfl)
        obtain ⟨v0, v1, v2, v3, v4, v5, v6, hb7⟩ := hJ.2.2.1
        refine wp_stoH w' a _ 4 30 w.heap.size ver k0 k1 k2 k3 k4 k5 p4 h30 hb7 hJ.2.2.2.1 rfl rfl ⟨undef, by simp [Act.put], (fun d hd => by cases hd), hJ.st7, ?_, fun j h => hrA_7 hb7 h⟩
        exact hb7.seven _ _ _ _ _ _ _
      · injection ho with ho; subst ho
        have h31 : a.tmps.getD 31 undef = (.agg #[.slice S0 s0 T0, .slice S1 s1 T1, .slice S2 s2 T2, .slice S3 s3 T3, .slice S4 s4 T4]) := (pre ⟨1, .data⟩ (by simp) rfl _ 31 rfl rfl)
        obtain ⟨v0, v1, v2, v3, v4, hb5⟩ := hJ.2.2.2.2.1
        refine wp_stoR w' a _ 5 31 (w.heap.size + 1) _ _ _ _ _ _ _ _ _ _ _ _ _ _ _ p5 h31 hb5 hJ.2.2.2.2.2.1 rfl rfl ⟨undef, by simp [Act.put], (fun d hd => by cases hd), hJ.st8, ?_, fun j h => hrA_8 hb5 h⟩
        exact Bx5.five hb5 _ _ _ _ _
      · injection ho with ho; subst ho
        exact wp_run w' a _ (ex_asg w' a _ 35 _ (show a.tmps.getD 35 undef = .int .i64 (44 + bo) from (pre ⟨5, .data⟩ (by simp) rfl _ 35 rfl rfl)) rfl) ⟨_, rfl, fun d hd => (by injection hd with hd; subst hd; exact (show Value.int .i64 (44 + bo) = _ from rfl)), hJ, trivial, fun _ h => h⟩
    case last =>
      intro o' ho a w' hJ sz df old hG hA
      have g36 : a.tmps.getD 36 undef = .int .i64 er := hG 6 _ 36 (by decide) rfl rfl
      have g6 : a.tmps.getD 6 undef = .int .i64 (44 + bo) := hG 9 _ 6 (by decide) rfl rfl
      have A7 := hA 7 (by decide)
      have A8 := hA 8 (by decide)
      have p4 : a.tmps[4]? = some (.pointer (some ⟨w.heap.size, 0, none⟩)) := (old 4 (by kernel_rfl)).trans rfl
      have p5 : a.tmps[5]? = some (.pointer (some ⟨w.heap.size + 1, 0, none⟩)) := (old 5 (by kernel_rfl)).trans rfl
      injection ho with ho; subst ho
      refine wp_run w' a _ (ex_asg w' a _ 36 _ g36 rfl) ?_
      clear old hG hA
      obtain ⟨⟨l'⟩, df'⟩ := a
      replace sz : l'.length = 37 := sz
      obtain ⟨x0, t0, rfl, s0'⟩ := cons_of sz; clear sz
      obtain ⟨x1, t1, rfl, s1'⟩ := cons_of s0'; clear s0'
      obtain ⟨x2, t2, rfl, s2'⟩ := cons_of s1'; clear s1'
      obtain ⟨x3, t3, rfl, s3'⟩ := cons_of s2'; clear s2'
      obtain ⟨x4, t4, rfl, s4'⟩ := cons_of s3'; clear s3'
      obtain ⟨x5, t5, rfl, s5'⟩ := cons_of s4'; clear s4'
      obtain ⟨x6, t6, rfl, s6'⟩ := cons_of s5'; clear s5'
      obtain ⟨x7, t7, rfl, s7'⟩ := cons_of s6'; clear s6'
      obtain ⟨x8, t8, rfl, s8'⟩ := cons_of s7'; clear s7'
      obtain ⟨x9, t9, rfl, s9'⟩ := cons_of s8'; clear s8'
      obtain ⟨x10, t10, rfl, s10'⟩ := cons_of s9'; clear s9'
      obtain ⟨x11, t11, rfl, s11'⟩ := cons_of s10'; clear s10'
      obtain ⟨x12, t12, rfl, s12'⟩ := cons_of s11'; clear s11'
      obtain ⟨x13, t13, rfl, s13'⟩ := cons_of s12'; clear s12'
      obtain ⟨x14, t14, rfl, s14'⟩ := cons_of s13'; clear s13'
      obtain ⟨x15, t15, rfl, s15'⟩ := cons_of s14'; clear s14'
      obtain ⟨x16, t16, rfl, s16'⟩ := cons_of s15'; clear s15'
      obtain ⟨x17, t17, rfl, s17'⟩ := cons_of s16'; clear s16'
      obtain ⟨x18, t18, rfl, s18'⟩ := cons_of s17'; clear s17'
      obtain ⟨x19, t19, rfl, s19'⟩ := cons_of s18'; clear s18'
      obtain ⟨x20, t20, rfl, s20'⟩ := cons_of s19'; clear s19'
      obtain ⟨x21, t21, rfl, s21'⟩ := cons_of s20'; clear s20'
      obtain ⟨x22, t22, rfl, s22'⟩ := cons_of s21'; clear s21'
      obtain ⟨x23, t23, rfl, s23'⟩ := cons_of s22'; clear s22'
      obtain ⟨x24, t24, rfl, s24'⟩ := cons_of s23'; clear s23'
      obtain ⟨x25, t25, rfl, s25'⟩ := cons_of s24'; clear s24'
      obtain ⟨x26, t26, rfl, s26'⟩ := cons_of s25'; clear s25'
      obtain ⟨x27, t27, rfl, s27'⟩ := cons_of s26'; clear s26'
      obtain ⟨x28, t28, rfl, s28'⟩ := cons_of s27'; clear s27'
      obtain ⟨x29, t29, rfl, s29'⟩ := cons_of s28'; clear s28'
      obtain ⟨x30, t30, rfl, s30'⟩ := cons_of s29'; clear s29'
      obtain ⟨x31, t31, rfl, s31'⟩ := cons_of s30'; clear s30'
      obtain ⟨x32, t32, rfl, s32'⟩ := cons_of s31'; clear s31'
      obtain ⟨x33, t33, rfl, s33'⟩ := cons_of s32'; clear s32'
      obtain ⟨x34, t34, rfl, s34'⟩ := cons_of s33'; clear s33'
      obtain ⟨x35, t35, rfl, s35'⟩ := cons_of s34'; clear s34'
      obtain ⟨x36, t36, rfl, s36'⟩ := cons_of s35'; clear s35'
      have e : t36 = [] := List.eq_nil_of_length_eq_zero s36'
      subst e
      clear s36'
      obtain rfl : x6 = _ := g6
      obtain rfl : x36 = _ := g36
      obtain rfl : x4 = _ := Option.some.inj p4
      obtain rfl : x5 = _ := Option.some.inj p5
      obtain rfl : df' = [] := df
      obtain ⟨q0, q1, q2, q3, q4, q5, q6⟩ := (show Bx7 w' w.heap.size _ _ _ _ _ _ _ from A7)
      obtain ⟨r0, r1, r2, r3, r4⟩ := (show Bx5 w' (w.heap.size + 1) _ _ _ _ _ from A8)
      go_wp2_with fail
      exact bodyPost_ret (v := .tuple #[hv ver k0 k1 k2 k3 k4 k5, (.agg #[.slice S0 s0 T0, .slice S1 s1 T1, .slice S2 s2 T2, .slice S3 s3 T3, .slice S4 s4 T4]), .int .i64 (44 + bo), .int .i64 er]) (by simp [results, Tryz.results23, go_sem, hv, q0, q1, q2, q3, q4, q5, q6, r0, r1, r2, r3, r4]) rfl (HP.out _ _ ⟨_, rfl, hJ.2.2.2.2.2.2.1, hJ.2.2.2.2.2.2.2.2.1.base UW2.out, hJ.2.2.2.2.2.2.2.1⟩)
    --TER
set_option maxRecDepth 100000 in
theorem half_no (v : Value) (l : List UInt8) (z : Int) (w : World) (hs : Sb w v l) (h : errH l ≠ 0) :
    Calls Tryz.prog 23 #[v, .int .i64 z] w fun e w' => e = .returned (.tuple #[hv 0 0 0 0 0 0 0, bz, .int .i64 0, .int .i64 (errH l)]) ∧ Up w w' := by
  obtain ⟨A, c, rfl, hc, hcm, hr⟩ := hs
  exact dhalf_no A l l.length c z w rfl hc hcm hr h
set_option maxRecDepth 100000 in
theorem half_yes (v : Value) (l : List UInt8) (z : Int) (w : World) (hs : Sb w v l) (h : errH l = 0) (hz : z = 4 ∨ z = 8) :
    Calls Tryz.prog 23 #[v, .int .i64 z] w fun e w' => HlP w l z e w' := by
  obtain ⟨A, c, rfl, hc, hcm, hr⟩ := hs
  exact dhalf_yes A l l.length c z w rfl hc hcm hr h hz
end Go.Proofs.YtaljddoenjgbfaaGreat
