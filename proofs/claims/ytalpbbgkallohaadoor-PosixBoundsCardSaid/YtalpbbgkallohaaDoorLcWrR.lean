/-
  What a writer tells: changes, rules; Print.
-/
import Derived.Test.YtalpbbgkallohaaDoorLcWrT
import Derived.Test.YtalpbbgkallohaaDoorLcRk
namespace Go.Proofs.YtalpbbgkallohaaDoor
open Go.ChangeShapes Go.WideShapes Go.ChangeAt Go.RowKit Lc

/-- A change's block, beside the writer's. -/
def Cz (w : World) (b k : Nat) (c : Ch) : Prop := Bk w k (cA c) 25 ∧ k ≠ b
theorem Cz.ot {w w' : World} {b k : Nat} {c : Ch} (h : Cz w b k c) (n : Ot b w w') : Cz w' b k c := ⟨h.1.ot n h.2, h.2⟩
theorem Wx.lt {w0 w : World} {b : Nat} {l : List UInt8} (h : Wx w0 b l w) : b < w.heap.size := by
  rcases h.2.2.1 with ⟨_, v, h2, _⟩ | ⟨_, v, h2, _⟩ <;> exact (Array.getElem?_eq_some_iff.1 h2).1
theorem Cz.new {w0 w : World} {b : Nat} {l : List UInt8} (h : Wx w0 b l w) (c : Ch) : Cz (w.alloc (.cells (cA c) 25)) b w.heap.size c := ⟨Bk.new w _ _ (by decide), by have := h.lt; omega⟩

set_option maxRecDepth 100000 in
set_option maxHeartbeats 8000000 in
theorem wchange_any (w0 : World) (b : Nat) (l : List UInt8) (c : Ch) (w : World) (h : Wx w0 b l w) (hd : dayB c = true) (ht : -604799 ≤ c.tm ∧ c.tm ≤ 604799) (hl : l.length ≤ 6000) :
    Calls Tryd.prog 41 #[.pointer (some ⟨b, 0, none⟩), .agg (cA c)] w fun e w' => Tl w0 b l (changeT c) w e w' := by
  have z := Cz.new h c
  have X := h.up (Up.alloc w (.cells (cA c) 25))
  obtain ⟨hw, n, k, d, t⟩ := c
  have hc := dayB_cases hd
  simp only at hc ht
  have q0 := dec_le (n := n) (k := 3) (by decide) (by omega)
  have q1 := dec_le (n := k) (k := 1) (by decide) (by omega)
  have q2 := dec_le (n := d) (k := 1) (by decide) (by omega)
  have g := Lib.hid hd
  clear hd h
  unfold changeT dayT timeT cA at *
  simp only at *
  rcases hc with ⟨rfl, rfl, rfl, n1, n2⟩ | hc
  · rw [if_pos rfl]
    by_cases ct : t = 7200
    · subst ct
      rw [if_pos rfl]
      go_enter Tryd.func41, Tryd.ntmps41
      go_wp2_with fail
      refine ((write_any w0 b l [74] _ X (by first | omega | (simp; omega)))).mono ?_
      rintro e v0 ⟨rfl, x0, o0⟩
      have z0 := z.ot o0
      obtain ⟨c0, c1, c2, c3, c4⟩ := Cb.bk z0.1
      simp only at c0 c1 c2 c3 c4
      go_wp2_with fail
      refine ((wnum_any w0 b _ n v0 x0 (by omega) (by omega) (by first | omega | (simp; omega)))).mono ?_
      rintro e v1 ⟨rfl, x1, o1⟩
      have z1 := z0.ot o1
      clear c0 c1 c2 c3 c4
      obtain ⟨c0, c1, c2, c3, c4⟩ := Cb.bk z1.1
      simp only at c0 c1 c2 c3 c4
      go_wp2_with fail
      go_end0
      exact Tl.mk (by simpa using x1) (((Ot.up (Up.alloc _ _)).trans o0).trans o1)
    · rw [if_neg ct]
      go_enter Tryd.func41, Tryd.ntmps41
      go_wp2_with fail
      refine ((write_any w0 b l [74] _ X (by first | omega | (simp; omega)))).mono ?_
      rintro e v0 ⟨rfl, x0, o0⟩
      have z0 := z.ot o0
      obtain ⟨c0, c1, c2, c3, c4⟩ := Cb.bk z0.1
      simp only at c0 c1 c2 c3 c4
      go_wp2_with fail
      refine ((wnum_any w0 b _ n v0 x0 (by omega) (by omega) (by first | omega | (simp; omega)))).mono ?_
      rintro e v1 ⟨rfl, x1, o1⟩
      have z1 := z0.ot o1
      clear c0 c1 c2 c3 c4
      obtain ⟨c0, c1, c2, c3, c4⟩ := Cb.bk z1.1
      simp only at c0 c1 c2 c3 c4
      go_wp2_with fail
      refine ((write_any w0 b _ [47] v1 x1 (by first | omega | (simp; omega)))).mono ?_
      rintro e v2 ⟨rfl, x2, o2⟩
      have z2 := z1.ot o2
      clear c0 c1 c2 c3 c4
      obtain ⟨c0, c1, c2, c3, c4⟩ := Cb.bk z2.1
      simp only at c0 c1 c2 c3 c4
      go_wp2_with fail
      refine ((wclock_any w0 b _ t v2 x2 (by omega) (by omega) (by first | omega | (simp; omega)))).mono ?_
      rintro e v3 ⟨rfl, x3, o3⟩
      have z3 := z2.ot o3
      clear c0 c1 c2 c3 c4
      obtain ⟨c0, c1, c2, c3, c4⟩ := Cb.bk z3.1
      simp only at c0 c1 c2 c3 c4
      go_wp2_with fail
      go_end0
      exact Tl.mk (by simpa using x3) (((((Ot.up (Up.alloc _ _)).trans o0).trans o1).trans o2).trans o3)
  rcases hc with ⟨rfl, rfl, rfl, n1, n2⟩ | hc
  · rw [if_neg (by decide), if_neg (by decide)]
    by_cases ct : t = 7200
    · subst ct
      rw [if_pos rfl]
      go_enter Tryd.func41, Tryd.ntmps41
      go_wp2_with fail
      refine ((wnum_any w0 b l n _ X (by omega) (by omega) (by first | omega | (simp; omega)))).mono ?_
      rintro e v0 ⟨rfl, x0, o0⟩
      have z0 := z.ot o0
      obtain ⟨c0, c1, c2, c3, c4⟩ := Cb.bk z0.1
      simp only at c0 c1 c2 c3 c4
      go_wp2_with fail
      go_end0
      exact Tl.mk (by simpa using x0) ((Ot.up (Up.alloc _ _)).trans o0)
    · rw [if_neg ct]
      go_enter Tryd.func41, Tryd.ntmps41
      go_wp2_with fail
      refine ((wnum_any w0 b l n _ X (by omega) (by omega) (by first | omega | (simp; omega)))).mono ?_
      rintro e v0 ⟨rfl, x0, o0⟩
      have z0 := z.ot o0
      obtain ⟨c0, c1, c2, c3, c4⟩ := Cb.bk z0.1
      simp only at c0 c1 c2 c3 c4
      go_wp2_with fail
      refine ((write_any w0 b _ [47] v0 x0 (by first | omega | (simp; omega)))).mono ?_
      rintro e v1 ⟨rfl, x1, o1⟩
      have z1 := z0.ot o1
      clear c0 c1 c2 c3 c4
      obtain ⟨c0, c1, c2, c3, c4⟩ := Cb.bk z1.1
      simp only at c0 c1 c2 c3 c4
      go_wp2_with fail
      refine ((wclock_any w0 b _ t v1 x1 (by omega) (by omega) (by first | omega | (simp; omega)))).mono ?_
      rintro e v2 ⟨rfl, x2, o2⟩
      have z2 := z1.ot o2
      clear c0 c1 c2 c3 c4
      obtain ⟨c0, c1, c2, c3, c4⟩ := Cb.bk z2.1
      simp only at c0 c1 c2 c3 c4
      go_wp2_with fail
      go_end0
      exact Tl.mk (by simpa using x2) ((((Ot.up (Up.alloc _ _)).trans o0).trans o1).trans o2)
  obtain ⟨rfl, ⟨n1, n2⟩, ⟨k1, k2⟩, d1, d2⟩ := hc
  · rw [if_neg (by decide), if_pos rfl]
    by_cases ct : t = 7200
    · subst ct
      rw [if_pos rfl]
      go_enter Tryd.func41, Tryd.ntmps41
      go_wp2_with fail
      refine ((write_any w0 b l [77] _ X (by first | omega | (simp; omega)))).mono ?_
      rintro e v0 ⟨rfl, x0, o0⟩
      have z0 := z.ot o0
      obtain ⟨c0, c1, c2, c3, c4⟩ := Cb.bk z0.1
      simp only at c0 c1 c2 c3 c4
      go_wp2_with fail
      refine ((wnum_any w0 b _ n v0 x0 (by omega) (by omega) (by first | omega | (simp; omega)))).mono ?_
      rintro e v1 ⟨rfl, x1, o1⟩
      have z1 := z0.ot o1
      clear c0 c1 c2 c3 c4
      obtain ⟨c0, c1, c2, c3, c4⟩ := Cb.bk z1.1
      simp only at c0 c1 c2 c3 c4
      go_wp2_with fail
      refine ((write_any w0 b _ [46] v1 x1 (by first | omega | (simp; omega)))).mono ?_
      rintro e v2 ⟨rfl, x2, o2⟩
      have z2 := z1.ot o2
      clear c0 c1 c2 c3 c4
      obtain ⟨c0, c1, c2, c3, c4⟩ := Cb.bk z2.1
      simp only at c0 c1 c2 c3 c4
      go_wp2_with fail
      refine ((wnum_any w0 b _ k v2 x2 (by omega) (by omega) (by first | omega | (simp; omega)))).mono ?_
      rintro e v3 ⟨rfl, x3, o3⟩
      have z3 := z2.ot o3
      clear c0 c1 c2 c3 c4
      obtain ⟨c0, c1, c2, c3, c4⟩ := Cb.bk z3.1
      simp only at c0 c1 c2 c3 c4
      go_wp2_with fail
      refine ((write_any w0 b _ [46] v3 x3 (by first | omega | (simp; omega)))).mono ?_
      rintro e v4 ⟨rfl, x4, o4⟩
      have z4 := z3.ot o4
      clear c0 c1 c2 c3 c4
      obtain ⟨c0, c1, c2, c3, c4⟩ := Cb.bk z4.1
      simp only at c0 c1 c2 c3 c4
      go_wp2_with fail
      refine ((wnum_any w0 b _ d v4 x4 (by omega) (by omega) (by first | omega | (simp; omega)))).mono ?_
      rintro e v5 ⟨rfl, x5, o5⟩
      have z5 := z4.ot o5
      clear c0 c1 c2 c3 c4
      obtain ⟨c0, c1, c2, c3, c4⟩ := Cb.bk z5.1
      simp only at c0 c1 c2 c3 c4
      go_wp2_with fail
      go_end0
      exact Tl.mk (by simpa using x5) (((((((Ot.up (Up.alloc _ _)).trans o0).trans o1).trans o2).trans o3).trans o4).trans o5)
    · rw [if_neg ct]
      go_enter Tryd.func41, Tryd.ntmps41
      go_wp2_with fail
      refine ((write_any w0 b l [77] _ X (by first | omega | (simp; omega)))).mono ?_
      rintro e v0 ⟨rfl, x0, o0⟩
      have z0 := z.ot o0
      obtain ⟨c0, c1, c2, c3, c4⟩ := Cb.bk z0.1
      simp only at c0 c1 c2 c3 c4
      go_wp2_with fail
      refine ((wnum_any w0 b _ n v0 x0 (by omega) (by omega) (by first | omega | (simp; omega)))).mono ?_
      rintro e v1 ⟨rfl, x1, o1⟩
      have z1 := z0.ot o1
      clear c0 c1 c2 c3 c4
      obtain ⟨c0, c1, c2, c3, c4⟩ := Cb.bk z1.1
      simp only at c0 c1 c2 c3 c4
      go_wp2_with fail
      refine ((write_any w0 b _ [46] v1 x1 (by first | omega | (simp; omega)))).mono ?_
      rintro e v2 ⟨rfl, x2, o2⟩
      have z2 := z1.ot o2
      clear c0 c1 c2 c3 c4
      obtain ⟨c0, c1, c2, c3, c4⟩ := Cb.bk z2.1
      simp only at c0 c1 c2 c3 c4
      go_wp2_with fail
      refine ((wnum_any w0 b _ k v2 x2 (by omega) (by omega) (by first | omega | (simp; omega)))).mono ?_
      rintro e v3 ⟨rfl, x3, o3⟩
      have z3 := z2.ot o3
      clear c0 c1 c2 c3 c4
      obtain ⟨c0, c1, c2, c3, c4⟩ := Cb.bk z3.1
      simp only at c0 c1 c2 c3 c4
      go_wp2_with fail
      refine ((write_any w0 b _ [46] v3 x3 (by first | omega | (simp; omega)))).mono ?_
      rintro e v4 ⟨rfl, x4, o4⟩
      have z4 := z3.ot o4
      clear c0 c1 c2 c3 c4
      obtain ⟨c0, c1, c2, c3, c4⟩ := Cb.bk z4.1
      simp only at c0 c1 c2 c3 c4
      go_wp2_with fail
      refine ((wnum_any w0 b _ d v4 x4 (by omega) (by omega) (by first | omega | (simp; omega)))).mono ?_
      rintro e v5 ⟨rfl, x5, o5⟩
      have z5 := z4.ot o5
      clear c0 c1 c2 c3 c4
      obtain ⟨c0, c1, c2, c3, c4⟩ := Cb.bk z5.1
      simp only at c0 c1 c2 c3 c4
      go_wp2_with fail
      refine ((write_any w0 b _ [47] v5 x5 (by first | omega | (simp; omega)))).mono ?_
      rintro e v6 ⟨rfl, x6, o6⟩
      have z6 := z5.ot o6
      clear c0 c1 c2 c3 c4
      obtain ⟨c0, c1, c2, c3, c4⟩ := Cb.bk z6.1
      simp only at c0 c1 c2 c3 c4
      go_wp2_with fail
      refine ((wclock_any w0 b _ t v6 x6 (by omega) (by omega) (by first | omega | (simp; omega)))).mono ?_
      rintro e v7 ⟨rfl, x7, o7⟩
      have z7 := z6.ot o7
      clear c0 c1 c2 c3 c4
      obtain ⟨c0, c1, c2, c3, c4⟩ := Cb.bk z7.1
      simp only at c0 c1 c2 c3 c4
      go_wp2_with fail
      go_end0
      exact Tl.mk (by simpa using x7) (((((((((Ot.up (Up.alloc _ _)).trans o0).trans o1).trans o2).trans o3).trans o4).trans o5).trans o6).trans o7)
/-- A rule's block, beside the writer's. -/
def Rz (w : World) (b k : Nat) (r : Ru) : Prop := Bk w k (rA r) 27 ∧ k ≠ b
theorem Rz.ot {w w' : World} {b k : Nat} {r : Ru} (h : Rz w b k r) (n : Ot b w w') : Rz w' b k r := ⟨h.1.ot n h.2, h.2⟩
theorem Rz.new {w0 w : World} {b : Nat} {l : List UInt8} (h : Wx w0 b l w) (r : Ru) : Rz (w.alloc (.cells (rA r) 27)) b w.heap.size r := ⟨Bk.new w _ _ (by decide), by have := h.lt; omega⟩

set_option maxRecDepth 100000 in
set_option maxHeartbeats 8000000 in
theorem wrule_any (w0 : World) (b : Nat) (l : List UInt8) (r : Ru) (wide : Bool) (w : World) (h : Wx w0 b l w) (hr : rightB r wide = true) (hl : l.length ≤ 1000) :
    Calls Tryd.prog 25 #[.pointer (some ⟨b, 0, none⟩), .agg (rA r)] w fun e w' => Tl w0 b l (ruleT r) w e w' := by
  have z := Rz.new h r
  have X := h.up (Up.alloc w (.cells (rA r) 27))
  obtain ⟨⟨so, sd, sn⟩, ⟨dO, dd, dn⟩, both, A, E⟩ := r
  unfold rightB at hr
  rw [Bool.and_eq_true] at hr
  obtain ⟨hk, hr⟩ := hr
  obtain ⟨e0, hn, s1, s2⟩ := kindB_parts hk
  simp only at hn s1 s2 hr e0
  subst e0
  have y1 := nameT_le hn
  have y2 := clockT_le (n := -so) (k := 2) (by decide) (by omega)
  have n1 := (nameB_parts hn).2.1
  unfold ruleT restT
  clear hk h hn
  cases both
  · clear hr
    simp only [Bool.false_eq_true, if_false, List.append_nil]
    obtain ⟨a1, a2, a3, a4, a5⟩ := A
    obtain ⟨b1, b2, b3, b4, b5⟩ := E
    unfold rA at *
    simp only at *
    go_enter Tryd.func25, Tryd.ntmps25
    go_wp2_with fail
    refine ((wname_any w0 b l sn _ X (by omega) (by first | omega | (simp; omega)))).mono ?_
    rintro e v0 ⟨rfl, x0, o0⟩
    have z0 := z.ot o0
    obtain ⟨⟨c0, c1, c2⟩, ⟨c3, c4, c5⟩, c6, ⟨c7, c8, c9, d0, d1⟩, d2, d3, d4, d5, d6⟩ := Rb.bk z0.1
    simp only at c0 c1 c2 c3 c4 c5 c6 c7 c8 c9 d0 d1 d2 d3 d4 d5 d6
    go_wp2_with fail
    refine ((woffset_any w0 b _ so v0 x0 (by omega) (by omega) (by first | omega | (simp; omega)))).mono ?_
    rintro e v1 ⟨rfl, x1, o1⟩
    have z1 := z0.ot o1
    clear c0 c1 c2 c3 c4 c5 c6 c7 c8 c9 d0 d1 d2 d3 d4 d5 d6
    obtain ⟨⟨c0, c1, c2⟩, ⟨c3, c4, c5⟩, c6, ⟨c7, c8, c9, d0, d1⟩, d2, d3, d4, d5, d6⟩ := Rb.bk z1.1
    simp only at c0 c1 c2 c3 c4 c5 c6 c7 c8 c9 d0 d1 d2 d3 d4 d5 d6
    go_wp2_with fail
    go_end0
    exact Tl.mk (by simpa using x1) (((Ot.up (Up.alloc _ _)).trans o0).trans o1)
  · simp only [if_true, Bool.and_eq_true] at hr ⊢
    obtain ⟨⟨hd, ha⟩, he⟩ := hr
    obtain ⟨e1, hm, m1, m2⟩ := kindB_parts hd
    simp only at hm m1 m2 e1
    subst e1
    have y3 := nameT_le hm
    have y4 := clockT_le (n := -dO) (k := 2) (by decide) (by omega)
    have n2 := (nameB_parts hm).2.1
    have y5 := changeT_le ha
    have y6 := changeT_le he
    unfold changeB at ha he
    rw [Bool.and_eq_true] at ha he
    have ga := Lib.hid ha.1
    have ge := Lib.hid he.1
    have ta := timeB_bd ha.2
    have te := timeB_bd he.2
    clear ha he hd hm
    have F : fitB (so + 3600) = true := fitB_true.2 (by omega)
    have ww := wrap_fit F
    by_cases q : dO = so + 3600
    · rw [if_pos q, List.nil_append]
      subst q
      generalize hA : changeT A = TA at *
      generalize hE : changeT E = TE at *
      have HA := Lib.hid hA
      have HE := Lib.hid hE
      clear hA hE
      have CA := fun L W (hW : Wx w0 b L W) (hL : L.length ≤ 6000) => wchange_any w0 b L A W hW ga.out ta hL
      have CE := fun L W (hW : Wx w0 b L W) (hL : L.length ≤ 6000) => wchange_any w0 b L E W hW ge.out te hL
      rw [HA.out] at CA
      rw [HE.out] at CE
      clear HA HE ga ge ta te
      obtain ⟨a1, a2, a3, a4, a5⟩ := A
      obtain ⟨b1, b2, b3, b4, b5⟩ := E
      unfold rA cA at *
      simp only at *
      go_enter Tryd.func25, Tryd.ntmps25
      go_wp2_with fail
      refine ((wname_any w0 b l sn _ X (by omega) (by first | omega | (simp; omega)))).mono ?_
      rintro e v0 ⟨rfl, x0, o0⟩
      have z0 := z.ot o0
      obtain ⟨⟨c0, c1, c2⟩, ⟨c3, c4, c5⟩, c6, ⟨c7, c8, c9, d0, d1⟩, d2, d3, d4, d5, d6⟩ := Rb.bk z0.1
      simp only at c0 c1 c2 c3 c4 c5 c6 c7 c8 c9 d0 d1 d2 d3 d4 d5 d6
      go_wp2_with fail
      refine ((woffset_any w0 b _ so v0 x0 (by omega) (by omega) (by first | omega | (simp; omega)))).mono ?_
      rintro e v1 ⟨rfl, x1, o1⟩
      have z1 := z0.ot o1
      clear c0 c1 c2 c3 c4 c5 c6 c7 c8 c9 d0 d1 d2 d3 d4 d5 d6
      obtain ⟨⟨c0, c1, c2⟩, ⟨c3, c4, c5⟩, c6, ⟨c7, c8, c9, d0, d1⟩, d2, d3, d4, d5, d6⟩ := Rb.bk z1.1
      simp only at c0 c1 c2 c3 c4 c5 c6 c7 c8 c9 d0 d1 d2 d3 d4 d5 d6
      go_wp2_with fail
      refine ((wname_any w0 b _ dn v1 x1 (by omega) (by first | omega | (simp; omega)))).mono ?_
      rintro e v2 ⟨rfl, x2, o2⟩
      have z2 := z1.ot o2
      clear c0 c1 c2 c3 c4 c5 c6 c7 c8 c9 d0 d1 d2 d3 d4 d5 d6
      obtain ⟨⟨c0, c1, c2⟩, ⟨c3, c4, c5⟩, c6, ⟨c7, c8, c9, d0, d1⟩, d2, d3, d4, d5, d6⟩ := Rb.bk z2.1
      simp only at c0 c1 c2 c3 c4 c5 c6 c7 c8 c9 d0 d1 d2 d3 d4 d5 d6
      go_wp2_with fail
      refine ((write_any w0 b _ [44] v2 x2 (by first | omega | (simp; omega)))).mono ?_
      rintro e v3 ⟨rfl, x3, o3⟩
      have z3 := z2.ot o3
      clear c0 c1 c2 c3 c4 c5 c6 c7 c8 c9 d0 d1 d2 d3 d4 d5 d6
      obtain ⟨⟨c0, c1, c2⟩, ⟨c3, c4, c5⟩, c6, ⟨c7, c8, c9, d0, d1⟩, d2, d3, d4, d5, d6⟩ := Rb.bk z3.1
      simp only at c0 c1 c2 c3 c4 c5 c6 c7 c8 c9 d0 d1 d2 d3 d4 d5 d6
      go_wp2_with fail
      refine ((CA _ v3 x3 (by first | omega | (simp; omega)))).mono ?_
      rintro e v4 ⟨rfl, x4, o4⟩
      have z4 := z3.ot o4
      clear c0 c1 c2 c3 c4 c5 c6 c7 c8 c9 d0 d1 d2 d3 d4 d5 d6
      obtain ⟨⟨c0, c1, c2⟩, ⟨c3, c4, c5⟩, c6, ⟨c7, c8, c9, d0, d1⟩, d2, d3, d4, d5, d6⟩ := Rb.bk z4.1
      simp only at c0 c1 c2 c3 c4 c5 c6 c7 c8 c9 d0 d1 d2 d3 d4 d5 d6
      go_wp2_with fail
      refine ((write_any w0 b _ [44] v4 x4 (by first | omega | (simp; omega)))).mono ?_
      rintro e v5 ⟨rfl, x5, o5⟩
      have z5 := z4.ot o5
      clear c0 c1 c2 c3 c4 c5 c6 c7 c8 c9 d0 d1 d2 d3 d4 d5 d6
      obtain ⟨⟨c0, c1, c2⟩, ⟨c3, c4, c5⟩, c6, ⟨c7, c8, c9, d0, d1⟩, d2, d3, d4, d5, d6⟩ := Rb.bk z5.1
      simp only at c0 c1 c2 c3 c4 c5 c6 c7 c8 c9 d0 d1 d2 d3 d4 d5 d6
      go_wp2_with fail
      refine ((CE _ v5 x5 (by first | omega | (simp; omega)))).mono ?_
      rintro e v6 ⟨rfl, x6, o6⟩
      have z6 := z5.ot o6
      clear c0 c1 c2 c3 c4 c5 c6 c7 c8 c9 d0 d1 d2 d3 d4 d5 d6
      obtain ⟨⟨c0, c1, c2⟩, ⟨c3, c4, c5⟩, c6, ⟨c7, c8, c9, d0, d1⟩, d2, d3, d4, d5, d6⟩ := Rb.bk z6.1
      simp only at c0 c1 c2 c3 c4 c5 c6 c7 c8 c9 d0 d1 d2 d3 d4 d5 d6
      go_wp2_with fail
      go_end0
      exact Tl.mk (by simpa using x6) ((((((((Ot.up (Up.alloc _ _)).trans o0).trans o1).trans o2).trans o3).trans o4).trans o5).trans o6)
    · rw [if_neg q]
      generalize hA : changeT A = TA at *
      generalize hE : changeT E = TE at *
      have HA := Lib.hid hA
      have HE := Lib.hid hE
      clear hA hE
      have CA := fun L W (hW : Wx w0 b L W) (hL : L.length ≤ 6000) => wchange_any w0 b L A W hW ga.out ta hL
      have CE := fun L W (hW : Wx w0 b L W) (hL : L.length ≤ 6000) => wchange_any w0 b L E W hW ge.out te hL
      rw [HA.out] at CA
      rw [HE.out] at CE
      clear HA HE ga ge ta te
      obtain ⟨a1, a2, a3, a4, a5⟩ := A
      obtain ⟨b1, b2, b3, b4, b5⟩ := E
      unfold rA cA at *
      simp only at *
      go_enter Tryd.func25, Tryd.ntmps25
      go_wp2_with fail
      refine ((wname_any w0 b l sn _ X (by omega) (by first | omega | (simp; omega)))).mono ?_
      rintro e v0 ⟨rfl, x0, o0⟩
      have z0 := z.ot o0
      obtain ⟨⟨c0, c1, c2⟩, ⟨c3, c4, c5⟩, c6, ⟨c7, c8, c9, d0, d1⟩, d2, d3, d4, d5, d6⟩ := Rb.bk z0.1
      simp only at c0 c1 c2 c3 c4 c5 c6 c7 c8 c9 d0 d1 d2 d3 d4 d5 d6
      go_wp2_with fail
      refine ((woffset_any w0 b _ so v0 x0 (by omega) (by omega) (by first | omega | (simp; omega)))).mono ?_
      rintro e v1 ⟨rfl, x1, o1⟩
      have z1 := z0.ot o1
      clear c0 c1 c2 c3 c4 c5 c6 c7 c8 c9 d0 d1 d2 d3 d4 d5 d6
      obtain ⟨⟨c0, c1, c2⟩, ⟨c3, c4, c5⟩, c6, ⟨c7, c8, c9, d0, d1⟩, d2, d3, d4, d5, d6⟩ := Rb.bk z1.1
      simp only at c0 c1 c2 c3 c4 c5 c6 c7 c8 c9 d0 d1 d2 d3 d4 d5 d6
      go_wp2_with fail
      refine ((wname_any w0 b _ dn v1 x1 (by omega) (by first | omega | (simp; omega)))).mono ?_
      rintro e v2 ⟨rfl, x2, o2⟩
      have z2 := z1.ot o2
      clear c0 c1 c2 c3 c4 c5 c6 c7 c8 c9 d0 d1 d2 d3 d4 d5 d6
      obtain ⟨⟨c0, c1, c2⟩, ⟨c3, c4, c5⟩, c6, ⟨c7, c8, c9, d0, d1⟩, d2, d3, d4, d5, d6⟩ := Rb.bk z2.1
      simp only at c0 c1 c2 c3 c4 c5 c6 c7 c8 c9 d0 d1 d2 d3 d4 d5 d6
      go_wp2_with fail
      refine ((woffset_any w0 b _ dO v2 x2 (by omega) (by omega) (by first | omega | (simp; omega)))).mono ?_
      rintro e v3 ⟨rfl, x3, o3⟩
      have z3 := z2.ot o3
      clear c0 c1 c2 c3 c4 c5 c6 c7 c8 c9 d0 d1 d2 d3 d4 d5 d6
      obtain ⟨⟨c0, c1, c2⟩, ⟨c3, c4, c5⟩, c6, ⟨c7, c8, c9, d0, d1⟩, d2, d3, d4, d5, d6⟩ := Rb.bk z3.1
      simp only at c0 c1 c2 c3 c4 c5 c6 c7 c8 c9 d0 d1 d2 d3 d4 d5 d6
      go_wp2_with fail
      refine ((write_any w0 b _ [44] v3 x3 (by first | omega | (simp; omega)))).mono ?_
      rintro e v4 ⟨rfl, x4, o4⟩
      have z4 := z3.ot o4
      clear c0 c1 c2 c3 c4 c5 c6 c7 c8 c9 d0 d1 d2 d3 d4 d5 d6
      obtain ⟨⟨c0, c1, c2⟩, ⟨c3, c4, c5⟩, c6, ⟨c7, c8, c9, d0, d1⟩, d2, d3, d4, d5, d6⟩ := Rb.bk z4.1
      simp only at c0 c1 c2 c3 c4 c5 c6 c7 c8 c9 d0 d1 d2 d3 d4 d5 d6
      go_wp2_with fail
      refine ((CA _ v4 x4 (by first | omega | (simp; omega)))).mono ?_
      rintro e v5 ⟨rfl, x5, o5⟩
      have z5 := z4.ot o5
      clear c0 c1 c2 c3 c4 c5 c6 c7 c8 c9 d0 d1 d2 d3 d4 d5 d6
      obtain ⟨⟨c0, c1, c2⟩, ⟨c3, c4, c5⟩, c6, ⟨c7, c8, c9, d0, d1⟩, d2, d3, d4, d5, d6⟩ := Rb.bk z5.1
      simp only at c0 c1 c2 c3 c4 c5 c6 c7 c8 c9 d0 d1 d2 d3 d4 d5 d6
      go_wp2_with fail
      refine ((write_any w0 b _ [44] v5 x5 (by first | omega | (simp; omega)))).mono ?_
      rintro e v6 ⟨rfl, x6, o6⟩
      have z6 := z5.ot o6
      clear c0 c1 c2 c3 c4 c5 c6 c7 c8 c9 d0 d1 d2 d3 d4 d5 d6
      obtain ⟨⟨c0, c1, c2⟩, ⟨c3, c4, c5⟩, c6, ⟨c7, c8, c9, d0, d1⟩, d2, d3, d4, d5, d6⟩ := Rb.bk z6.1
      simp only at c0 c1 c2 c3 c4 c5 c6 c7 c8 c9 d0 d1 d2 d3 d4 d5 d6
      go_wp2_with fail
      refine ((CE _ v6 x6 (by first | omega | (simp; omega)))).mono ?_
      rintro e v7 ⟨rfl, x7, o7⟩
      have z7 := z6.ot o7
      clear c0 c1 c2 c3 c4 c5 c6 c7 c8 c9 d0 d1 d2 d3 d4 d5 d6
      obtain ⟨⟨c0, c1, c2⟩, ⟨c3, c4, c5⟩, c6, ⟨c7, c8, c9, d0, d1⟩, d2, d3, d4, d5, d6⟩ := Rb.bk z7.1
      simp only at c0 c1 c2 c3 c4 c5 c6 c7 c8 c9 d0 d1 d2 d3 d4 d5 d6
      go_wp2_with fail
      go_end0
      exact Tl.mk (by simpa using x7) (((((((((Ot.up (Up.alloc _ _)).trans o0).trans o1).trans o2).trans o3).trans o4).trans o5).trans o6).trans o7)
end Go.Proofs.YtalpbbgkallohaaDoor
