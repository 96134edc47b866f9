/-
  The document's own answer of layer 8: a comma and a change at a place.
-/
import Derived.Test.YtalpbbgkallohaaDoorLcDh
import Derived.Test.YtalpbbgkallohaaDoorLcDgN
import Derived.Test.YtalpbbgkallohaaDoorLcDgO
import Derived.Test.YtalpbbgkallohaaDoorLcDgW
import Derived.Test.YtalpbbgkallohaaDoorLcRg
import Derived.Handy
import Derived.Deep.Cut
namespace Go.Proofs.YtalpbbgkallohaaDoor
open Go.ChangeShapes Go.WideShapes Go.ChangeAt Go.RowKit Lc

theorem ddig_at {L t : List UInt8} {k most : Nat} {n : Int} (hL : L.length ≤ 100000) (hk : k ≤ L.length) (h3 : most ≤ 3) (q : numD most (L.drop k) = some (n, t)) :
    ∃ j : Nat, k < j ∧ j ≤ L.length ∧ L.drop j = t ∧ ∀ (i m : Int), i = (k : Int) → m = (most : Int) → ∀ w, Calls Tryd.prog 50 #[.string (tx L), .int .i64 i, .int .i64 m] w fun e w' => e = .returned (.tuple #[.int .i64 n, .int .i64 (j : Int)]) ∧ w = w' := by
  obtain ⟨j, h1, h2, h3', D⟩ := ddigits_yes most hL hk h3 q
  exact ⟨j, h1, h2, h3', fun i m hi hm w => by subst hi; subst hm; exact D w⟩
/-- A time at a place. -/
theorem dtime_w_at (L : List UInt8) (wide : Bool) (k : Nat) (i : Int) (w : World) (hi : i = (k : Int)) (hL : L.length ≤ 100000) (hk : k ≤ L.length) :
    Calls Tryd.prog 34 #[.string (tx L), .int .i64 i, .bool wide, .bool wide] w fun e w' => e = .returned (.tuple #[.int .i64 (valP (anyD wide wide (L.drop k))), .int .i64 (endP L (anyD wide wide (L.drop k)))]) ∧ w = w' := by
  subst hi
  cases wide
  · exact dtime_n L k w hL hk
  · exact dtime_w L k w hL hk
/-- A call under way, with a change of its own. -/
structure Dc (w V : World) (c : Ch) : Prop where
  u : Up w V
  z : Bk V w.heap.size (cA ch0) 25
  k : Bk V (w.heap.size + 1) (cA c) 25
theorem Dc.start (w : World) (c : Ch) : Dc w ((w.alloc (.cells (cA ch0) 25)).alloc (.cells (cA c) 25)) c := by
  have u1 := Up.alloc w (.cells (cA ch0) 25)
  have u2 := Up.alloc (w.alloc (.cells (cA ch0) 25)) (.cells (cA c) 25)
  have n2 := Bk.new (w.alloc (.cells (cA ch0) 25)) (cA c) 25 (by decide)
  rw [World.size_alloc] at n2
  exact ⟨u1.trans u2, (Bk.new w _ _ (by decide)).up u2, n2⟩
theorem Dc.call {w V V' : World} {c : Ch} (h : Dc w V c) (g : Up V V') : Dc w V' c := ⟨h.u.trans g, h.z.up g, h.k.up g⟩
theorem Up.set5 {w V : World} (h : Up w V) {k : Nat} (hk : w.heap.size ≤ k) (o : Nat) (u : Value) : Up w (V.setCell ⟨k, o, none⟩ u) :=
  ⟨h.os, h.tape, h.output, by rw [World.size_setCell]; exact h.size, fun j hj => by
    rw [Below.heap_setCell _ _ _ _ (show j ≠ k by omega)]; exact h.block j hj⟩
theorem Dc.st {w V : World} {c d : Ch} (h : Dc w V c) (o : Nat) (u : Value) (e : (cA c).setIfInBounds o u = cA d) : Dc w (V.setCell ⟨w.heap.size + 1, o, none⟩ u) d :=
  ⟨h.u.set5 (by omega) o u, h.z.oth (by omega) o u, by have := h.k.set o u; rw [e] at this; exact this⟩
theorem Dc.cells {w V : World} {c : Ch} (h : Dc w V c) :
    (V.cell? ⟨w.heap.size + 1, 0, none⟩ = some (.int .i64 c.how) ∧ V.cell? ⟨w.heap.size + 1, 1, none⟩ = some (.int .i64 c.n) ∧ V.cell? ⟨w.heap.size + 1, 2, none⟩ = some (.int .i64 c.wk) ∧ V.cell? ⟨w.heap.size + 1, 3, none⟩ = some (.int .i64 c.wd) ∧ V.cell? ⟨w.heap.size + 1, 4, none⟩ = some (.int .i64 c.tm)) ∧
    V.frozen? ⟨w.heap.size + 1, 0, none⟩ = false ∧ V.frozen? ⟨w.heap.size + 1, 1, none⟩ = false ∧ V.frozen? ⟨w.heap.size + 1, 2, none⟩ = false ∧ V.frozen? ⟨w.heap.size + 1, 3, none⟩ = false ∧ V.frozen? ⟨w.heap.size + 1, 4, none⟩ = false :=
  ⟨Cb.bk h.k, h.k.frozen 0, h.k.frozen 1, h.k.frozen 2, h.k.frozen 3, h.k.frozen 4⟩
theorem Dc.zero {w V : World} {c : Ch} (h : Dc w V c) :
    (V.cell? ⟨w.heap.size, 0, none⟩ = some (.int .i64 0) ∧ V.cell? ⟨w.heap.size, 1, none⟩ = some (.int .i64 0) ∧ V.cell? ⟨w.heap.size, 2, none⟩ = some (.int .i64 0) ∧ V.cell? ⟨w.heap.size, 3, none⟩ = some (.int .i64 0) ∧ V.cell? ⟨w.heap.size, 4, none⟩ = some (.int .i64 0)) ∧
    V.frozen? ⟨w.heap.size, 0, none⟩ = false ∧ V.frozen? ⟨w.heap.size, 1, none⟩ = false ∧ V.frozen? ⟨w.heap.size, 2, none⟩ = false ∧ V.frozen? ⟨w.heap.size, 3, none⟩ = false ∧ V.frozen? ⟨w.heap.size, 4, none⟩ = false :=
  ⟨Cb.bk h.z, h.z.frozen 0, h.z.frozen 1, h.z.frozen 2, h.z.frozen 3, h.z.frozen 4⟩
theorem Dc.out {w V : World} {c : Ch} (h : Dc w V c) (v0 v1 v2 v3 v4 : Value) : Up w (five5 V w.heap.size v0 v1 v2 v3 v4) :=
  ((((h.u.set5 (Nat.le_refl _) _ _).set5 (Nat.le_refl _) _ _).set5 (Nat.le_refl _) _ _).set5 (Nat.le_refl _) _ _).set5 (Nat.le_refl _) _ _
theorem no_at {L : List UInt8} {j : Nat} (x : UInt8) (m : Int) (hm : m = (x.toNat : Int)) (h : takeP x (L.drop j) = none) (q : j < (tx L).size) : ((((tx L)[j]'q).toNat : Int) == m) = false := by
  subst hm
  rw [tx_size] at q
  have e : L.drop j = L[j]'q :: L.drop (j + 1) := List.drop_eq_getElem_cons q
  rw [e] at h
  have := ne_i h
  rw [tx_get, List.getD_eq_getElem?_getD, List.getElem?_eq_getElem q]
  simpa using this
theorem numD_suf {most : Nat} {l t : List UInt8} {n : Int} (h : numD most l = some (n, t)) : t <:+ l ∧ t.length < l.length := by
  unfold numD at h
  split at h
  · cases h
  · rename_i c
    simp only [Option.some.injEq, Prod.mk.injEq] at h
    obtain ⟨_, rfl⟩ := h
    refine ⟨List.drop_suffix _ _, ?_⟩
    rw [List.length_drop]
    have h1 : 0 < ((dgs l).take most).length := List.length_pos_iff.2 c
    have h2 : ((dgs l).take most).length ≤ l.length := by
      rw [List.length_take]
      have : (dgs l).length ≤ l.length := tw_le l
      omega
    omega
theorem takeP_suf {x : UInt8} {l t : List UInt8} (h : takeP x l = some t) : t <:+ l := by
  rw [takeP_some h]; exact List.suffix_cons _ _
theorem pairD_suf {l t : List UInt8} {n : Int} (h : pairD l = some (n, t)) : t <:+ l := by
  unfold pairD at h
  split at h
  · cases h
  · rename_i n' t' e
    split at h
    · simp only [Option.some.injEq, Prod.mk.injEq] at h
      obtain ⟨_, rfl⟩ := h
      exact (numD_suf e).1
    · cases h
theorem clockD_suf {dg : Nat} {most : Int} {l t : List UInt8} {x : Int} (h : clockD dg most l = some (x, t)) : t <:+ l ∧ t.length < l.length := by
  unfold clockD at h
  split at h
  · cases h
  · rename_i n t0 e0
    have s0 := numD_suf e0
    have fin : ∀ {u : List UInt8}, u <:+ t0 → u <:+ l ∧ u.length < l.length := fun hu => ⟨hu.trans s0.1, by have := hu.length_le; omega⟩
    split at h
    · cases h
    · split at h
      · simp only [Option.some.injEq, Prod.mk.injEq] at h
        obtain ⟨_, rfl⟩ := h
        exact s0
      · rename_i t1 e1
        split at h
        · cases h
        · rename_i m t2 e2
          split at h
          · simp only [Option.some.injEq, Prod.mk.injEq] at h
            obtain ⟨_, rfl⟩ := h
            exact fin ((pairD_suf e2).trans (takeP_suf e1))
          · rename_i t3 e3
            split at h
            · cases h
            · rename_i s t4 e4
              simp only [Option.some.injEq, Prod.mk.injEq] at h
              obtain ⟨_, rfl⟩ := h
              exact fin (((pairD_suf e4).trans (takeP_suf e3)).trans ((pairD_suf e2).trans (takeP_suf e1)))
theorem anyD_suf {sign wide : Bool} {l t : List UInt8} {x : Int} (h : anyD sign wide l = some (x, t)) : t <:+ l ∧ t.length < l.length := by
  have hs : ∀ dg most l t x, signedD dg most l = some (x, t) → t <:+ l ∧ t.length < l.length := fun dg most l t x h => by
    unfold signedD at h
    split at h
    · rename_i t0 e0
      have z := takeP_suf e0
      split at h
      · cases h
      · rename_i y t1 e1
        have := clockD_suf e1
        simp only [Option.some.injEq, Prod.mk.injEq] at h
        obtain ⟨_, rfl⟩ := h
        exact ⟨this.1.trans z, by have := z.length_le; omega⟩
    · split at h
      · rename_i t0 e0
        have z := takeP_suf e0
        have := clockD_suf h
        exact ⟨this.1.trans z, by have := z.length_le; omega⟩
      · exact clockD_suf h
  unfold anyD at h
  cases sign <;> cases wide <;> simp only [Bool.false_eq_true, if_false, if_true] at h
  · exact clockD_suf h
  · exact clockD_suf h
  · exact hs _ _ _ _ _ h
  · exact hs _ _ _ _ _ h
theorem any_at {L t : List UInt8} {k : Nat} {x : Int} {sign wide : Bool} (hk : k ≤ L.length) (h : anyD sign wide (L.drop k) = some (x, t)) : ∃ j : Nat, k < j ∧ j ≤ L.length ∧ L.drop j = t := by
  obtain ⟨s, l⟩ := anyD_suf h
  rw [List.length_drop] at l
  refine ⟨L.length - t.length, by omega, by omega, ?_⟩
  have s2 : t <:+ L := s.trans (List.drop_suffix _ _)
  exact (List.suffix_iff_eq_drop.1 s2).symm
def AnW (L : List UInt8) (k : Nat) (R : Option (Ch × List UInt8)) (e : Ending) : Prop :=
  match R with
  | none => ∃ d, e = .returned (.tuple #[.agg (cA d), .int .i64 (-1)])
  | some (c, t) => ∃ j : Nat, k < j ∧ j ≤ L.length ∧ L.drop j = t ∧ e = .returned (.tuple #[.agg (cA c), .int .i64 (j : Int)])
theorem takeP_eq {x y : UInt8} {l t : List UInt8} (h : takeP x (y :: l) = some t) : y = x ∧ l = t := by
  have := takeP_some h
  simpa using this

set_option maxRecDepth 100000 in
set_option maxHeartbeats 16000000 in
theorem dwhen_any (L : List UInt8) (k : Nat) (wide : Bool) (w : World) (hL : L.length ≤ 100000) (hk : k ≤ L.length) :
    Calls Tryd.prog 35 #[.string (tx L), .int .i64 (k : Int), .bool wide] w fun e w' => AnW L k (whenD wide (L.drop k)) e ∧ Up w w' := by
  obtain ⟨R, hR⟩ : ∃ R, whenD wide (L.drop k) = R := ⟨_, rfl⟩
  rw [hR]
  have HR := Lib.hid hR
  clear hR
  have hsz := tx_size L
  have S0 : Dc w ((w.alloc (.cells #[.int .i64 0, .int .i64 0, .int .i64 0, .int .i64 0, .int .i64 0] 25)).alloc (.cells #[.int .i64 2, .int .i64 0, .int .i64 0, .int .i64 0, .int .i64 7200] 25)) ⟨2, 0, 0, 0, 7200⟩ := Dc.start w ⟨2, 0, 0, 0, 7200⟩
  go_enter Tryd.func35, Tryd.ntmps35
  go_upto_region 2 with (fail)
  generalize ((w.alloc (.cells #[.int .i64 0, .int .i64 0, .int .i64 0, .int .i64 0, .int .i64 0] 25)).alloc (.cells #[.int .i64 2, .int .i64 0, .int .i64 0, .int .i64 0, .int .i64 7200] 25)) = W0 at *
  obtain ⟨⟨q0, q1, q2, q3, q4⟩, r0, r1, r2, r3, r4⟩ := S0.cells
  obtain ⟨⟨y0, y1, y2, y3, y4⟩, s0, s1, s2, s3, s4⟩ := S0.zero
  simp only at q0 q1 q2 q3 q4
  cases h0 : takeP 44 (L.drop k) with
  | none =>
    rcases hT : L.drop k with _ | ⟨y, t0⟩
    · have pn := at_nil hT
      go_wp2_with fail
      have hres : whenD wide (L.drop k) = none := by unfold whenD; simp only [h0]
      have FO := S0.out (.int .i64 2) (.int .i64 0) (.int .i64 0) (.int .i64 0) (.int .i64 7200)
      refine bodyPost_ret (v := .tuple #[.agg #[.int .i64 2, .int .i64 0, .int .i64 0, .int .i64 0, .int .i64 7200], .int .i64 (-1)]) (by simp [results, Tryd.results35, go_sem, y0, y1, y2, y3, y4]) rfl ?_
      rw [← HR.out, hres]
      exact ⟨⟨⟨2, 0, 0, 0, 7200⟩, rfl⟩, FO⟩
    · obtain ⟨p1, p2, p3⟩ := at_cons hT
      have hs := hs_at hT
      have ny : ¬ (y.toNat : Int) = 44 := by rw [hT] at h0; exact ne_i h0
      clear p2 p3
      by_cases c1 : (L.length : Int) ≤ (k : Int) + 1
      all_goals
        go_wp2_with fail
        have hres : whenD wide (L.drop k) = none := by unfold whenD; simp only [h0]
        have FO := S0.out (.int .i64 2) (.int .i64 0) (.int .i64 0) (.int .i64 0) (.int .i64 7200)
        refine bodyPost_ret (v := .tuple #[.agg #[.int .i64 2, .int .i64 0, .int .i64 0, .int .i64 0, .int .i64 7200], .int .i64 (-1)]) (by simp [results, Tryd.results35, go_sem, y0, y1, y2, y3, y4]) rfl ?_
        rw [← HR.out, hres]
        exact ⟨⟨⟨2, 0, 0, 0, 7200⟩, rfl⟩, FO⟩
  | some t1 =>
    have hT := takeP_some h0
    obtain ⟨p1, p2, p3⟩ := at_cons hT
    have hs := hs_at hT
    clear p2
    rcases t1 with _ | ⟨y, t2⟩
    · have pn := at_nil p3
      clear p3 hT
      go_wp2_with fail
      have hres : whenD wide (L.drop k) = none := by unfold whenD; simp only [h0]; unfold changeD dayD numD; simp [takeP, dgs]
      have FO := S0.out (.int .i64 2) (.int .i64 0) (.int .i64 0) (.int .i64 0) (.int .i64 7200)
      refine bodyPost_ret (v := .tuple #[.agg #[.int .i64 2, .int .i64 0, .int .i64 0, .int .i64 0, .int .i64 7200], .int .i64 (-1)]) (by simp [results, Tryd.results35, go_sem, y0, y1, y2, y3, y4]) rfl ?_
      rw [← HR.out, hres]
      exact ⟨⟨⟨2, 0, 0, 0, 7200⟩, rfl⟩, FO⟩
    · obtain ⟨p4, p5, p6⟩ := at_cons p3
      have hs1 := hs_at p3
      clear p5 hT
      have wD : whenD wide (L.drop k) = changeD wide (y :: t2) := by unfold whenD; simp only [h0]
      have WD := Lib.hid wD
      clear wD
      have n1 : ¬ (L.length : Int) ≤ (k : Int) + 1 := by omega
      cases h1 : takeP 74 (y :: t2) with
      | some t =>
        obtain ⟨rfl, rfl⟩ := takeP_eq h1
        go_wp2_with fail
        have S1 := S0.st 0 (.int .i64 1) (d := ⟨1, 0, 0, 0, 7200⟩) rfl
        clear q0 q1 q2 q3 q4 r0 r1 r2 r3 r4 y0 y1 y2 y3 y4 s0 s1 s2 s3 s4 S0
        generalize World.setCell _ ⟨w.heap.size + 1, 0, none⟩ (.int .i64 1) = V1 at *
        obtain ⟨⟨q0, q1, q2, q3, q4⟩, r0, r1, r2, r3, r4⟩ := S1.cells
        obtain ⟨⟨y0, y1, y2, y3, y4⟩, s0, s1, s2, s3, s4⟩ := S1.zero
        simp only at q0 q1 q2 q3 q4
        cases hn2 : numD 3 t2 with
        | none =>
          refine (ddig_no (L := L) (k := k + 1 + 1) (most := 3) _ _ (by omega) rfl hL (by omega) (by decide) (by rw [p6]; exact hn2) _).mono ?_; rintro e w9 ⟨rfl, rfl⟩
          go_wp2_with fail
          have S3 := S1.st 1 (.int .i64 0) (d := ⟨1, 0, 0, 0, 7200⟩) rfl
          clear q0 q1 q2 q3 q4 r0 r1 r2 r3 r4 y0 y1 y2 y3 y4 s0 s1 s2 s3 s4 S1
          generalize World.setCell _ ⟨w.heap.size + 1, 1, none⟩ (.int .i64 0) = V3 at *
          obtain ⟨⟨q0, q1, q2, q3, q4⟩, r0, r1, r2, r3, r4⟩ := S3.cells
          obtain ⟨⟨y0, y1, y2, y3, y4⟩, s0, s1, s2, s3, s4⟩ := S3.zero
          simp only at q0 q1 q2 q3 q4
          refine wp_loop_rounds 1 ?_
          rw [rounds_succ]
          go_wp2_with fail
          have hres : whenD wide (L.drop k) = none := by rw [WD.out]; unfold changeD dayD timedD; simp only [h1, hn2]
          have FO := S3.out (.int .i64 1) (.int .i64 0) (.int .i64 0) (.int .i64 0) (.int .i64 7200)
          refine bodyPost_ret (v := .tuple #[.agg #[.int .i64 1, .int .i64 0, .int .i64 0, .int .i64 0, .int .i64 7200], .int .i64 (-1)]) (by simp [results, Tryd.results35, go_sem, y0, y1, y2, y3, y4]) rfl ?_
          rw [← HR.out, hres]
          exact ⟨⟨⟨1, 0, 0, 0, 7200⟩, rfl⟩, FO⟩
        | some xx =>
          obtain ⟨n2, t2⟩ := xx
          obtain ⟨j2, j2_1, j2_2, j2_t, D2⟩ := ddig_at (k := k + 1 + 1) (most := 3) hL (by omega) (by decide) (by rw [p6]; exact hn2)
          refine (D2 _ _ (by omega) rfl _).mono ?_; rintro e w9 ⟨rfl, rfl⟩
          clear D2
          go_wp2_with fail
          have S4 := S1.st 1 (.int .i64 n2) (d := ⟨1, n2, 0, 0, 7200⟩) rfl
          clear q0 q1 q2 q3 q4 r0 r1 r2 r3 r4 y0 y1 y2 y3 y4 s0 s1 s2 s3 s4 S1
          generalize World.setCell _ ⟨w.heap.size + 1, 1, none⟩ (.int .i64 n2) = V4 at *
          obtain ⟨⟨q0, q1, q2, q3, q4⟩, r0, r1, r2, r3, r4⟩ := S4.cells
          obtain ⟨⟨y0, y1, y2, y3, y4⟩, s0, s1, s2, s3, s4⟩ := S4.zero
          simp only at q0 q1 q2 q3 q4
          refine wp_loop_rounds 1 ?_
          rw [rounds_succ]
          cases hs5 : takeP 47 t2 with
          | none =>
            have hz : ∀ q : j2 < (tx L).size, ((((tx L)[j2]'q).toNat : Int) == 47) = false := no_at 47 47 rfl (by rw [j2_t]; exact hs5)
            by_cases cl : ((j2 : Nat) : Int) < (L.length : Int)
            · skip
              cases hc6 : changeB ⟨1, n2, 0, 0, 7200⟩ wide with
              | false =>
                have CA := fun w => dchange_any ⟨1, n2, 0, 0, 7200⟩ wide w
                rw [hc6] at CA
                unfold cA at CA
                simp only at CA
                go_wp2_with fail
                refine (CA _).mono ?_; rintro e X7 ⟨rfl, u7⟩
                clear CA
                have S7 := S4.call u7
                clear q0 q1 q2 q3 q4 r0 r1 r2 r3 r4 y0 y1 y2 y3 y4 s0 s1 s2 s3 s4
                obtain ⟨⟨q0, q1, q2, q3, q4⟩, r0, r1, r2, r3, r4⟩ := S7.cells
                obtain ⟨⟨y0, y1, y2, y3, y4⟩, s0, s1, s2, s3, s4⟩ := S7.zero
                simp only at q0 q1 q2 q3 q4
                go_wp2_with fail
                have hres : whenD wide (L.drop k) = none := by rw [WD.out]; unfold changeD dayD timedD; simp only [h1, hn2, hs5]; rw [hc6]; rfl
                have FO := S7.out (.int .i64 1) (.int .i64 n2) (.int .i64 0) (.int .i64 0) (.int .i64 7200)
                refine bodyPost_ret (v := .tuple #[.agg #[.int .i64 1, .int .i64 n2, .int .i64 0, .int .i64 0, .int .i64 7200], .int .i64 (-1)]) (by simp [results, Tryd.results35, go_sem, y0, y1, y2, y3, y4]) rfl ?_
                rw [← HR.out, hres]
                exact ⟨⟨⟨1, n2, 0, 0, 7200⟩, rfl⟩, FO⟩
              | true =>
                have CA := fun w => dchange_any ⟨1, n2, 0, 0, 7200⟩ wide w
                rw [hc6] at CA
                unfold cA at CA
                simp only at CA
                go_wp2_with fail
                refine (CA _).mono ?_; rintro e X8 ⟨rfl, u8⟩
                clear CA
                have S8 := S4.call u8
                clear q0 q1 q2 q3 q4 r0 r1 r2 r3 r4 y0 y1 y2 y3 y4 s0 s1 s2 s3 s4
                obtain ⟨⟨q0, q1, q2, q3, q4⟩, r0, r1, r2, r3, r4⟩ := S8.cells
                obtain ⟨⟨y0, y1, y2, y3, y4⟩, s0, s1, s2, s3, s4⟩ := S8.zero
                simp only at q0 q1 q2 q3 q4
                go_wp2_with fail
                have hres : whenD wide (L.drop k) = some (⟨1, n2, 0, 0, 7200⟩, t2) := by rw [WD.out]; unfold changeD dayD timedD; simp only [h1, hn2, hs5]; rw [hc6]; rfl
                have FO := S8.out (.int .i64 1) (.int .i64 n2) (.int .i64 0) (.int .i64 0) (.int .i64 7200)
                refine bodyPost_ret (v := .tuple #[.agg #[.int .i64 1, .int .i64 n2, .int .i64 0, .int .i64 0, .int .i64 7200], .int .i64 (j2 : Int)]) (by simp [results, Tryd.results35, go_sem, y0, y1, y2, y3, y4]) rfl ?_
                rw [← HR.out, hres]
                exact ⟨⟨j2, by omega, by omega, by assumption, rfl⟩, FO⟩
            · skip
              cases hc9 : changeB ⟨1, n2, 0, 0, 7200⟩ wide with
              | false =>
                have CA := fun w => dchange_any ⟨1, n2, 0, 0, 7200⟩ wide w
                rw [hc9] at CA
                unfold cA at CA
                simp only at CA
                go_wp2_with fail
                refine (CA _).mono ?_; rintro e X10 ⟨rfl, u10⟩
                clear CA
                have S10 := S4.call u10
                clear q0 q1 q2 q3 q4 r0 r1 r2 r3 r4 y0 y1 y2 y3 y4 s0 s1 s2 s3 s4
                obtain ⟨⟨q0, q1, q2, q3, q4⟩, r0, r1, r2, r3, r4⟩ := S10.cells
                obtain ⟨⟨y0, y1, y2, y3, y4⟩, s0, s1, s2, s3, s4⟩ := S10.zero
                simp only at q0 q1 q2 q3 q4
                go_wp2_with fail
                have hres : whenD wide (L.drop k) = none := by rw [WD.out]; unfold changeD dayD timedD; simp only [h1, hn2, hs5]; rw [hc9]; rfl
                have FO := S10.out (.int .i64 1) (.int .i64 n2) (.int .i64 0) (.int .i64 0) (.int .i64 7200)
                refine bodyPost_ret (v := .tuple #[.agg #[.int .i64 1, .int .i64 n2, .int .i64 0, .int .i64 0, .int .i64 7200], .int .i64 (-1)]) (by simp [results, Tryd.results35, go_sem, y0, y1, y2, y3, y4]) rfl ?_
                rw [← HR.out, hres]
                exact ⟨⟨⟨1, n2, 0, 0, 7200⟩, rfl⟩, FO⟩
              | true =>
                have CA := fun w => dchange_any ⟨1, n2, 0, 0, 7200⟩ wide w
                rw [hc9] at CA
                unfold cA at CA
                simp only at CA
                go_wp2_with fail
                refine (CA _).mono ?_; rintro e X11 ⟨rfl, u11⟩
                clear CA
                have S11 := S4.call u11
                clear q0 q1 q2 q3 q4 r0 r1 r2 r3 r4 y0 y1 y2 y3 y4 s0 s1 s2 s3 s4
                obtain ⟨⟨q0, q1, q2, q3, q4⟩, r0, r1, r2, r3, r4⟩ := S11.cells
                obtain ⟨⟨y0, y1, y2, y3, y4⟩, s0, s1, s2, s3, s4⟩ := S11.zero
                simp only at q0 q1 q2 q3 q4
                go_wp2_with fail
                have hres : whenD wide (L.drop k) = some (⟨1, n2, 0, 0, 7200⟩, t2) := by rw [WD.out]; unfold changeD dayD timedD; simp only [h1, hn2, hs5]; rw [hc9]; rfl
                have FO := S11.out (.int .i64 1) (.int .i64 n2) (.int .i64 0) (.int .i64 0) (.int .i64 7200)
                refine bodyPost_ret (v := .tuple #[.agg #[.int .i64 1, .int .i64 n2, .int .i64 0, .int .i64 0, .int .i64 7200], .int .i64 (j2 : Int)]) (by simp [results, Tryd.results35, go_sem, y0, y1, y2, y3, y4]) rfl ?_
                rw [← HR.out, hres]
                exact ⟨⟨j2, by omega, by omega, by assumption, rfl⟩, FO⟩
          | some tt =>
            obtain ⟨pn, _, pt⟩ := at_cons ((j2_t).trans (takeP_some hs5))
            have hz := hs_at ((j2_t).trans (takeP_some hs5))
            go_wp2_with fail
            refine (dtime_w_at L wide (j2 + 1) _ _ (by omega) hL (by omega)).mono ?_; rintro e w9 ⟨rfl, rfl⟩
            rw [pt]
            cases ht5 : anyD wide wide tt with
            | none =>
              simp only [valP, endP]
              have S12 := S4.st 4 (.int .i64 0) (d := ⟨1, n2, 0, 0, 0⟩) rfl
              go_wp2_with fail
              have hres : whenD wide (L.drop k) = none := by rw [WD.out]; unfold changeD dayD timedD; simp only [h1, hn2, hs5, ht5]
              have FO := S12.out (.int .i64 1) (.int .i64 n2) (.int .i64 0) (.int .i64 0) (.int .i64 0)
              refine bodyPost_ret (v := .tuple #[.agg #[.int .i64 1, .int .i64 n2, .int .i64 0, .int .i64 0, .int .i64 0], .int .i64 (-1)]) (by simp [results, Tryd.results35, go_sem, y0, y1, y2, y3, y4]) rfl ?_
              rw [← HR.out, hres]
              exact ⟨⟨⟨1, n2, 0, 0, 0⟩, rfl⟩, FO⟩
            | some xt =>
              obtain ⟨tm, te⟩ := xt
              obtain ⟨je, je_1, je_2, je_t⟩ := any_at (L := L) (k := j2 + 1) (by omega) (by rw [pt]; exact ht5)
              rw [endP_at je_2 je_t]
              simp only [valP]
              have S13 := S4.st 4 (.int .i64 tm) (d := ⟨1, n2, 0, 0, tm⟩) rfl
              cases hc14 : changeB ⟨1, n2, 0, 0, tm⟩ wide with
              | false =>
                have CA := fun w => dchange_any ⟨1, n2, 0, 0, tm⟩ wide w
                rw [hc14] at CA
                unfold cA at CA
                simp only at CA
                go_wp2_with fail
                refine (CA _).mono ?_; rintro e X15 ⟨rfl, u15⟩
                clear CA
                have S15 := S13.call u15
                clear q0 q1 q2 q3 q4 r0 r1 r2 r3 r4 y0 y1 y2 y3 y4 s0 s1 s2 s3 s4
                obtain ⟨⟨q0, q1, q2, q3, q4⟩, r0, r1, r2, r3, r4⟩ := S15.cells
                obtain ⟨⟨y0, y1, y2, y3, y4⟩, s0, s1, s2, s3, s4⟩ := S15.zero
                simp only at q0 q1 q2 q3 q4
                go_wp2_with fail
                have hres : whenD wide (L.drop k) = none := by rw [WD.out]; unfold changeD dayD timedD; simp only [h1, hn2, hs5, ht5]; rw [hc14]; rfl
                have FO := S15.out (.int .i64 1) (.int .i64 n2) (.int .i64 0) (.int .i64 0) (.int .i64 tm)
                refine bodyPost_ret (v := .tuple #[.agg #[.int .i64 1, .int .i64 n2, .int .i64 0, .int .i64 0, .int .i64 tm], .int .i64 (-1)]) (by simp [results, Tryd.results35, go_sem, y0, y1, y2, y3, y4]) rfl ?_
                rw [← HR.out, hres]
                exact ⟨⟨⟨1, n2, 0, 0, tm⟩, rfl⟩, FO⟩
              | true =>
                have CA := fun w => dchange_any ⟨1, n2, 0, 0, tm⟩ wide w
                rw [hc14] at CA
                unfold cA at CA
                simp only at CA
                go_wp2_with fail
                refine (CA _).mono ?_; rintro e X16 ⟨rfl, u16⟩
                clear CA
                have S16 := S13.call u16
                clear q0 q1 q2 q3 q4 r0 r1 r2 r3 r4 y0 y1 y2 y3 y4 s0 s1 s2 s3 s4
                obtain ⟨⟨q0, q1, q2, q3, q4⟩, r0, r1, r2, r3, r4⟩ := S16.cells
                obtain ⟨⟨y0, y1, y2, y3, y4⟩, s0, s1, s2, s3, s4⟩ := S16.zero
                simp only at q0 q1 q2 q3 q4
                go_wp2_with fail
                have hres : whenD wide (L.drop k) = some (⟨1, n2, 0, 0, tm⟩, te) := by rw [WD.out]; unfold changeD dayD timedD; simp only [h1, hn2, hs5, ht5]; rw [hc14]; rfl
                have FO := S16.out (.int .i64 1) (.int .i64 n2) (.int .i64 0) (.int .i64 0) (.int .i64 tm)
                refine bodyPost_ret (v := .tuple #[.agg #[.int .i64 1, .int .i64 n2, .int .i64 0, .int .i64 0, .int .i64 tm], .int .i64 (je : Int)]) (by simp [results, Tryd.results35, go_sem, y0, y1, y2, y3, y4]) rfl ?_
                rw [← HR.out, hres]
                exact ⟨⟨je, by omega, by omega, by assumption, rfl⟩, FO⟩
      | none =>
        cases h2 : takeP 77 (y :: t2) with
        | some t =>
          obtain ⟨rfl, rfl⟩ := takeP_eq h2
          go_wp2_with fail
          have S17 := S0.st 0 (.int .i64 3) (d := ⟨3, 0, 0, 0, 7200⟩) rfl
          clear q0 q1 q2 q3 q4 r0 r1 r2 r3 r4 y0 y1 y2 y3 y4 s0 s1 s2 s3 s4 S0
          generalize World.setCell _ ⟨w.heap.size + 1, 0, none⟩ (.int .i64 3) = V17 at *
          obtain ⟨⟨q0, q1, q2, q3, q4⟩, r0, r1, r2, r3, r4⟩ := S17.cells
          obtain ⟨⟨y0, y1, y2, y3, y4⟩, s0, s1, s2, s3, s4⟩ := S17.zero
          simp only at q0 q1 q2 q3 q4
          cases hn18 : numD 3 t2 with
          | none =>
            refine (ddig_no (L := L) (k := k + 1 + 1) (most := 3) _ _ (by omega) rfl hL (by omega) (by decide) (by rw [p6]; exact hn18) _).mono ?_; rintro e w9 ⟨rfl, rfl⟩
            go_wp2_with fail
            have S19 := S17.st 1 (.int .i64 0) (d := ⟨3, 0, 0, 0, 7200⟩) rfl
            clear q0 q1 q2 q3 q4 r0 r1 r2 r3 r4 y0 y1 y2 y3 y4 s0 s1 s2 s3 s4 S17
            generalize World.setCell _ ⟨w.heap.size + 1, 1, none⟩ (.int .i64 0) = V19 at *
            obtain ⟨⟨q0, q1, q2, q3, q4⟩, r0, r1, r2, r3, r4⟩ := S19.cells
            obtain ⟨⟨y0, y1, y2, y3, y4⟩, s0, s1, s2, s3, s4⟩ := S19.zero
            simp only at q0 q1 q2 q3 q4
            refine wp_loop_rounds 1 ?_
            rw [rounds_succ]
            go_wp2_with fail
            have hres : whenD wide (L.drop k) = none := by rw [WD.out]; unfold changeD dayD timedD; simp only [h1, h2, hn18]
            have FO := S19.out (.int .i64 3) (.int .i64 0) (.int .i64 0) (.int .i64 0) (.int .i64 7200)
            refine bodyPost_ret (v := .tuple #[.agg #[.int .i64 3, .int .i64 0, .int .i64 0, .int .i64 0, .int .i64 7200], .int .i64 (-1)]) (by simp [results, Tryd.results35, go_sem, y0, y1, y2, y3, y4]) rfl ?_
            rw [← HR.out, hres]
            exact ⟨⟨⟨3, 0, 0, 0, 7200⟩, rfl⟩, FO⟩
          | some xx =>
            obtain ⟨n18, t18⟩ := xx
            obtain ⟨j18, j18_1, j18_2, j18_t, D18⟩ := ddig_at (k := k + 1 + 1) (most := 3) hL (by omega) (by decide) (by rw [p6]; exact hn18)
            refine (D18 _ _ (by omega) rfl _).mono ?_; rintro e w9 ⟨rfl, rfl⟩
            clear D18
            go_wp2_with fail
            have S20 := S17.st 1 (.int .i64 n18) (d := ⟨3, n18, 0, 0, 7200⟩) rfl
            clear q0 q1 q2 q3 q4 r0 r1 r2 r3 r4 y0 y1 y2 y3 y4 s0 s1 s2 s3 s4 S17
            generalize World.setCell _ ⟨w.heap.size + 1, 1, none⟩ (.int .i64 n18) = V20 at *
            obtain ⟨⟨q0, q1, q2, q3, q4⟩, r0, r1, r2, r3, r4⟩ := S20.cells
            obtain ⟨⟨y0, y1, y2, y3, y4⟩, s0, s1, s2, s3, s4⟩ := S20.zero
            simp only at q0 q1 q2 q3 q4
            refine wp_loop_rounds 3 ?_
            rw [rounds_succ]
            cases hd21 : takeP 46 t18 with
            | none =>
              have hz : ∀ q : j18 < (tx L).size, ((((tx L)[j18]'q).toNat : Int) == 46) = false := no_at 46 46 rfl (by rw [j18_t]; exact hd21)
              have hy : ∀ q : j18 < (tx L).size, ((((tx L)[j18]'q).toNat : Int) != 46) = true := fun q => by rw [bne, hz q]; rfl
              clear hz
              by_cases cl : ((j18 : Nat) : Int) < (L.length : Int)
              all_goals
                go_wp2_with fail
                have hres : whenD wide (L.drop k) = none := by rw [WD.out]; unfold changeD dayD timedD; simp only [h1, h2, hn18, hd21]
                have FO := S20.out (.int .i64 3) (.int .i64 n18) (.int .i64 0) (.int .i64 0) (.int .i64 7200)
                refine bodyPost_ret (v := .tuple #[.agg #[.int .i64 3, .int .i64 n18, .int .i64 0, .int .i64 0, .int .i64 7200], .int .i64 (-1)]) (by simp [results, Tryd.results35, go_sem, y0, y1, y2, y3, y4]) rfl ?_
                rw [← HR.out, hres]
                exact ⟨⟨⟨3, n18, 0, 0, 7200⟩, rfl⟩, FO⟩
            | some tt =>
              obtain ⟨pn21, _, pt21⟩ := at_cons ((j18_t).trans (takeP_some hd21))
              have hz21 := hs_at ((j18_t).trans (takeP_some hd21))
              go_wp2_with fail
              clear hz21
              cases hn22 : numD 3 tt with
              | none =>
                refine (ddig_no (L := L) (k := j18 + 1) (most := 3) _ _ (by omega) rfl hL (by omega) (by decide) (by rw [pt21]; exact hn22) _).mono ?_; rintro e w9 ⟨rfl, rfl⟩
                go_wp2_with fail
                have S23 := S20.st 2 (.int .i64 0) (d := ⟨3, n18, 0, 0, 7200⟩) rfl
                clear q0 q1 q2 q3 q4 r0 r1 r2 r3 r4 y0 y1 y2 y3 y4 s0 s1 s2 s3 s4 S20
                generalize World.setCell _ ⟨w.heap.size + 1, 2, none⟩ (.int .i64 0) = V23 at *
                obtain ⟨⟨q0, q1, q2, q3, q4⟩, r0, r1, r2, r3, r4⟩ := S23.cells
                obtain ⟨⟨y0, y1, y2, y3, y4⟩, s0, s1, s2, s3, s4⟩ := S23.zero
                simp only at q0 q1 q2 q3 q4
                rw [rounds_succ]
                go_wp2_with fail
                have hres : whenD wide (L.drop k) = none := by rw [WD.out]; unfold changeD dayD timedD; simp only [h1, h2, hn18, hd21, hn22]
                have FO := S23.out (.int .i64 3) (.int .i64 n18) (.int .i64 0) (.int .i64 0) (.int .i64 7200)
                refine bodyPost_ret (v := .tuple #[.agg #[.int .i64 3, .int .i64 n18, .int .i64 0, .int .i64 0, .int .i64 7200], .int .i64 (-1)]) (by simp [results, Tryd.results35, go_sem, y0, y1, y2, y3, y4]) rfl ?_
                rw [← HR.out, hres]
                exact ⟨⟨⟨3, n18, 0, 0, 7200⟩, rfl⟩, FO⟩
              | some xx =>
                obtain ⟨n22, t22⟩ := xx
                obtain ⟨j22, j22_1, j22_2, j22_t, D22⟩ := ddig_at (k := j18 + 1) (most := 3) hL (by omega) (by decide) (by rw [pt21]; exact hn22)
                refine (D22 _ _ (by omega) rfl _).mono ?_; rintro e w9 ⟨rfl, rfl⟩
                clear D22
                go_wp2_with fail
                have S24 := S20.st 2 (.int .i64 n22) (d := ⟨3, n18, n22, 0, 7200⟩) rfl
                clear q0 q1 q2 q3 q4 r0 r1 r2 r3 r4 y0 y1 y2 y3 y4 s0 s1 s2 s3 s4 S20
                generalize World.setCell _ ⟨w.heap.size + 1, 2, none⟩ (.int .i64 n22) = V24 at *
                obtain ⟨⟨q0, q1, q2, q3, q4⟩, r0, r1, r2, r3, r4⟩ := S24.cells
                obtain ⟨⟨y0, y1, y2, y3, y4⟩, s0, s1, s2, s3, s4⟩ := S24.zero
                simp only at q0 q1 q2 q3 q4
                rw [rounds_succ]
                cases hd25 : takeP 46 t22 with
                | none =>
                  have hz : ∀ q : j22 < (tx L).size, ((((tx L)[j22]'q).toNat : Int) == 46) = false := no_at 46 46 rfl (by rw [j22_t]; exact hd25)
                  have hy : ∀ q : j22 < (tx L).size, ((((tx L)[j22]'q).toNat : Int) != 46) = true := fun q => by rw [bne, hz q]; rfl
                  clear hz
                  by_cases cl : ((j22 : Nat) : Int) < (L.length : Int)
                  all_goals
                    go_wp2_with fail
                    have hres : whenD wide (L.drop k) = none := by rw [WD.out]; unfold changeD dayD timedD; simp only [h1, h2, hn18, hd21, hn22, hd25]
                    have FO := S24.out (.int .i64 3) (.int .i64 n18) (.int .i64 n22) (.int .i64 0) (.int .i64 7200)
                    refine bodyPost_ret (v := .tuple #[.agg #[.int .i64 3, .int .i64 n18, .int .i64 n22, .int .i64 0, .int .i64 7200], .int .i64 (-1)]) (by simp [results, Tryd.results35, go_sem, y0, y1, y2, y3, y4]) rfl ?_
                    rw [← HR.out, hres]
                    exact ⟨⟨⟨3, n18, n22, 0, 7200⟩, rfl⟩, FO⟩
                | some tt =>
                  obtain ⟨pn25, _, pt25⟩ := at_cons ((j22_t).trans (takeP_some hd25))
                  have hz25 := hs_at ((j22_t).trans (takeP_some hd25))
                  go_wp2_with fail
                  clear hz25
                  cases hn26 : numD 3 tt with
                  | none =>
                    refine (ddig_no (L := L) (k := j22 + 1) (most := 3) _ _ (by omega) rfl hL (by omega) (by decide) (by rw [pt25]; exact hn26) _).mono ?_; rintro e w9 ⟨rfl, rfl⟩
                    go_wp2_with fail
                    have S27 := S24.st 3 (.int .i64 0) (d := ⟨3, n18, n22, 0, 7200⟩) rfl
                    clear q0 q1 q2 q3 q4 r0 r1 r2 r3 r4 y0 y1 y2 y3 y4 s0 s1 s2 s3 s4 S24
                    generalize World.setCell _ ⟨w.heap.size + 1, 3, none⟩ (.int .i64 0) = V27 at *
                    obtain ⟨⟨q0, q1, q2, q3, q4⟩, r0, r1, r2, r3, r4⟩ := S27.cells
                    obtain ⟨⟨y0, y1, y2, y3, y4⟩, s0, s1, s2, s3, s4⟩ := S27.zero
                    simp only at q0 q1 q2 q3 q4
                    rw [rounds_succ]
                    go_wp2_with fail
                    have hres : whenD wide (L.drop k) = none := by rw [WD.out]; unfold changeD dayD timedD; simp only [h1, h2, hn18, hd21, hn22, hd25, hn26]
                    have FO := S27.out (.int .i64 3) (.int .i64 n18) (.int .i64 n22) (.int .i64 0) (.int .i64 7200)
                    refine bodyPost_ret (v := .tuple #[.agg #[.int .i64 3, .int .i64 n18, .int .i64 n22, .int .i64 0, .int .i64 7200], .int .i64 (-1)]) (by simp [results, Tryd.results35, go_sem, y0, y1, y2, y3, y4]) rfl ?_
                    rw [← HR.out, hres]
                    exact ⟨⟨⟨3, n18, n22, 0, 7200⟩, rfl⟩, FO⟩
                  | some xx =>
                    obtain ⟨n26, t26⟩ := xx
                    obtain ⟨j26, j26_1, j26_2, j26_t, D26⟩ := ddig_at (k := j22 + 1) (most := 3) hL (by omega) (by decide) (by rw [pt25]; exact hn26)
                    refine (D26 _ _ (by omega) rfl _).mono ?_; rintro e w9 ⟨rfl, rfl⟩
                    clear D26
                    go_wp2_with fail
                    have S28 := S24.st 3 (.int .i64 n26) (d := ⟨3, n18, n22, n26, 7200⟩) rfl
                    clear q0 q1 q2 q3 q4 r0 r1 r2 r3 r4 y0 y1 y2 y3 y4 s0 s1 s2 s3 s4 S24
                    generalize World.setCell _ ⟨w.heap.size + 1, 3, none⟩ (.int .i64 n26) = V28 at *
                    obtain ⟨⟨q0, q1, q2, q3, q4⟩, r0, r1, r2, r3, r4⟩ := S28.cells
                    obtain ⟨⟨y0, y1, y2, y3, y4⟩, s0, s1, s2, s3, s4⟩ := S28.zero
                    simp only at q0 q1 q2 q3 q4
                    rw [rounds_succ]
                    cases hs29 : takeP 47 t26 with
                    | none =>
                      have hz : ∀ q : j26 < (tx L).size, ((((tx L)[j26]'q).toNat : Int) == 47) = false := no_at 47 47 rfl (by rw [j26_t]; exact hs29)
                      by_cases cl : ((j26 : Nat) : Int) < (L.length : Int)
                      · skip
                        cases hc30 : changeB ⟨3, n18, n22, n26, 7200⟩ wide with
                        | false =>
                          have CA := fun w => dchange_any ⟨3, n18, n22, n26, 7200⟩ wide w
                          rw [hc30] at CA
                          unfold cA at CA
                          simp only at CA
                          go_wp2_with fail
                          refine (CA _).mono ?_; rintro e X31 ⟨rfl, u31⟩
                          clear CA
                          have S31 := S28.call u31
                          clear q0 q1 q2 q3 q4 r0 r1 r2 r3 r4 y0 y1 y2 y3 y4 s0 s1 s2 s3 s4
                          obtain ⟨⟨q0, q1, q2, q3, q4⟩, r0, r1, r2, r3, r4⟩ := S31.cells
                          obtain ⟨⟨y0, y1, y2, y3, y4⟩, s0, s1, s2, s3, s4⟩ := S31.zero
                          simp only at q0 q1 q2 q3 q4
                          go_wp2_with fail
                          have hres : whenD wide (L.drop k) = none := by rw [WD.out]; unfold changeD dayD timedD; simp only [h1, h2, hn18, hd21, hn22, hd25, hn26, hs29]; rw [hc30]; rfl
                          have FO := S31.out (.int .i64 3) (.int .i64 n18) (.int .i64 n22) (.int .i64 n26) (.int .i64 7200)
                          refine bodyPost_ret (v := .tuple #[.agg #[.int .i64 3, .int .i64 n18, .int .i64 n22, .int .i64 n26, .int .i64 7200], .int .i64 (-1)]) (by simp [results, Tryd.results35, go_sem, y0, y1, y2, y3, y4]) rfl ?_
                          rw [← HR.out, hres]
                          exact ⟨⟨⟨3, n18, n22, n26, 7200⟩, rfl⟩, FO⟩
                        | true =>
                          have CA := fun w => dchange_any ⟨3, n18, n22, n26, 7200⟩ wide w
                          rw [hc30] at CA
                          unfold cA at CA
                          simp only at CA
                          go_wp2_with fail
                          refine (CA _).mono ?_; rintro e X32 ⟨rfl, u32⟩
                          clear CA
                          have S32 := S28.call u32
                          clear q0 q1 q2 q3 q4 r0 r1 r2 r3 r4 y0 y1 y2 y3 y4 s0 s1 s2 s3 s4
                          obtain ⟨⟨q0, q1, q2, q3, q4⟩, r0, r1, r2, r3, r4⟩ := S32.cells
                          obtain ⟨⟨y0, y1, y2, y3, y4⟩, s0, s1, s2, s3, s4⟩ := S32.zero
                          simp only at q0 q1 q2 q3 q4
                          go_wp2_with fail
                          have hres : whenD wide (L.drop k) = some (⟨3, n18, n22, n26, 7200⟩, t26) := by rw [WD.out]; unfold changeD dayD timedD; simp only [h1, h2, hn18, hd21, hn22, hd25, hn26, hs29]; rw [hc30]; rfl
                          have FO := S32.out (.int .i64 3) (.int .i64 n18) (.int .i64 n22) (.int .i64 n26) (.int .i64 7200)
                          refine bodyPost_ret (v := .tuple #[.agg #[.int .i64 3, .int .i64 n18, .int .i64 n22, .int .i64 n26, .int .i64 7200], .int .i64 (j26 : Int)]) (by simp [results, Tryd.results35, go_sem, y0, y1, y2, y3, y4]) rfl ?_
                          rw [← HR.out, hres]
                          exact ⟨⟨j26, by omega, by omega, by assumption, rfl⟩, FO⟩
                      · skip
                        cases hc33 : changeB ⟨3, n18, n22, n26, 7200⟩ wide with
                        | false =>
                          have CA := fun w => dchange_any ⟨3, n18, n22, n26, 7200⟩ wide w
                          rw [hc33] at CA
                          unfold cA at CA
                          simp only at CA
                          go_wp2_with fail
                          refine (CA _).mono ?_; rintro e X34 ⟨rfl, u34⟩
                          clear CA
                          have S34 := S28.call u34
                          clear q0 q1 q2 q3 q4 r0 r1 r2 r3 r4 y0 y1 y2 y3 y4 s0 s1 s2 s3 s4
                          obtain ⟨⟨q0, q1, q2, q3, q4⟩, r0, r1, r2, r3, r4⟩ := S34.cells
                          obtain ⟨⟨y0, y1, y2, y3, y4⟩, s0, s1, s2, s3, s4⟩ := S34.zero
                          simp only at q0 q1 q2 q3 q4
                          go_wp2_with fail
                          have hres : whenD wide (L.drop k) = none := by rw [WD.out]; unfold changeD dayD timedD; simp only [h1, h2, hn18, hd21, hn22, hd25, hn26, hs29]; rw [hc33]; rfl
                          have FO := S34.out (.int .i64 3) (.int .i64 n18) (.int .i64 n22) (.int .i64 n26) (.int .i64 7200)
                          refine bodyPost_ret (v := .tuple #[.agg #[.int .i64 3, .int .i64 n18, .int .i64 n22, .int .i64 n26, .int .i64 7200], .int .i64 (-1)]) (by simp [results, Tryd.results35, go_sem, y0, y1, y2, y3, y4]) rfl ?_
                          rw [← HR.out, hres]
                          exact ⟨⟨⟨3, n18, n22, n26, 7200⟩, rfl⟩, FO⟩
                        | true =>
                          have CA := fun w => dchange_any ⟨3, n18, n22, n26, 7200⟩ wide w
                          rw [hc33] at CA
                          unfold cA at CA
                          simp only at CA
                          go_wp2_with fail
                          refine (CA _).mono ?_; rintro e X35 ⟨rfl, u35⟩
                          clear CA
                          have S35 := S28.call u35
                          clear q0 q1 q2 q3 q4 r0 r1 r2 r3 r4 y0 y1 y2 y3 y4 s0 s1 s2 s3 s4
                          obtain ⟨⟨q0, q1, q2, q3, q4⟩, r0, r1, r2, r3, r4⟩ := S35.cells
                          obtain ⟨⟨y0, y1, y2, y3, y4⟩, s0, s1, s2, s3, s4⟩ := S35.zero
                          simp only at q0 q1 q2 q3 q4
                          go_wp2_with fail
                          have hres : whenD wide (L.drop k) = some (⟨3, n18, n22, n26, 7200⟩, t26) := by rw [WD.out]; unfold changeD dayD timedD; simp only [h1, h2, hn18, hd21, hn22, hd25, hn26, hs29]; rw [hc33]; rfl
                          have FO := S35.out (.int .i64 3) (.int .i64 n18) (.int .i64 n22) (.int .i64 n26) (.int .i64 7200)
                          refine bodyPost_ret (v := .tuple #[.agg #[.int .i64 3, .int .i64 n18, .int .i64 n22, .int .i64 n26, .int .i64 7200], .int .i64 (j26 : Int)]) (by simp [results, Tryd.results35, go_sem, y0, y1, y2, y3, y4]) rfl ?_
                          rw [← HR.out, hres]
                          exact ⟨⟨j26, by omega, by omega, by assumption, rfl⟩, FO⟩
                    | some tt =>
                      obtain ⟨pn, _, pt⟩ := at_cons ((j26_t).trans (takeP_some hs29))
                      have hz := hs_at ((j26_t).trans (takeP_some hs29))
                      go_wp2_with fail
                      refine (dtime_w_at L wide (j26 + 1) _ _ (by omega) hL (by omega)).mono ?_; rintro e w9 ⟨rfl, rfl⟩
                      rw [pt]
                      cases ht29 : anyD wide wide tt with
                      | none =>
                        simp only [valP, endP]
                        have S36 := S28.st 4 (.int .i64 0) (d := ⟨3, n18, n22, n26, 0⟩) rfl
                        go_wp2_with fail
                        have hres : whenD wide (L.drop k) = none := by rw [WD.out]; unfold changeD dayD timedD; simp only [h1, h2, hn18, hd21, hn22, hd25, hn26, hs29, ht29]
                        have FO := S36.out (.int .i64 3) (.int .i64 n18) (.int .i64 n22) (.int .i64 n26) (.int .i64 0)
                        refine bodyPost_ret (v := .tuple #[.agg #[.int .i64 3, .int .i64 n18, .int .i64 n22, .int .i64 n26, .int .i64 0], .int .i64 (-1)]) (by simp [results, Tryd.results35, go_sem, y0, y1, y2, y3, y4]) rfl ?_
                        rw [← HR.out, hres]
                        exact ⟨⟨⟨3, n18, n22, n26, 0⟩, rfl⟩, FO⟩
                      | some xt =>
                        obtain ⟨tm, te⟩ := xt
                        obtain ⟨je, je_1, je_2, je_t⟩ := any_at (L := L) (k := j26 + 1) (by omega) (by rw [pt]; exact ht29)
                        rw [endP_at je_2 je_t]
                        simp only [valP]
                        have S37 := S28.st 4 (.int .i64 tm) (d := ⟨3, n18, n22, n26, tm⟩) rfl
                        cases hc38 : changeB ⟨3, n18, n22, n26, tm⟩ wide with
                        | false =>
                          have CA := fun w => dchange_any ⟨3, n18, n22, n26, tm⟩ wide w
                          rw [hc38] at CA
                          unfold cA at CA
                          simp only at CA
                          go_wp2_with fail
                          refine (CA _).mono ?_; rintro e X39 ⟨rfl, u39⟩
                          clear CA
                          have S39 := S37.call u39
                          clear q0 q1 q2 q3 q4 r0 r1 r2 r3 r4 y0 y1 y2 y3 y4 s0 s1 s2 s3 s4
                          obtain ⟨⟨q0, q1, q2, q3, q4⟩, r0, r1, r2, r3, r4⟩ := S39.cells
                          obtain ⟨⟨y0, y1, y2, y3, y4⟩, s0, s1, s2, s3, s4⟩ := S39.zero
                          simp only at q0 q1 q2 q3 q4
                          go_wp2_with fail
                          have hres : whenD wide (L.drop k) = none := by rw [WD.out]; unfold changeD dayD timedD; simp only [h1, h2, hn18, hd21, hn22, hd25, hn26, hs29, ht29]; rw [hc38]; rfl
                          have FO := S39.out (.int .i64 3) (.int .i64 n18) (.int .i64 n22) (.int .i64 n26) (.int .i64 tm)
                          refine bodyPost_ret (v := .tuple #[.agg #[.int .i64 3, .int .i64 n18, .int .i64 n22, .int .i64 n26, .int .i64 tm], .int .i64 (-1)]) (by simp [results, Tryd.results35, go_sem, y0, y1, y2, y3, y4]) rfl ?_
                          rw [← HR.out, hres]
                          exact ⟨⟨⟨3, n18, n22, n26, tm⟩, rfl⟩, FO⟩
                        | true =>
                          have CA := fun w => dchange_any ⟨3, n18, n22, n26, tm⟩ wide w
                          rw [hc38] at CA
                          unfold cA at CA
                          simp only at CA
                          go_wp2_with fail
                          refine (CA _).mono ?_; rintro e X40 ⟨rfl, u40⟩
                          clear CA
                          have S40 := S37.call u40
                          clear q0 q1 q2 q3 q4 r0 r1 r2 r3 r4 y0 y1 y2 y3 y4 s0 s1 s2 s3 s4
                          obtain ⟨⟨q0, q1, q2, q3, q4⟩, r0, r1, r2, r3, r4⟩ := S40.cells
                          obtain ⟨⟨y0, y1, y2, y3, y4⟩, s0, s1, s2, s3, s4⟩ := S40.zero
                          simp only at q0 q1 q2 q3 q4
                          go_wp2_with fail
                          have hres : whenD wide (L.drop k) = some (⟨3, n18, n22, n26, tm⟩, te) := by rw [WD.out]; unfold changeD dayD timedD; simp only [h1, h2, hn18, hd21, hn22, hd25, hn26, hs29, ht29]; rw [hc38]; rfl
                          have FO := S40.out (.int .i64 3) (.int .i64 n18) (.int .i64 n22) (.int .i64 n26) (.int .i64 tm)
                          refine bodyPost_ret (v := .tuple #[.agg #[.int .i64 3, .int .i64 n18, .int .i64 n22, .int .i64 n26, .int .i64 tm], .int .i64 (je : Int)]) (by simp [results, Tryd.results35, go_sem, y0, y1, y2, y3, y4]) rfl ?_
                          rw [← HR.out, hres]
                          exact ⟨⟨je, by omega, by omega, by assumption, rfl⟩, FO⟩
        | none =>
          have ny : ((y.toNat : Int) == 74) = false := by simpa using ne_i h1
          have nz : ((y.toNat : Int) == 77) = false := by simpa using ne_i h2
          go_wp2_with fail
          cases hn41 : numD 3 (y :: t2) with
          | none =>
            refine (ddig_no (L := L) (k := k + 1) (most := 3) _ _ (by omega) rfl hL (by omega) (by decide) (by rw [p3]; exact hn41) _).mono ?_; rintro e w9 ⟨rfl, rfl⟩
            go_wp2_with fail
            have S42 := S0.st 1 (.int .i64 0) (d := ⟨2, 0, 0, 0, 7200⟩) rfl
            clear q0 q1 q2 q3 q4 r0 r1 r2 r3 r4 y0 y1 y2 y3 y4 s0 s1 s2 s3 s4 S0
            generalize World.setCell _ ⟨w.heap.size + 1, 1, none⟩ (.int .i64 0) = V42 at *
            obtain ⟨⟨q0, q1, q2, q3, q4⟩, r0, r1, r2, r3, r4⟩ := S42.cells
            obtain ⟨⟨y0, y1, y2, y3, y4⟩, s0, s1, s2, s3, s4⟩ := S42.zero
            simp only at q0 q1 q2 q3 q4
            refine wp_loop_rounds 1 ?_
            rw [rounds_succ]
            go_wp2_with fail
            have hres : whenD wide (L.drop k) = none := by rw [WD.out]; unfold changeD dayD timedD; simp only [h1, h2, hn41]
            have FO := S42.out (.int .i64 2) (.int .i64 0) (.int .i64 0) (.int .i64 0) (.int .i64 7200)
            refine bodyPost_ret (v := .tuple #[.agg #[.int .i64 2, .int .i64 0, .int .i64 0, .int .i64 0, .int .i64 7200], .int .i64 (-1)]) (by simp [results, Tryd.results35, go_sem, y0, y1, y2, y3, y4]) rfl ?_
            rw [← HR.out, hres]
            exact ⟨⟨⟨2, 0, 0, 0, 7200⟩, rfl⟩, FO⟩
          | some xx =>
            obtain ⟨n41, t41⟩ := xx
            obtain ⟨j41, j41_1, j41_2, j41_t, D41⟩ := ddig_at (k := k + 1) (most := 3) hL (by omega) (by decide) (by rw [p3]; exact hn41)
            refine (D41 _ _ (by omega) rfl _).mono ?_; rintro e w9 ⟨rfl, rfl⟩
            clear D41
            go_wp2_with fail
            have S43 := S0.st 1 (.int .i64 n41) (d := ⟨2, n41, 0, 0, 7200⟩) rfl
            clear q0 q1 q2 q3 q4 r0 r1 r2 r3 r4 y0 y1 y2 y3 y4 s0 s1 s2 s3 s4 S0
            generalize World.setCell _ ⟨w.heap.size + 1, 1, none⟩ (.int .i64 n41) = V43 at *
            obtain ⟨⟨q0, q1, q2, q3, q4⟩, r0, r1, r2, r3, r4⟩ := S43.cells
            obtain ⟨⟨y0, y1, y2, y3, y4⟩, s0, s1, s2, s3, s4⟩ := S43.zero
            simp only at q0 q1 q2 q3 q4
            refine wp_loop_rounds 1 ?_
            rw [rounds_succ]
            cases hs44 : takeP 47 t41 with
            | none =>
              have hz : ∀ q : j41 < (tx L).size, ((((tx L)[j41]'q).toNat : Int) == 47) = false := no_at 47 47 rfl (by rw [j41_t]; exact hs44)
              by_cases cl : ((j41 : Nat) : Int) < (L.length : Int)
              · skip
                cases hc45 : changeB ⟨2, n41, 0, 0, 7200⟩ wide with
                | false =>
                  have CA := fun w => dchange_any ⟨2, n41, 0, 0, 7200⟩ wide w
                  rw [hc45] at CA
                  unfold cA at CA
                  simp only at CA
                  go_wp2_with fail
                  refine (CA _).mono ?_; rintro e X46 ⟨rfl, u46⟩
                  clear CA
                  have S46 := S43.call u46
                  clear q0 q1 q2 q3 q4 r0 r1 r2 r3 r4 y0 y1 y2 y3 y4 s0 s1 s2 s3 s4
                  obtain ⟨⟨q0, q1, q2, q3, q4⟩, r0, r1, r2, r3, r4⟩ := S46.cells
                  obtain ⟨⟨y0, y1, y2, y3, y4⟩, s0, s1, s2, s3, s4⟩ := S46.zero
                  simp only at q0 q1 q2 q3 q4
                  go_wp2_with fail
                  have hres : whenD wide (L.drop k) = none := by rw [WD.out]; unfold changeD dayD timedD; simp only [h1, h2, hn41, hs44]; rw [hc45]; rfl
                  have FO := S46.out (.int .i64 2) (.int .i64 n41) (.int .i64 0) (.int .i64 0) (.int .i64 7200)
                  refine bodyPost_ret (v := .tuple #[.agg #[.int .i64 2, .int .i64 n41, .int .i64 0, .int .i64 0, .int .i64 7200], .int .i64 (-1)]) (by simp [results, Tryd.results35, go_sem, y0, y1, y2, y3, y4]) rfl ?_
                  rw [← HR.out, hres]
                  exact ⟨⟨⟨2, n41, 0, 0, 7200⟩, rfl⟩, FO⟩
                | true =>
                  have CA := fun w => dchange_any ⟨2, n41, 0, 0, 7200⟩ wide w
                  rw [hc45] at CA
                  unfold cA at CA
                  simp only at CA
                  go_wp2_with fail
                  refine (CA _).mono ?_; rintro e X47 ⟨rfl, u47⟩
                  clear CA
                  have S47 := S43.call u47
                  clear q0 q1 q2 q3 q4 r0 r1 r2 r3 r4 y0 y1 y2 y3 y4 s0 s1 s2 s3 s4
                  obtain ⟨⟨q0, q1, q2, q3, q4⟩, r0, r1, r2, r3, r4⟩ := S47.cells
                  obtain ⟨⟨y0, y1, y2, y3, y4⟩, s0, s1, s2, s3, s4⟩ := S47.zero
                  simp only at q0 q1 q2 q3 q4
                  go_wp2_with fail
                  have hres : whenD wide (L.drop k) = some (⟨2, n41, 0, 0, 7200⟩, t41) := by rw [WD.out]; unfold changeD dayD timedD; simp only [h1, h2, hn41, hs44]; rw [hc45]; rfl
                  have FO := S47.out (.int .i64 2) (.int .i64 n41) (.int .i64 0) (.int .i64 0) (.int .i64 7200)
                  refine bodyPost_ret (v := .tuple #[.agg #[.int .i64 2, .int .i64 n41, .int .i64 0, .int .i64 0, .int .i64 7200], .int .i64 (j41 : Int)]) (by simp [results, Tryd.results35, go_sem, y0, y1, y2, y3, y4]) rfl ?_
                  rw [← HR.out, hres]
                  exact ⟨⟨j41, by omega, by omega, by assumption, rfl⟩, FO⟩
              · skip
                cases hc48 : changeB ⟨2, n41, 0, 0, 7200⟩ wide with
                | false =>
                  have CA := fun w => dchange_any ⟨2, n41, 0, 0, 7200⟩ wide w
                  rw [hc48] at CA
                  unfold cA at CA
                  simp only at CA
                  go_wp2_with fail
                  refine (CA _).mono ?_; rintro e X49 ⟨rfl, u49⟩
                  clear CA
                  have S49 := S43.call u49
                  clear q0 q1 q2 q3 q4 r0 r1 r2 r3 r4 y0 y1 y2 y3 y4 s0 s1 s2 s3 s4
                  obtain ⟨⟨q0, q1, q2, q3, q4⟩, r0, r1, r2, r3, r4⟩ := S49.cells
                  obtain ⟨⟨y0, y1, y2, y3, y4⟩, s0, s1, s2, s3, s4⟩ := S49.zero
                  simp only at q0 q1 q2 q3 q4
                  go_wp2_with fail
                  have hres : whenD wide (L.drop k) = none := by rw [WD.out]; unfold changeD dayD timedD; simp only [h1, h2, hn41, hs44]; rw [hc48]; rfl
                  have FO := S49.out (.int .i64 2) (.int .i64 n41) (.int .i64 0) (.int .i64 0) (.int .i64 7200)
                  refine bodyPost_ret (v := .tuple #[.agg #[.int .i64 2, .int .i64 n41, .int .i64 0, .int .i64 0, .int .i64 7200], .int .i64 (-1)]) (by simp [results, Tryd.results35, go_sem, y0, y1, y2, y3, y4]) rfl ?_
                  rw [← HR.out, hres]
                  exact ⟨⟨⟨2, n41, 0, 0, 7200⟩, rfl⟩, FO⟩
                | true =>
                  have CA := fun w => dchange_any ⟨2, n41, 0, 0, 7200⟩ wide w
                  rw [hc48] at CA
                  unfold cA at CA
                  simp only at CA
                  go_wp2_with fail
                  refine (CA _).mono ?_; rintro e X50 ⟨rfl, u50⟩
                  clear CA
                  have S50 := S43.call u50
                  clear q0 q1 q2 q3 q4 r0 r1 r2 r3 r4 y0 y1 y2 y3 y4 s0 s1 s2 s3 s4
                  obtain ⟨⟨q0, q1, q2, q3, q4⟩, r0, r1, r2, r3, r4⟩ := S50.cells
                  obtain ⟨⟨y0, y1, y2, y3, y4⟩, s0, s1, s2, s3, s4⟩ := S50.zero
                  simp only at q0 q1 q2 q3 q4
                  go_wp2_with fail
                  have hres : whenD wide (L.drop k) = some (⟨2, n41, 0, 0, 7200⟩, t41) := by rw [WD.out]; unfold changeD dayD timedD; simp only [h1, h2, hn41, hs44]; rw [hc48]; rfl
                  have FO := S50.out (.int .i64 2) (.int .i64 n41) (.int .i64 0) (.int .i64 0) (.int .i64 7200)
                  refine bodyPost_ret (v := .tuple #[.agg #[.int .i64 2, .int .i64 n41, .int .i64 0, .int .i64 0, .int .i64 7200], .int .i64 (j41 : Int)]) (by simp [results, Tryd.results35, go_sem, y0, y1, y2, y3, y4]) rfl ?_
                  rw [← HR.out, hres]
                  exact ⟨⟨j41, by omega, by omega, by assumption, rfl⟩, FO⟩
            | some tt =>
              obtain ⟨pn, _, pt⟩ := at_cons ((j41_t).trans (takeP_some hs44))
              have hz := hs_at ((j41_t).trans (takeP_some hs44))
              go_wp2_with fail
              refine (dtime_w_at L wide (j41 + 1) _ _ (by omega) hL (by omega)).mono ?_; rintro e w9 ⟨rfl, rfl⟩
              rw [pt]
              cases ht44 : anyD wide wide tt with
              | none =>
                simp only [valP, endP]
                have S51 := S43.st 4 (.int .i64 0) (d := ⟨2, n41, 0, 0, 0⟩) rfl
                go_wp2_with fail
                have hres : whenD wide (L.drop k) = none := by rw [WD.out]; unfold changeD dayD timedD; simp only [h1, h2, hn41, hs44, ht44]
                have FO := S51.out (.int .i64 2) (.int .i64 n41) (.int .i64 0) (.int .i64 0) (.int .i64 0)
                refine bodyPost_ret (v := .tuple #[.agg #[.int .i64 2, .int .i64 n41, .int .i64 0, .int .i64 0, .int .i64 0], .int .i64 (-1)]) (by simp [results, Tryd.results35, go_sem, y0, y1, y2, y3, y4]) rfl ?_
                rw [← HR.out, hres]
                exact ⟨⟨⟨2, n41, 0, 0, 0⟩, rfl⟩, FO⟩
              | some xt =>
                obtain ⟨tm, te⟩ := xt
                obtain ⟨je, je_1, je_2, je_t⟩ := any_at (L := L) (k := j41 + 1) (by omega) (by rw [pt]; exact ht44)
                rw [endP_at je_2 je_t]
                simp only [valP]
                have S52 := S43.st 4 (.int .i64 tm) (d := ⟨2, n41, 0, 0, tm⟩) rfl
                cases hc53 : changeB ⟨2, n41, 0, 0, tm⟩ wide with
                | false =>
                  have CA := fun w => dchange_any ⟨2, n41, 0, 0, tm⟩ wide w
                  rw [hc53] at CA
                  unfold cA at CA
                  simp only at CA
                  go_wp2_with fail
                  refine (CA _).mono ?_; rintro e X54 ⟨rfl, u54⟩
                  clear CA
                  have S54 := S52.call u54
                  clear q0 q1 q2 q3 q4 r0 r1 r2 r3 r4 y0 y1 y2 y3 y4 s0 s1 s2 s3 s4
                  obtain ⟨⟨q0, q1, q2, q3, q4⟩, r0, r1, r2, r3, r4⟩ := S54.cells
                  obtain ⟨⟨y0, y1, y2, y3, y4⟩, s0, s1, s2, s3, s4⟩ := S54.zero
                  simp only at q0 q1 q2 q3 q4
                  go_wp2_with fail
                  have hres : whenD wide (L.drop k) = none := by rw [WD.out]; unfold changeD dayD timedD; simp only [h1, h2, hn41, hs44, ht44]; rw [hc53]; rfl
                  have FO := S54.out (.int .i64 2) (.int .i64 n41) (.int .i64 0) (.int .i64 0) (.int .i64 tm)
                  refine bodyPost_ret (v := .tuple #[.agg #[.int .i64 2, .int .i64 n41, .int .i64 0, .int .i64 0, .int .i64 tm], .int .i64 (-1)]) (by simp [results, Tryd.results35, go_sem, y0, y1, y2, y3, y4]) rfl ?_
                  rw [← HR.out, hres]
                  exact ⟨⟨⟨2, n41, 0, 0, tm⟩, rfl⟩, FO⟩
                | true =>
                  have CA := fun w => dchange_any ⟨2, n41, 0, 0, tm⟩ wide w
                  rw [hc53] at CA
                  unfold cA at CA
                  simp only at CA
                  go_wp2_with fail
                  refine (CA _).mono ?_; rintro e X55 ⟨rfl, u55⟩
                  clear CA
                  have S55 := S52.call u55
                  clear q0 q1 q2 q3 q4 r0 r1 r2 r3 r4 y0 y1 y2 y3 y4 s0 s1 s2 s3 s4
                  obtain ⟨⟨q0, q1, q2, q3, q4⟩, r0, r1, r2, r3, r4⟩ := S55.cells
                  obtain ⟨⟨y0, y1, y2, y3, y4⟩, s0, s1, s2, s3, s4⟩ := S55.zero
                  simp only at q0 q1 q2 q3 q4
                  go_wp2_with fail
                  have hres : whenD wide (L.drop k) = some (⟨2, n41, 0, 0, tm⟩, te) := by rw [WD.out]; unfold changeD dayD timedD; simp only [h1, h2, hn41, hs44, ht44]; rw [hc53]; rfl
                  have FO := S55.out (.int .i64 2) (.int .i64 n41) (.int .i64 0) (.int .i64 0) (.int .i64 tm)
                  refine bodyPost_ret (v := .tuple #[.agg #[.int .i64 2, .int .i64 n41, .int .i64 0, .int .i64 0, .int .i64 tm], .int .i64 (je : Int)]) (by simp [results, Tryd.results35, go_sem, y0, y1, y2, y3, y4]) rfl ?_
                  rw [← HR.out, hres]
                  exact ⟨⟨je, by omega, by omega, by assumption, rfl⟩, FO⟩
end Go.Proofs.YtalpbbgkallohaaDoor
