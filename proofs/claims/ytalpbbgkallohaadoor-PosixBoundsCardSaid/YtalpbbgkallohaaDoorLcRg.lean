/-
  What a reader takes: changes.
-/
import Derived.Test.YtalpbbgkallohaaDoorLcRe
import Derived.Test.YtalpbbgkallohaaDoorLcRj
namespace Go.Proofs.YtalpbbgkallohaaDoor
open Go.ChangeShapes Go.WideShapes Go.ChangeAt Go.RowKit Lc

theorem Gb.new {b : Nat} {w V : World} (h : Gb b w V) {k : Nat} (hk : w.heap.size ≤ k) (o : Nat) (u : Value) : Gb b w (V.setCell ⟨k, o, none⟩ u) :=
  ⟨h.os, h.tape, h.output, by rw [World.size_setCell]; exact h.size, fun j hj hne => by
    rw [Below.heap_setCell _ _ _ _ (show j ≠ k by omega)]; exact h.block j hj hne⟩
theorem Bk.oth {w : World} {k j : Nat} {cs : Array Value} {T : TypeId} (h : Bk w k cs T) (hn : k ≠ j) (o : Nat) (u : Value) : Bk (w.setCell ⟨j, o, none⟩ u) k cs T :=
  ⟨by rw [Below.heap_setCell _ _ _ _ (show k ≠ j from hn)]; exact h.1, h.2⟩
theorem In.oth {w : World} {b j : Nat} {l : List UInt8} {wide : Bool} (h : In w b l wide) (hn : b ≠ j) (o : Nat) (u : Value) : In (w.setCell ⟨j, o, none⟩ u) b l wide := ⟨h.1.oth hn o u, h.2⟩
theorem In.lt {w : World} {b : Nat} {l : List UInt8} {wide : Bool} (h : In w b l wide) : b < w.heap.size := h.1.lt
/-- A reader's call under way, with a change of its own. -/
structure Sc (w : World) (b : Nat) (wide : Bool) (V : World) (l : List UInt8) (c : Ch) : Prop where
  i : In V b l wide
  g : Gb b w V
  z : Bk V w.heap.size (cA ch0) 25
  k : Bk V (w.heap.size + 1) (cA c) 25
  lt : b < w.heap.size
theorem Sc.start {w : World} {b : Nat} {wide : Bool} {l : List UInt8} (h : In w b l wide) (c : Ch) : Sc w b wide ((w.alloc (.cells (cA ch0) 25)).alloc (.cells (cA c) 25)) l c := by
  have u1 := Up.alloc w (.cells (cA ch0) 25)
  have u2 := Up.alloc (w.alloc (.cells (cA ch0) 25)) (.cells (cA c) 25)
  have n2 := Bk.new (w.alloc (.cells (cA ch0) 25)) (cA c) 25 (by decide)
  rw [World.size_alloc] at n2
  exact ⟨(h.up u1).up u2, Gb.of (u1.trans u2), (Bk.new w _ _ (by decide)).up u2, n2, h.lt⟩
theorem Sc.call {w : World} {b : Nat} {wide : Bool} {V V' : World} {l t : List UInt8} {c : Ch} (h : Sc w b wide V l c) (i : In V' b t wide) (g : Gb b V V') : Sc w b wide V' t c :=
  ⟨i, h.g.trans g, h.z.gb g (by have := h.lt; omega), h.k.gb g (by have := h.lt; omega), h.lt⟩
theorem Sc.st {w : World} {b : Nat} {wide : Bool} {V : World} {l : List UInt8} {c d : Ch} (h : Sc w b wide V l c) (o : Nat) (u : Value) (e : (cA c).setIfInBounds o u = cA d) : Sc w b wide (V.setCell ⟨w.heap.size + 1, o, none⟩ u) l d :=
  ⟨h.i.oth (by have := h.lt; omega) o u, h.g.new (by omega) o u, h.z.oth (by omega) o u, by have := h.k.set o u; rw [e] at this; exact this, h.lt⟩
theorem Sc.cells {w : World} {b : Nat} {wide : Bool} {V : World} {l : List UInt8} {c : Ch} (h : Sc w b wide V l c) :
    (V.cell? ⟨w.heap.size + 1, 0, none⟩ = some (.int .i64 c.how) ∧ V.cell? ⟨w.heap.size + 1, 1, none⟩ = some (.int .i64 c.n) ∧ V.cell? ⟨w.heap.size + 1, 2, none⟩ = some (.int .i64 c.wk) ∧ V.cell? ⟨w.heap.size + 1, 3, none⟩ = some (.int .i64 c.wd) ∧ V.cell? ⟨w.heap.size + 1, 4, none⟩ = some (.int .i64 c.tm)) ∧
    V.frozen? ⟨w.heap.size + 1, 0, none⟩ = false ∧ V.frozen? ⟨w.heap.size + 1, 1, none⟩ = false ∧ V.frozen? ⟨w.heap.size + 1, 2, none⟩ = false ∧ V.frozen? ⟨w.heap.size + 1, 3, none⟩ = false ∧ V.frozen? ⟨w.heap.size + 1, 4, none⟩ = false :=
  ⟨Cb.bk h.k, h.k.frozen 0, h.k.frozen 1, h.k.frozen 2, h.k.frozen 3, h.k.frozen 4⟩
theorem Sc.zero {w : World} {b : Nat} {wide : Bool} {V : World} {l : List UInt8} {c : Ch} (h : Sc w b wide V l c) :
    (V.cell? ⟨w.heap.size, 0, none⟩ = some (.int .i64 0) ∧ V.cell? ⟨w.heap.size, 1, none⟩ = some (.int .i64 0) ∧ V.cell? ⟨w.heap.size, 2, none⟩ = some (.int .i64 0) ∧ V.cell? ⟨w.heap.size, 3, none⟩ = some (.int .i64 0) ∧ V.cell? ⟨w.heap.size, 4, none⟩ = some (.int .i64 0)) ∧
    V.frozen? ⟨w.heap.size, 0, none⟩ = false ∧ V.frozen? ⟨w.heap.size, 1, none⟩ = false ∧ V.frozen? ⟨w.heap.size, 2, none⟩ = false ∧ V.frozen? ⟨w.heap.size, 3, none⟩ = false ∧ V.frozen? ⟨w.heap.size, 4, none⟩ = false :=
  ⟨Cb.bk h.z, h.z.frozen 0, h.z.frozen 1, h.z.frozen 2, h.z.frozen 3, h.z.frozen 4⟩
/-- Five values stored into one block. -/
abbrev five5 (V : World) (k : Nat) (v0 v1 v2 v3 v4 : Value) : World := ((((V.setCell ⟨k, 0, none⟩ v0).setCell ⟨k, 1, none⟩ v1).setCell ⟨k, 2, none⟩ v2).setCell ⟨k, 3, none⟩ v3).setCell ⟨k, 4, none⟩ v4
theorem Sc.out {w : World} {b : Nat} {wide : Bool} {V : World} {l : List UInt8} {c : Ch} (h : Sc w b wide V l c) (v0 v1 v2 v3 v4 : Value) :
    In (five5 V w.heap.size v0 v1 v2 v3 v4) b l wide ∧ Gb b w (five5 V w.heap.size v0 v1 v2 v3 v4) := by
  have n : b ≠ w.heap.size := by have := h.lt; omega
  exact ⟨((((h.i.oth n _ _).oth n _ _).oth n _ _).oth n _ _).oth n _ _, ((((h.g.new (Nat.le_refl _) _ _).new (Nat.le_refl _) _ _).new (Nat.le_refl _) _ _).new (Nat.le_refl _) _ _).new (Nat.le_refl _) _ _⟩

set_option maxRecDepth 100000 in
set_option maxHeartbeats 8000000 in
theorem change_any (b : Nat) (wide : Bool) (l : List UInt8) (w : World) (h : In w b l wide) :
    Calls Tryd.prog 67 #[.pointer (some ⟨b, 0, none⟩)] w fun e w' => An b wide w ((changeP wide l).map fun x => (Value.agg (cA x.1), x.2)) e w' := by
  obtain ⟨R, hR⟩ : ∃ R, (changeP wide l).map (fun x => (Value.agg (cA x.1), x.2)) = R := ⟨_, rfl⟩
  rw [hR]
  have HR := Lib.hid hR
  clear hR
  have S0 := Sc.start h ⟨0, 0, 0, 0, 7200⟩
  clear h
  obtain ⟨⟨q0, q1, q2, q3, q4⟩, r0, r1, r2, r3, r4⟩ := S0.cells
  obtain ⟨⟨y0, y1, y2, y3, y4⟩, s0, s1, s2, s3, s4⟩ := S0.zero
  have cc := S0.i.c0; have cd := S0.i.c1; have cf := S0.i.f0
  simp only at q0 q1 q2 q3 q4
  go_enter Tryd.func67, Tryd.ntmps67
  go_wp2_with fail
  cases h1 : takeP 74 l with
  | some t1 =>
    refine (takes_yes b wide 74 l t1 _ S0.i h1).mono ?_
    rintro e w1 ⟨rfl, i1, g1⟩
    have S1 := S0.call i1 g1
    clear q0 q1 q2 q3 q4 r0 r1 r2 r3 r4 y0 y1 y2 y3 y4 s0 s1 s2 s3 s4 cc cd cf
    obtain ⟨⟨q0, q1, q2, q3, q4⟩, r0, r1, r2, r3, r4⟩ := S1.cells
    obtain ⟨⟨y0, y1, y2, y3, y4⟩, s0, s1, s2, s3, s4⟩ := S1.zero
    have cc := S1.i.c0; have cd := S1.i.c1; have cf := S1.i.f0
    simp only at q0 q1 q2 q3 q4
    go_wp2_with fail
    cases h2 : numP 3 t1 with
    | none =>
      refine (number_no S1.i (by decide) (by decide) h2).mono ?_
      rintro e w2 ⟨rfl, g2⟩
      go_wp2_with fail
      have hres : changeP wide l = none := by unfold changeP dayP; simp only [h1, h2]
      rw [← HR.out, hres]
      exact ⟨rfl, rfl, S1.g.trans g2⟩
    | some x2 =>
      obtain ⟨n, t2⟩ := x2
      refine (number_yes S1.i (by decide) (by decide) h2).mono ?_
      rintro e w2 ⟨rfl, i2, g2⟩
      have S2 := S1.call i2 g2
      clear q0 q1 q2 q3 q4 r0 r1 r2 r3 r4 y0 y1 y2 y3 y4 s0 s1 s2 s3 s4 cc cd cf
      obtain ⟨⟨q0, q1, q2, q3, q4⟩, r0, r1, r2, r3, r4⟩ := S2.cells
      obtain ⟨⟨y0, y1, y2, y3, y4⟩, s0, s1, s2, s3, s4⟩ := S2.zero
      have cc := S2.i.c0; have cd := S2.i.c1; have cf := S2.i.f0
      simp only at q0 q1 q2 q3 q4
      go_wp2_with fail
      have S3 := S2.st 0 (.int .i64 1) (d := ⟨1, 0, 0, 0, 7200⟩) rfl
      have S4 := S3.st 1 (.int .i64 n) (d := ⟨1, n, 0, 0, 7200⟩) rfl
      clear q0 q1 q2 q3 q4 r0 r1 r2 r3 r4 y0 y1 y2 y3 y4 s0 s1 s2 s3 s4 cc cd cf
      obtain ⟨⟨q0, q1, q2, q3, q4⟩, r0, r1, r2, r3, r4⟩ := S4.cells
      obtain ⟨⟨y0, y1, y2, y3, y4⟩, s0, s1, s2, s3, s4⟩ := S4.zero
      have cc := S4.i.c0; have cd := S4.i.c1; have cf := S4.i.f0
      simp only at q0 q1 q2 q3 q4
      cases hs : takeP 47 t2 with
      | none =>
        refine (takes_no b wide 47 t2 _ S4.i hs).mono ?_
        rintro e w5 ⟨rfl, i5, g5⟩
        have S5 := S4.call i5 g5
        clear q0 q1 q2 q3 q4 r0 r1 r2 r3 r4 y0 y1 y2 y3 y4 s0 s1 s2 s3 s4 cc cd cf
        obtain ⟨⟨q0, q1, q2, q3, q4⟩, r0, r1, r2, r3, r4⟩ := S5.cells
        obtain ⟨⟨y0, y1, y2, y3, y4⟩, s0, s1, s2, s3, s4⟩ := S5.zero
        have cc := S5.i.c0; have cd := S5.i.c1; have cf := S5.i.f0
        simp only at q0 q1 q2 q3 q4
        go_wp2_with fail
        have hres : changeP wide l = some (⟨1, n, 0, 0, 7200⟩, t2) := by unfold changeP dayP; simp only [h1, h2, hs]
        have FO := S5.out (.int .i64 1) (.int .i64 n) (.int .i64 0) (.int .i64 0) (.int .i64 7200)
        refine bodyPost_ret (v := .agg #[.int .i64 1, .int .i64 n, .int .i64 0, .int .i64 0, .int .i64 7200]) (by simp [results, Tryd.results67, go_sem, y0, y1, y2, y3, y4]) rfl ?_
        rw [← HR.out, hres]
        exact ⟨rfl, FO.1, FO.2⟩
      | some tt =>
        refine (takes_yes b wide 47 t2 tt _ S4.i hs).mono ?_
        rintro e w5 ⟨rfl, i5, g5⟩
        have S5 := S4.call i5 g5
        clear q0 q1 q2 q3 q4 r0 r1 r2 r3 r4 y0 y1 y2 y3 y4 s0 s1 s2 s3 s4 cc cd cf
        obtain ⟨⟨q0, q1, q2, q3, q4⟩, r0, r1, r2, r3, r4⟩ := S5.cells
        obtain ⟨⟨y0, y1, y2, y3, y4⟩, s0, s1, s2, s3, s4⟩ := S5.zero
        have cc := S5.i.c0; have cd := S5.i.c1; have cf := S5.i.f0
        simp only at q0 q1 q2 q3 q4
        go_wp2_with fail
        cases ht : timeP wide tt with
        | none =>
          refine (time_no S5.i ht).mono ?_
          rintro e w6 ⟨rfl, g6⟩
          go_wp2_with fail
          have hres : changeP wide l = none := by unfold changeP dayP; simp only [h1, h2, hs, ht]
          rw [← HR.out, hres]
          exact ⟨rfl, rfl, S5.g.trans g6⟩
        | some xt =>
          obtain ⟨tm, te⟩ := xt
          refine (time_yes S5.i ht).mono ?_
          rintro e w6 ⟨rfl, i6, g6⟩
          have S6 := S5.call i6 g6
          clear q0 q1 q2 q3 q4 r0 r1 r2 r3 r4 y0 y1 y2 y3 y4 s0 s1 s2 s3 s4 cc cd cf
          obtain ⟨⟨q0, q1, q2, q3, q4⟩, r0, r1, r2, r3, r4⟩ := S6.cells
          obtain ⟨⟨y0, y1, y2, y3, y4⟩, s0, s1, s2, s3, s4⟩ := S6.zero
          have cc := S6.i.c0; have cd := S6.i.c1; have cf := S6.i.f0
          simp only at q0 q1 q2 q3 q4
          go_wp2_with fail
          have S7 := S6.st 4 (.int .i64 tm) (d := ⟨1, n, 0, 0, tm⟩) rfl
          have hres : changeP wide l = some (⟨1, n, 0, 0, tm⟩, te) := by unfold changeP dayP; simp only [h1, h2, hs, ht]
          have FO := S7.out (.int .i64 1) (.int .i64 n) (.int .i64 0) (.int .i64 0) (.int .i64 tm)
          refine bodyPost_ret (v := .agg #[.int .i64 1, .int .i64 n, .int .i64 0, .int .i64 0, .int .i64 tm]) (by simp [results, Tryd.results67, go_sem, y0, y1, y2, y3, y4]) rfl ?_
          rw [← HR.out, hres]
          exact ⟨rfl, FO.1, FO.2⟩
  | none =>
    refine (takes_no b wide 74 l _ S0.i h1).mono ?_
    rintro e w1 ⟨rfl, i1, g1⟩
    have S1 := S0.call i1 g1
    clear q0 q1 q2 q3 q4 r0 r1 r2 r3 r4 y0 y1 y2 y3 y4 s0 s1 s2 s3 s4 cc cd cf
    obtain ⟨⟨q0, q1, q2, q3, q4⟩, r0, r1, r2, r3, r4⟩ := S1.cells
    obtain ⟨⟨y0, y1, y2, y3, y4⟩, s0, s1, s2, s3, s4⟩ := S1.zero
    have cc := S1.i.c0; have cd := S1.i.c1; have cf := S1.i.f0
    simp only at q0 q1 q2 q3 q4
    go_wp2_with fail
    cases h2 : takeP 77 l with
    | some t2 =>
      refine (takes_yes b wide 77 l t2 _ S1.i h2).mono ?_
      rintro e w2 ⟨rfl, i2, g2⟩
      have S2 := S1.call i2 g2
      clear q0 q1 q2 q3 q4 r0 r1 r2 r3 r4 y0 y1 y2 y3 y4 s0 s1 s2 s3 s4 cc cd cf
      obtain ⟨⟨q0, q1, q2, q3, q4⟩, r0, r1, r2, r3, r4⟩ := S2.cells
      obtain ⟨⟨y0, y1, y2, y3, y4⟩, s0, s1, s2, s3, s4⟩ := S2.zero
      have cc := S2.i.c0; have cd := S2.i.c1; have cf := S2.i.f0
      simp only at q0 q1 q2 q3 q4
      go_wp2_with fail
      cases h3 : numP 3 t2 with
      | none =>
        refine (number_no S2.i (by decide) (by decide) h3).mono ?_
        rintro e w3 ⟨rfl, g3⟩
        go_wp2_with fail
        have hres : changeP wide l = none := by unfold changeP dayP; simp only [h1, h2, h3]
        rw [← HR.out, hres]
        exact ⟨rfl, rfl, S2.g.trans g3⟩
      | some x3 =>
        obtain ⟨n, t3⟩ := x3
        refine (number_yes S2.i (by decide) (by decide) h3).mono ?_
        rintro e w3 ⟨rfl, i3, g3⟩
        have S3 := S2.call i3 g3
        clear q0 q1 q2 q3 q4 r0 r1 r2 r3 r4 y0 y1 y2 y3 y4 s0 s1 s2 s3 s4 cc cd cf
        obtain ⟨⟨q0, q1, q2, q3, q4⟩, r0, r1, r2, r3, r4⟩ := S3.cells
        obtain ⟨⟨y0, y1, y2, y3, y4⟩, s0, s1, s2, s3, s4⟩ := S3.zero
        have cc := S3.i.c0; have cd := S3.i.c1; have cf := S3.i.f0
        simp only at q0 q1 q2 q3 q4
        go_wp2_with fail
        have S4 := S3.st 0 (.int .i64 3) (d := ⟨3, 0, 0, 0, 7200⟩) rfl
        have S5 := S4.st 1 (.int .i64 n) (d := ⟨3, n, 0, 0, 7200⟩) rfl
        clear q0 q1 q2 q3 q4 r0 r1 r2 r3 r4 y0 y1 y2 y3 y4 s0 s1 s2 s3 s4 cc cd cf
        obtain ⟨⟨q0, q1, q2, q3, q4⟩, r0, r1, r2, r3, r4⟩ := S5.cells
        obtain ⟨⟨y0, y1, y2, y3, y4⟩, s0, s1, s2, s3, s4⟩ := S5.zero
        have cc := S5.i.c0; have cd := S5.i.c1; have cf := S5.i.f0
        simp only at q0 q1 q2 q3 q4
        cases h4 : takeP 46 t3 with
        | none =>
          refine (needs_no b wide 46 t3 _ S5.i h4).mono ?_
          rintro e w6 ⟨rfl, g6⟩
          go_wp2_with fail
          have hres : changeP wide l = none := by unfold changeP dayP; simp only [h1, h2, h3, h4]
          rw [← HR.out, hres]
          exact ⟨rfl, rfl, S5.g.trans g6⟩
        | some st5 =>
          refine (needs_yes b wide 46 t3 st5 _ S5.i h4).mono ?_
          rintro e w6 ⟨rfl, i6, g6⟩
          have S6 := S5.call i6 g6
          clear q0 q1 q2 q3 q4 r0 r1 r2 r3 r4 y0 y1 y2 y3 y4 s0 s1 s2 s3 s4 cc cd cf
          obtain ⟨⟨q0, q1, q2, q3, q4⟩, r0, r1, r2, r3, r4⟩ := S6.cells
          obtain ⟨⟨y0, y1, y2, y3, y4⟩, s0, s1, s2, s3, s4⟩ := S6.zero
          have cc := S6.i.c0; have cd := S6.i.c1; have cf := S6.i.f0
          simp only at q0 q1 q2 q3 q4
          go_wp2_with fail
          cases h5 : numP 3 st5 with
          | none =>
            refine (number_no S6.i (by decide) (by decide) h5).mono ?_
            rintro e w7 ⟨rfl, g7⟩
            go_wp2_with fail
            have hres : changeP wide l = none := by unfold changeP dayP; simp only [h1, h2, h3, h4, h5]
            rw [← HR.out, hres]
            exact ⟨rfl, rfl, S6.g.trans g7⟩
          | some xt5 =>
            obtain ⟨k, t5⟩ := xt5
            refine (number_yes S6.i (by decide) (by decide) h5).mono ?_
            rintro e w7 ⟨rfl, i7, g7⟩
            have S7 := S6.call i7 g7
            clear q0 q1 q2 q3 q4 r0 r1 r2 r3 r4 y0 y1 y2 y3 y4 s0 s1 s2 s3 s4 cc cd cf
            obtain ⟨⟨q0, q1, q2, q3, q4⟩, r0, r1, r2, r3, r4⟩ := S7.cells
            obtain ⟨⟨y0, y1, y2, y3, y4⟩, s0, s1, s2, s3, s4⟩ := S7.zero
            have cc := S7.i.c0; have cd := S7.i.c1; have cf := S7.i.f0
            simp only at q0 q1 q2 q3 q4
            go_wp2_with fail
            have S8 := S7.st 2 (.int .i64 k) (d := ⟨3, n, k, 0, 7200⟩) rfl
            clear q0 q1 q2 q3 q4 r0 r1 r2 r3 r4 y0 y1 y2 y3 y4 s0 s1 s2 s3 s4 cc cd cf
            obtain ⟨⟨q0, q1, q2, q3, q4⟩, r0, r1, r2, r3, r4⟩ := S8.cells
            obtain ⟨⟨y0, y1, y2, y3, y4⟩, s0, s1, s2, s3, s4⟩ := S8.zero
            have cc := S8.i.c0; have cd := S8.i.c1; have cf := S8.i.f0
            simp only at q0 q1 q2 q3 q4
            cases h6 : takeP 46 t5 with
            | none =>
              refine (needs_no b wide 46 t5 _ S8.i h6).mono ?_
              rintro e w9 ⟨rfl, g9⟩
              go_wp2_with fail
              have hres : changeP wide l = none := by unfold changeP dayP; simp only [h1, h2, h3, h4, h5, h6]
              rw [← HR.out, hres]
              exact ⟨rfl, rfl, S8.g.trans g9⟩
            | some st7 =>
              refine (needs_yes b wide 46 t5 st7 _ S8.i h6).mono ?_
              rintro e w9 ⟨rfl, i9, g9⟩
              have S9 := S8.call i9 g9
              clear q0 q1 q2 q3 q4 r0 r1 r2 r3 r4 y0 y1 y2 y3 y4 s0 s1 s2 s3 s4 cc cd cf
              obtain ⟨⟨q0, q1, q2, q3, q4⟩, r0, r1, r2, r3, r4⟩ := S9.cells
              obtain ⟨⟨y0, y1, y2, y3, y4⟩, s0, s1, s2, s3, s4⟩ := S9.zero
              have cc := S9.i.c0; have cd := S9.i.c1; have cf := S9.i.f0
              simp only at q0 q1 q2 q3 q4
              go_wp2_with fail
              cases h7 : numP 3 st7 with
              | none =>
                refine (number_no S9.i (by decide) (by decide) h7).mono ?_
                rintro e w10 ⟨rfl, g10⟩
                go_wp2_with fail
                have hres : changeP wide l = none := by unfold changeP dayP; simp only [h1, h2, h3, h4, h5, h6, h7]
                rw [← HR.out, hres]
                exact ⟨rfl, rfl, S9.g.trans g10⟩
              | some xt7 =>
                obtain ⟨d, t7⟩ := xt7
                refine (number_yes S9.i (by decide) (by decide) h7).mono ?_
                rintro e w10 ⟨rfl, i10, g10⟩
                have S10 := S9.call i10 g10
                clear q0 q1 q2 q3 q4 r0 r1 r2 r3 r4 y0 y1 y2 y3 y4 s0 s1 s2 s3 s4 cc cd cf
                obtain ⟨⟨q0, q1, q2, q3, q4⟩, r0, r1, r2, r3, r4⟩ := S10.cells
                obtain ⟨⟨y0, y1, y2, y3, y4⟩, s0, s1, s2, s3, s4⟩ := S10.zero
                have cc := S10.i.c0; have cd := S10.i.c1; have cf := S10.i.f0
                simp only at q0 q1 q2 q3 q4
                go_wp2_with fail
                have S11 := S10.st 3 (.int .i64 d) (d := ⟨3, n, k, d, 7200⟩) rfl
                clear q0 q1 q2 q3 q4 r0 r1 r2 r3 r4 y0 y1 y2 y3 y4 s0 s1 s2 s3 s4 cc cd cf
                obtain ⟨⟨q0, q1, q2, q3, q4⟩, r0, r1, r2, r3, r4⟩ := S11.cells
                obtain ⟨⟨y0, y1, y2, y3, y4⟩, s0, s1, s2, s3, s4⟩ := S11.zero
                have cc := S11.i.c0; have cd := S11.i.c1; have cf := S11.i.f0
                simp only at q0 q1 q2 q3 q4
                cases hs : takeP 47 t7 with
                | none =>
                  refine (takes_no b wide 47 t7 _ S11.i hs).mono ?_
                  rintro e w12 ⟨rfl, i12, g12⟩
                  have S12 := S11.call i12 g12
                  clear q0 q1 q2 q3 q4 r0 r1 r2 r3 r4 y0 y1 y2 y3 y4 s0 s1 s2 s3 s4 cc cd cf
                  obtain ⟨⟨q0, q1, q2, q3, q4⟩, r0, r1, r2, r3, r4⟩ := S12.cells
                  obtain ⟨⟨y0, y1, y2, y3, y4⟩, s0, s1, s2, s3, s4⟩ := S12.zero
                  have cc := S12.i.c0; have cd := S12.i.c1; have cf := S12.i.f0
                  simp only at q0 q1 q2 q3 q4
                  go_wp2_with fail
                  have hres : changeP wide l = some (⟨3, n, k, d, 7200⟩, t7) := by unfold changeP dayP; simp only [h1, h2, h3, h4, h5, h6, h7, hs]
                  have FO := S12.out (.int .i64 3) (.int .i64 n) (.int .i64 k) (.int .i64 d) (.int .i64 7200)
                  refine bodyPost_ret (v := .agg #[.int .i64 3, .int .i64 n, .int .i64 k, .int .i64 d, .int .i64 7200]) (by simp [results, Tryd.results67, go_sem, y0, y1, y2, y3, y4]) rfl ?_
                  rw [← HR.out, hres]
                  exact ⟨rfl, FO.1, FO.2⟩
                | some tt =>
                  refine (takes_yes b wide 47 t7 tt _ S11.i hs).mono ?_
                  rintro e w12 ⟨rfl, i12, g12⟩
                  have S12 := S11.call i12 g12
                  clear q0 q1 q2 q3 q4 r0 r1 r2 r3 r4 y0 y1 y2 y3 y4 s0 s1 s2 s3 s4 cc cd cf
                  obtain ⟨⟨q0, q1, q2, q3, q4⟩, r0, r1, r2, r3, r4⟩ := S12.cells
                  obtain ⟨⟨y0, y1, y2, y3, y4⟩, s0, s1, s2, s3, s4⟩ := S12.zero
                  have cc := S12.i.c0; have cd := S12.i.c1; have cf := S12.i.f0
                  simp only at q0 q1 q2 q3 q4
                  go_wp2_with fail
                  cases ht : timeP wide tt with
                  | none =>
                    refine (time_no S12.i ht).mono ?_
                    rintro e w13 ⟨rfl, g13⟩
                    go_wp2_with fail
                    have hres : changeP wide l = none := by unfold changeP dayP; simp only [h1, h2, h3, h4, h5, h6, h7, hs, ht]
                    rw [← HR.out, hres]
                    exact ⟨rfl, rfl, S12.g.trans g13⟩
                  | some xt =>
                    obtain ⟨tm, te⟩ := xt
                    refine (time_yes S12.i ht).mono ?_
                    rintro e w13 ⟨rfl, i13, g13⟩
                    have S13 := S12.call i13 g13
                    clear q0 q1 q2 q3 q4 r0 r1 r2 r3 r4 y0 y1 y2 y3 y4 s0 s1 s2 s3 s4 cc cd cf
                    obtain ⟨⟨q0, q1, q2, q3, q4⟩, r0, r1, r2, r3, r4⟩ := S13.cells
                    obtain ⟨⟨y0, y1, y2, y3, y4⟩, s0, s1, s2, s3, s4⟩ := S13.zero
                    have cc := S13.i.c0; have cd := S13.i.c1; have cf := S13.i.f0
                    simp only at q0 q1 q2 q3 q4
                    go_wp2_with fail
                    have S14 := S13.st 4 (.int .i64 tm) (d := ⟨3, n, k, d, tm⟩) rfl
                    have hres : changeP wide l = some (⟨3, n, k, d, tm⟩, te) := by unfold changeP dayP; simp only [h1, h2, h3, h4, h5, h6, h7, hs, ht]
                    have FO := S14.out (.int .i64 3) (.int .i64 n) (.int .i64 k) (.int .i64 d) (.int .i64 tm)
                    refine bodyPost_ret (v := .agg #[.int .i64 3, .int .i64 n, .int .i64 k, .int .i64 d, .int .i64 tm]) (by simp [results, Tryd.results67, go_sem, y0, y1, y2, y3, y4]) rfl ?_
                    rw [← HR.out, hres]
                    exact ⟨rfl, FO.1, FO.2⟩
    | none =>
      refine (takes_no b wide 77 l _ S1.i h2).mono ?_
      rintro e w2 ⟨rfl, i2, g2⟩
      have S2 := S1.call i2 g2
      clear q0 q1 q2 q3 q4 r0 r1 r2 r3 r4 y0 y1 y2 y3 y4 s0 s1 s2 s3 s4 cc cd cf
      obtain ⟨⟨q0, q1, q2, q3, q4⟩, r0, r1, r2, r3, r4⟩ := S2.cells
      obtain ⟨⟨y0, y1, y2, y3, y4⟩, s0, s1, s2, s3, s4⟩ := S2.zero
      have cc := S2.i.c0; have cd := S2.i.c1; have cf := S2.i.f0
      simp only at q0 q1 q2 q3 q4
      go_wp2_with fail
      cases h3 : numP 3 l with
      | none =>
        refine (number_no S2.i (by decide) (by decide) h3).mono ?_
        rintro e w3 ⟨rfl, g3⟩
        go_wp2_with fail
        have hres : changeP wide l = none := by unfold changeP dayP; simp only [h1, h2, h3]
        rw [← HR.out, hres]
        exact ⟨rfl, rfl, S2.g.trans g3⟩
      | some x3 =>
        obtain ⟨n, t3⟩ := x3
        refine (number_yes S2.i (by decide) (by decide) h3).mono ?_
        rintro e w3 ⟨rfl, i3, g3⟩
        have S3 := S2.call i3 g3
        clear q0 q1 q2 q3 q4 r0 r1 r2 r3 r4 y0 y1 y2 y3 y4 s0 s1 s2 s3 s4 cc cd cf
        obtain ⟨⟨q0, q1, q2, q3, q4⟩, r0, r1, r2, r3, r4⟩ := S3.cells
        obtain ⟨⟨y0, y1, y2, y3, y4⟩, s0, s1, s2, s3, s4⟩ := S3.zero
        have cc := S3.i.c0; have cd := S3.i.c1; have cf := S3.i.f0
        simp only at q0 q1 q2 q3 q4
        go_wp2_with fail
        have S4 := S3.st 0 (.int .i64 2) (d := ⟨2, 0, 0, 0, 7200⟩) rfl
        have S5 := S4.st 1 (.int .i64 n) (d := ⟨2, n, 0, 0, 7200⟩) rfl
        clear q0 q1 q2 q3 q4 r0 r1 r2 r3 r4 y0 y1 y2 y3 y4 s0 s1 s2 s3 s4 cc cd cf
        obtain ⟨⟨q0, q1, q2, q3, q4⟩, r0, r1, r2, r3, r4⟩ := S5.cells
        obtain ⟨⟨y0, y1, y2, y3, y4⟩, s0, s1, s2, s3, s4⟩ := S5.zero
        have cc := S5.i.c0; have cd := S5.i.c1; have cf := S5.i.f0
        simp only at q0 q1 q2 q3 q4
        cases hs : takeP 47 t3 with
        | none =>
          refine (takes_no b wide 47 t3 _ S5.i hs).mono ?_
          rintro e w6 ⟨rfl, i6, g6⟩
          have S6 := S5.call i6 g6
          clear q0 q1 q2 q3 q4 r0 r1 r2 r3 r4 y0 y1 y2 y3 y4 s0 s1 s2 s3 s4 cc cd cf
          obtain ⟨⟨q0, q1, q2, q3, q4⟩, r0, r1, r2, r3, r4⟩ := S6.cells
          obtain ⟨⟨y0, y1, y2, y3, y4⟩, s0, s1, s2, s3, s4⟩ := S6.zero
          have cc := S6.i.c0; have cd := S6.i.c1; have cf := S6.i.f0
          simp only at q0 q1 q2 q3 q4
          go_wp2_with fail
          have hres : changeP wide l = some (⟨2, n, 0, 0, 7200⟩, t3) := by unfold changeP dayP; simp only [h1, h2, h3, hs]
          have FO := S6.out (.int .i64 2) (.int .i64 n) (.int .i64 0) (.int .i64 0) (.int .i64 7200)
          refine bodyPost_ret (v := .agg #[.int .i64 2, .int .i64 n, .int .i64 0, .int .i64 0, .int .i64 7200]) (by simp [results, Tryd.results67, go_sem, y0, y1, y2, y3, y4]) rfl ?_
          rw [← HR.out, hres]
          exact ⟨rfl, FO.1, FO.2⟩
        | some tt =>
          refine (takes_yes b wide 47 t3 tt _ S5.i hs).mono ?_
          rintro e w6 ⟨rfl, i6, g6⟩
          have S6 := S5.call i6 g6
          clear q0 q1 q2 q3 q4 r0 r1 r2 r3 r4 y0 y1 y2 y3 y4 s0 s1 s2 s3 s4 cc cd cf
          obtain ⟨⟨q0, q1, q2, q3, q4⟩, r0, r1, r2, r3, r4⟩ := S6.cells
          obtain ⟨⟨y0, y1, y2, y3, y4⟩, s0, s1, s2, s3, s4⟩ := S6.zero
          have cc := S6.i.c0; have cd := S6.i.c1; have cf := S6.i.f0
          simp only at q0 q1 q2 q3 q4
          go_wp2_with fail
          cases ht : timeP wide tt with
          | none =>
            refine (time_no S6.i ht).mono ?_
            rintro e w7 ⟨rfl, g7⟩
            go_wp2_with fail
            have hres : changeP wide l = none := by unfold changeP dayP; simp only [h1, h2, h3, hs, ht]
            rw [← HR.out, hres]
            exact ⟨rfl, rfl, S6.g.trans g7⟩
          | some xt =>
            obtain ⟨tm, te⟩ := xt
            refine (time_yes S6.i ht).mono ?_
            rintro e w7 ⟨rfl, i7, g7⟩
            have S7 := S6.call i7 g7
            clear q0 q1 q2 q3 q4 r0 r1 r2 r3 r4 y0 y1 y2 y3 y4 s0 s1 s2 s3 s4 cc cd cf
            obtain ⟨⟨q0, q1, q2, q3, q4⟩, r0, r1, r2, r3, r4⟩ := S7.cells
            obtain ⟨⟨y0, y1, y2, y3, y4⟩, s0, s1, s2, s3, s4⟩ := S7.zero
            have cc := S7.i.c0; have cd := S7.i.c1; have cf := S7.i.f0
            simp only at q0 q1 q2 q3 q4
            go_wp2_with fail
            have S8 := S7.st 4 (.int .i64 tm) (d := ⟨2, n, 0, 0, tm⟩) rfl
            have hres : changeP wide l = some (⟨2, n, 0, 0, tm⟩, te) := by unfold changeP dayP; simp only [h1, h2, h3, hs, ht]
            have FO := S8.out (.int .i64 2) (.int .i64 n) (.int .i64 0) (.int .i64 0) (.int .i64 tm)
            refine bodyPost_ret (v := .agg #[.int .i64 2, .int .i64 n, .int .i64 0, .int .i64 0, .int .i64 tm]) (by simp [results, Tryd.results67, go_sem, y0, y1, y2, y3, y4]) rfl ?_
            rw [← HR.out, hres]
            exact ⟨rfl, FO.1, FO.2⟩
theorem change_no {b : Nat} {wide : Bool} {l : List UInt8} {w : World} (h : In w b l wide) (q : changeP wide l = none) :
    Calls Tryd.prog 67 #[.pointer (some ⟨b, 0, none⟩)] w fun e w' => e = .panicked pn4 ∧ Gb b w w' := by
  have := change_any b wide l w h
  rw [q] at this; exact this
theorem change_yes {b : Nat} {wide : Bool} {l t : List UInt8} {c : Ch} {w : World} (h : In w b l wide) (q : changeP wide l = some (c, t)) :
    Calls Tryd.prog 67 #[.pointer (some ⟨b, 0, none⟩)] w fun e w' => e = .returned (.agg (cA c)) ∧ In w' b t wide ∧ Gb b w w' := by
  have := change_any b wide l w h
  rw [q] at this; exact this
end Go.Proofs.YtalpbbgkallohaaDoor
