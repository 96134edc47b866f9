/-
  The document's own answer of layer 8: Parse.
-/
import Derived.Test.YtalpbbgkallohaaDoorLcDi
import Derived.Test.YtalpbbgkallohaaDoorLcDgO
import Derived.Test.YtalpbbgkallohaaDoorLcDb
import Derived.Test.YtalpbbgkallohaaDoorLcRr
import Derived.Test.YtalpbbgkallohaaDoorLcPa
import Derived.Deep.Cut
namespace Go.Proofs.YtalpbbgkallohaaDoor
open Go.ChangeShapes Go.WideShapes Go.ChangeAt Go.RowKit Lc

set_option maxRecDepth 100000 in
theorem wpList_bl {ops : Array Oper} {rest : List Oper} {o : Oper} {a : Act} {w : World} {Q : Exit → Act → World → Prop} (hg : o.guard = none) (ho : o.op = .build 27 #[])
    (kk : wpList Tryd.prog ops Q rest (a.put o.dst (.agg (rA ru0))) w) : wpList Tryd.prog ops Q (o :: rest) a w := by
  have b0 : Tryd.prog.built 27 ([] : List (Nat × Value)) = some (rA ru0) := by kernel_rfl
  have b : Tryd.prog.built 27 ((#[] : Array (Nat × Operand)).map fun (i, x) => (i, a.eval x)).toList = some (rA ru0) := by
    rw [← b0]; simp
  refine wpList_build hg 27 #[] ho ?_ ?_
  · rw [b]; rfl
  · rw [b]; exact kk
/-- A call under way, with a rule of its own. -/
structure Dp (w V : World) (r : Ru) : Prop where
  u : Up w V
  z : Bk V w.heap.size (rA ru0) 27
  k : Bk V (w.heap.size + 1) (rA r) 27
theorem Dp.start (w : World) (r : Ru) : Dp w ((w.alloc (.cells (rA ru0) 27)).alloc (.cells (rA r) 27)) r := by
  have u1 := Up.alloc w (.cells (rA ru0) 27)
  have u2 := Up.alloc (w.alloc (.cells (rA ru0) 27)) (.cells (rA r) 27)
  have n2 := Bk.new (w.alloc (.cells (rA ru0) 27)) (rA r) 27 (by decide)
  rw [World.size_alloc] at n2
  exact ⟨u1.trans u2, (Bk.new w _ _ (by decide)).up u2, n2⟩
theorem Dp.call {w V V' : World} {r : Ru} (h : Dp w V r) (g : Up V V') : Dp w V' r := ⟨h.u.trans g, h.z.up g, h.k.up g⟩
theorem Dp.st {w V : World} {r d : Ru} (h : Dp w V r) (o : Nat) (u : Value) (e : (rA r).setIfInBounds o u = rA d) : Dp w (V.setCell ⟨w.heap.size + 1, o, none⟩ u) d :=
  ⟨h.u.set5 (by omega) o u, h.z.oth (by omega) o u, by have := h.k.set o u; rw [e] at this; exact this⟩
def resD (R : Option Ru) : Ending := match R with | none => .returned (.tuple #[.agg (rA ru0), .bool false]) | some r => .returned (.tuple #[.agg (rA r), .bool true])
theorem dword_no' {L : List UInt8} {k : Nat} (i : Int) (hi : i = (k : Int)) (hL : L.length ≤ 100000) (hk : k ≤ L.length) (q : nameD (L.drop k) = none) (w : World) :
    Calls Tryd.prog 33 #[.string (tx L), .int .i64 i] w fun e w' => e = .returned (.tuple #[.string ⟨#[]⟩, .int .i64 (-1)]) ∧ w = w' := by subst hi; exact dword_no hL hk q w
theorem dword_yes' {L m t : List UInt8} {k : Nat} (hL : L.length ≤ 100000) (hk : k ≤ L.length) (q : nameD (L.drop k) = some (m, t)) :
    ∃ j : Nat, k < j ∧ j ≤ L.length ∧ L.drop j = t ∧ ∀ (i : Int), i = (k : Int) → ∀ w, Calls Tryd.prog 33 #[.string (tx L), .int .i64 i] w fun e w' => e = .returned (.tuple #[.string (tx m), .int .i64 (j : Int)]) ∧ w = w' := by
  obtain ⟨j, a, b, c, D⟩ := dword_yes hL hk q
  exact ⟨j, a, b, c, fun i hi w => by subst hi; exact D w⟩
theorem nameD_len {l m t : List UInt8} (q : nameD l = some (m, t)) : m.length ≤ 20 := by
  unfold nameD at q
  split at q
  · cases q
  · split at q
    · rename_i b
      simp only [Option.some.injEq, Prod.mk.injEq] at q
      obtain ⟨rfl, rfl⟩ := q
      unfold nameB at b
      simp only [Bool.and_eq_true, decide_eq_true_eq] at b
      omega
    · cases q
set_option maxRecDepth 100000 in
set_option maxHeartbeats 16000000 in
theorem dparse_any (L : List UInt8) (wide : Bool) (w : World) (hL : L.length ≤ 100000) :
    Calls Tryd.prog 19 #[.string (tx L), .bool wide] w fun e w' => e = resD (wholeD wide L) ∧ Up w w' := by
  obtain ⟨R, hR⟩ : ∃ R, wholeD wide L = R := ⟨_, rfl⟩
  rw [hR]
  have HR := Lib.hid hR
  clear hR
  have hsz := tx_size L
  have S0 := Dp.start w ru0
  rw [ru0_lit] at S0
  go_enter Tryd.func19, Tryd.ntmps19
  go_upto_region 2 with (fail)
  generalize World.alloc (World.alloc w _) _ = W0 at *
  have q2 : W0.cell? ⟨w.heap.size + 1, 2, none⟩ = some (.string ⟨#[]⟩) := S0.k.cell 2
  have r2 : W0.frozen? ⟨w.heap.size + 1, 2, none⟩ = false := S0.k.frozen 2
  go_wp2_with fail
  cases h1 : nameD L with
  | none =>
    refine (dword_no' (k := 0) _ (by omega) hL (by omega) (by rw [List.drop_zero]; exact h1) _).mono ?_; rintro e w9 ⟨rfl, rfl⟩
    have S1 := S0.st 2 (.string ⟨#[]⟩) (d := mkR (0) (false) ([]) (0) (false) ([]) (false) (0) (0) (0) (0) (0) (0) (0) (0) (0) (0)) rfl
    go_upto_region 5 with (fail)
    clear S0
    clear q2 r2
    generalize World.setCell _ ⟨w.heap.size + 1, 2, none⟩ (.string ⟨#[]⟩) = V1 at *
    have hres : wholeD wide L = none := by unfold wholeD offD' offD whenD; simp only [h1]
    refine wp_region_lit ?_
    refine wpList_bl rfl rfl ?_
    refine wpList_st rfl 4 22 w.heap.size ru0 ru0 27 rfl rfl S1.z rfl rfl ?_
    have OG := putR_up (r := ru0) S1.u (Nat.le_refl _)
    have ZB := putR_bk (r := ru0) S1.z
    clear S1
    generalize PutR _ w.heap.size ru0 = VV at *
    go_wp2_with fail
    refine bodyPost_ret (v := .tuple #[.agg (rA ru0), .bool false]) (res_mix _ 4 5 Tryd.results19 _ _ w.heap.size _ _ _ rfl rfl ZB) rfl ?_
    rw [← HR.out, hres]
    exact ⟨rfl, OG⟩
  | some x1 =>
    obtain ⟨m, t⟩ := x1
    have ml := nameD_len h1
    obtain ⟨j1, j1_1, j1_2, j1_t, D⟩ := dword_yes' (k := 0) hL (by omega) (by rw [List.drop_zero]; exact h1)
    refine (D _ (by omega) _).mono ?_; rintro e w9 ⟨rfl, rfl⟩
    clear D
    have S1 := S0.st 2 (.string (tx m)) (d := mkR (0) (false) (m) (0) (false) ([]) (false) (0) (0) (0) (0) (0) (0) (0) (0) (0) (0)) rfl
    go_wp2_with fail
    clear S0
    clear q2 r2
    generalize World.setCell _ ⟨w.heap.size + 1, 2, none⟩ (.string (tx m)) = V1 at *
    refine (dtime_o L j1 _ hL j1_2).mono ?_; rintro e w9 ⟨rfl, rfl⟩
    rw [j1_t]
    cases h2 : anyD true false t with
    | none =>
      simp only [valP, endP]
      go_upto_region 8 with (fail)
      have hres : wholeD wide L = none := by unfold wholeD offD' offD whenD; simp only [h1, h2]
      refine wp_region_lit ?_
      refine wpList_bl rfl rfl ?_
      refine wpList_st rfl 4 31 w.heap.size ru0 ru0 27 rfl rfl S1.z rfl rfl ?_
      have OG := putR_up (r := ru0) S1.u (Nat.le_refl _)
      have ZB := putR_bk (r := ru0) S1.z
      clear S1
      generalize PutR _ w.heap.size ru0 = VV at *
      go_wp2_with fail
      refine bodyPost_ret (v := .tuple #[.agg (rA ru0), .bool false]) (res_mix _ 4 5 Tryd.results19 _ _ w.heap.size _ _ _ rfl rfl ZB) rfl ?_
      rw [← HR.out, hres]
      exact ⟨rfl, OG⟩
    | some x2 =>
      obtain ⟨x, t1⟩ := x2
      have xb := anyD_bd h2
      obtain ⟨j2, j2_1, j2_2, j2_t⟩ := any_at (L := L) (k := j1) j1_2 (by rw [j1_t]; exact h2)
      rw [endP_at j2_2 j2_t]
      simp only [valP]
      have wn : wrap64 (-x) = -x := wrap_fit (fitB_true.2 (by omega))
      have ww : wrap64 (-x + 3600) = -x + 3600 := wrap_fit (fitB_true.2 (by omega))
      have q0 : V1.cell? ⟨w.heap.size + 1, 0, none⟩ = some (.int .i64 (0)) := S1.k.cell 0
      have r0 : V1.frozen? ⟨w.heap.size + 1, 0, none⟩ = false := S1.k.frozen 0
      by_cases h3 : t1 = []
      · have z3 : ((j2 : Int) == (L.length : Int)) = true := by rw [h3] at j2_t; have := at_nil j2_t; simp; omega
        have H3 := Lib.hid h3
        clear h3
        have S2 := S1.st 0 (.int .i64 (-x)) (d := mkR (-x) (false) (m) (0) (false) ([]) (false) (0) (0) (0) (0) (0) (0) (0) (0) (0) (0)) rfl
        go_upto_region 11 with (fail)
        clear S1
        clear q0 r0
        generalize World.setCell _ ⟨w.heap.size + 1, 0, none⟩ (.int .i64 (-x)) = V2 at *
        have hres : wholeD wide L = some (mkR (-x) (false) (m) (0) (false) ([]) (false) (0) (0) (0) (0) (0) (0) (0) (0) (0) (0)) := by unfold wholeD offD' offD whenD; simp only [h1, h2]; rw [if_pos H3.out]; rfl
        refine wp_region_lit ?_
        refine wpList_ld rfl 6 (w.heap.size + 1) (mkR (-x) (false) (m) (0) (false) ([]) (false) (0) (0) (0) (0) (0) (0) (0) (0) (0) (0)) _ rfl S2.k rfl ?_
        refine wpList_st rfl 4 40 w.heap.size ru0 (mkR (-x) (false) (m) (0) (false) ([]) (false) (0) (0) (0) (0) (0) (0) (0) (0) (0) (0)) 27 rfl rfl S2.z rfl rfl ?_
        have OG := putR_up (r := (mkR (-x) (false) (m) (0) (false) ([]) (false) (0) (0) (0) (0) (0) (0) (0) (0) (0) (0))) S2.u (Nat.le_refl _)
        have ZB := putR_bk (r := (mkR (-x) (false) (m) (0) (false) ([]) (false) (0) (0) (0) (0) (0) (0) (0) (0) (0) (0))) S2.z
        clear S2
        generalize PutR _ w.heap.size (mkR (-x) (false) (m) (0) (false) ([]) (false) (0) (0) (0) (0) (0) (0) (0) (0) (0) (0)) = VV at *
        go_wp2_with fail
        refine bodyPost_ret (v := .tuple #[.agg (rA (mkR (-x) (false) (m) (0) (false) ([]) (false) (0) (0) (0) (0) (0) (0) (0) (0) (0) (0))), .bool true]) (res_mix _ 4 5 Tryd.results19 _ _ w.heap.size _ _ _ rfl rfl ZB) rfl ?_
        rw [← HR.out, hres]
        exact ⟨rfl, OG⟩
      · have z3 : ((j2 : Int) == (L.length : Int)) = false := by
            have : j2 ≠ L.length := fun e => h3 (by rw [← j2_t, e, List.drop_length])
            simp; omega
        have H3 := Lib.hid h3
        clear h3
        clear q0 r0
        have q0 : V1.cell? ⟨w.heap.size + 1, 0, none⟩ = some (.int .i64 (0)) := S1.k.cell 0
        have r0 : V1.frozen? ⟨w.heap.size + 1, 0, none⟩ = false := S1.k.frozen 0
        have q6 : V1.cell? ⟨w.heap.size + 1, 6, none⟩ = some (.bool false) := S1.k.cell 6
        have r6 : V1.frozen? ⟨w.heap.size + 1, 6, none⟩ = false := S1.k.frozen 6
        have q4 : V1.cell? ⟨w.heap.size + 1, 4, none⟩ = some (.bool false) := S1.k.cell 4
        have r4 : V1.frozen? ⟨w.heap.size + 1, 4, none⟩ = false := S1.k.frozen 4
        have q3 : V1.cell? ⟨w.heap.size + 1, 3, none⟩ = some (.int .i64 (0)) := S1.k.cell 3
        have r3 : V1.frozen? ⟨w.heap.size + 1, 3, none⟩ = false := S1.k.frozen 3
        have S2 := S1.st 0 (.int .i64 (-x)) (d := mkR (-x) (false) (m) (0) (false) ([]) (false) (0) (0) (0) (0) (0) (0) (0) (0) (0) (0)) rfl
        have S3 := S2.st 6 (.bool true) (d := mkR (-x) (false) (m) (0) (false) ([]) (true) (0) (0) (0) (0) (0) (0) (0) (0) (0) (0)) rfl
        have S4 := S3.st 4 (.bool true) (d := mkR (-x) (false) (m) (0) (true) ([]) (true) (0) (0) (0) (0) (0) (0) (0) (0) (0) (0)) rfl
        have S5 := S4.st 3 (.int .i64 (-x + 3600)) (d := mkR (-x) (false) (m) (-x + 3600) (true) ([]) (true) (0) (0) (0) (0) (0) (0) (0) (0) (0) (0)) rfl
        go_wp2_with fail
        clear S1 S2 S3 S4
        clear q0 r0 q6 r6 q4 r4 q3 r3
        generalize World.setCell _ ⟨w.heap.size + 1, 3, none⟩ (.int .i64 (-x + 3600)) = V5 at *
        have q5 : V5.cell? ⟨w.heap.size + 1, 5, none⟩ = some (.string ⟨#[]⟩) := S5.k.cell 5
        have r5 : V5.frozen? ⟨w.heap.size + 1, 5, none⟩ = false := S5.k.frozen 5
        cases h4 : nameD t1 with
        | none =>
          refine (dword_no' (k := j2) _ rfl hL j2_2 (by rw [j2_t]; exact h4) _).mono ?_; rintro e w9 ⟨rfl, rfl⟩
          have S6 := S5.st 5 (.string ⟨#[]⟩) (d := mkR (-x) (false) (m) (-x + 3600) (true) ([]) (true) (0) (0) (0) (0) (0) (0) (0) (0) (0) (0)) rfl
          go_upto_region 17 with (fail)
          clear S5
          clear q5 r5
          generalize World.setCell _ ⟨w.heap.size + 1, 5, none⟩ (.string ⟨#[]⟩) = V6 at *
          have hres : wholeD wide L = none := by unfold wholeD offD' offD whenD; simp only [h1, h2]; rw [if_neg H3.out]; simp only [h4]
          refine wp_region_lit ?_
          refine wpList_bl rfl rfl ?_
          refine wpList_st rfl 4 66 w.heap.size ru0 ru0 27 rfl rfl S6.z rfl rfl ?_
          have OG := putR_up (r := ru0) S6.u (Nat.le_refl _)
          have ZB := putR_bk (r := ru0) S6.z
          clear S6
          generalize PutR _ w.heap.size ru0 = VV at *
          go_wp2_with fail
          refine bodyPost_ret (v := .tuple #[.agg (rA ru0), .bool false]) (res_mix _ 4 5 Tryd.results19 _ _ w.heap.size _ _ _ rfl rfl ZB) rfl ?_
          rw [← HR.out, hres]
          exact ⟨rfl, OG⟩
        | some x4 =>
          obtain ⟨m2, t2⟩ := x4
          have ml2 := nameD_len h4
          obtain ⟨j3, j3_1, j3_2, j3_t, D⟩ := dword_yes' (k := j2) hL j2_2 (by rw [j2_t]; exact h4)
          refine (D _ rfl _).mono ?_; rintro e w9 ⟨rfl, rfl⟩
          clear D
          by_cases h5 : t2 = []
          · have z5 : (L.length : Int) ≤ (j3 : Int) := by rw [h5] at j3_t; have := at_nil j3_t; omega
            have S6 := S5.st 5 (.string (tx m2)) (d := mkR (-x) (false) (m) (-x + 3600) (true) (m2) (true) (0) (0) (0) (0) (0) (0) (0) (0) (0) (0)) rfl
            go_upto_region 17 with (fail)
            clear S5
            clear q5 r5
            generalize World.setCell _ ⟨w.heap.size + 1, 5, none⟩ (.string (tx m2)) = V6 at *
            have hres : wholeD wide L = none := by unfold wholeD offD' offD whenD; simp only [h1, h2]; rw [if_neg H3.out]; simp only [h4]; rw [if_pos h5]
            refine wp_region_lit ?_
            refine wpList_bl rfl rfl ?_
            refine wpList_st rfl 4 66 w.heap.size ru0 ru0 27 rfl rfl S6.z rfl rfl ?_
            have OG := putR_up (r := ru0) S6.u (Nat.le_refl _)
            have ZB := putR_bk (r := ru0) S6.z
            clear S6
            generalize PutR _ w.heap.size ru0 = VV at *
            go_wp2_with fail
            refine bodyPost_ret (v := .tuple #[.agg (rA ru0), .bool false]) (res_mix _ 4 5 Tryd.results19 _ _ w.heap.size _ _ _ rfl rfl ZB) rfl ?_
            rw [← HR.out, hres]
            exact ⟨rfl, OG⟩
          · have z5 : (j3 : Int) < (L.length : Int) := by
                have : j3 ≠ L.length := fun e => h5 (by rw [← j3_t, e, List.drop_length])
                omega
            have H5 := Lib.hid h5
            clear h5
            cases h6 : takeP 44 t2 with
            | some t3 =>
              have hz := hs_at (j3_t.trans (takeP_some h6))
              have S6 := S5.st 5 (.string (tx m2)) (d := mkR (-x) (false) (m) (-x + 3600) (true) (m2) (true) (0) (0) (0) (0) (0) (0) (0) (0) (0) (0)) rfl
              go_wp2_with fail
              clear S5
              clear q5 r5
              generalize World.setCell _ ⟨w.heap.size + 1, 5, none⟩ (.string (tx m2)) = V6 at *
              as_aux_lemma =>
                have q7 : V6.cell? ⟨w.heap.size + 1, 7, none⟩ = some (.int .i64 (0)) := S6.k.cell 7
                have r7 : V6.frozen? ⟨w.heap.size + 1, 7, none⟩ = false := S6.k.frozen 7
                have q8 : V6.cell? ⟨w.heap.size + 1, 8, none⟩ = some (.int .i64 (0)) := S6.k.cell 8
                have r8 : V6.frozen? ⟨w.heap.size + 1, 8, none⟩ = false := S6.k.frozen 8
                have q9 : V6.cell? ⟨w.heap.size + 1, 9, none⟩ = some (.int .i64 (0)) := S6.k.cell 9
                have r9 : V6.frozen? ⟨w.heap.size + 1, 9, none⟩ = false := S6.k.frozen 9
                have q10 : V6.cell? ⟨w.heap.size + 1, 10, none⟩ = some (.int .i64 (0)) := S6.k.cell 10
                have r10 : V6.frozen? ⟨w.heap.size + 1, 10, none⟩ = false := S6.k.frozen 10
                have q11 : V6.cell? ⟨w.heap.size + 1, 11, none⟩ = some (.int .i64 (0)) := S6.k.cell 11
                have r11 : V6.frozen? ⟨w.heap.size + 1, 11, none⟩ = false := S6.k.frozen 11
                refine (dwhen_any L j3 wide _ hL (by omega)).mono ?_; rintro e w1 ⟨A1, u1⟩
                rw [j3_t] at A1
                cases h8 : whenD wide t2 with
                | none =>
                  rw [h8] at A1
                  obtain ⟨⟨a1, a2, a3, a4, a5⟩, rfl⟩ := A1
                  have S7 := S6.call u1
                  clear S6
                  clear q7 r7 q8 r8 q9 r9 q10 r10 q11 r11
                  have q7 : w1.cell? ⟨w.heap.size + 1, 7, none⟩ = some (.int .i64 (0)) := S7.k.cell 7
                  have r7 : w1.frozen? ⟨w.heap.size + 1, 7, none⟩ = false := S7.k.frozen 7
                  have q8 : w1.cell? ⟨w.heap.size + 1, 8, none⟩ = some (.int .i64 (0)) := S7.k.cell 8
                  have r8 : w1.frozen? ⟨w.heap.size + 1, 8, none⟩ = false := S7.k.frozen 8
                  have q9 : w1.cell? ⟨w.heap.size + 1, 9, none⟩ = some (.int .i64 (0)) := S7.k.cell 9
                  have r9 : w1.frozen? ⟨w.heap.size + 1, 9, none⟩ = false := S7.k.frozen 9
                  have q10 : w1.cell? ⟨w.heap.size + 1, 10, none⟩ = some (.int .i64 (0)) := S7.k.cell 10
                  have r10 : w1.frozen? ⟨w.heap.size + 1, 10, none⟩ = false := S7.k.frozen 10
                  have q11 : w1.cell? ⟨w.heap.size + 1, 11, none⟩ = some (.int .i64 (0)) := S7.k.cell 11
                  have r11 : w1.frozen? ⟨w.heap.size + 1, 11, none⟩ = false := S7.k.frozen 11
                  unfold cA
                  simp only
                  have S8 := S7.st 7 (.int .i64 (a1)) (d := mkR (-x) (false) (m) (-x + 3600) (true) (m2) (true) (a1) (0) (0) (0) (0) (0) (0) (0) (0) (0)) rfl
                  have S9 := S8.st 8 (.int .i64 (a2)) (d := mkR (-x) (false) (m) (-x + 3600) (true) (m2) (true) (a1) (a2) (0) (0) (0) (0) (0) (0) (0) (0)) rfl
                  have S10 := S9.st 9 (.int .i64 (a3)) (d := mkR (-x) (false) (m) (-x + 3600) (true) (m2) (true) (a1) (a2) (a3) (0) (0) (0) (0) (0) (0) (0)) rfl
                  have S11 := S10.st 10 (.int .i64 (a4)) (d := mkR (-x) (false) (m) (-x + 3600) (true) (m2) (true) (a1) (a2) (a3) (a4) (0) (0) (0) (0) (0) (0)) rfl
                  have S12 := S11.st 11 (.int .i64 (a5)) (d := mkR (-x) (false) (m) (-x + 3600) (true) (m2) (true) (a1) (a2) (a3) (a4) (a5) (0) (0) (0) (0) (0)) rfl
                  go_upto_region 26 with (fail)
                  clear S7 S8 S9 S10 S11
                  clear q7 r7 q8 r8 q9 r9 q10 r10 q11 r11
                  generalize World.setCell _ ⟨w.heap.size + 1, 11, none⟩ (.int .i64 (a5)) = V12 at *
                  have hres : wholeD wide L = none := by unfold wholeD offD' offD; simp only [h1, h2]; rw [if_neg H3.out]; simp only [h4]; rw [if_neg H5.out]; simp only [h6, h8]
                  refine wp_region_lit ?_
                  refine wpList_bl rfl rfl ?_
                  refine wpList_st rfl 4 95 w.heap.size ru0 ru0 27 rfl rfl S12.z rfl rfl ?_
                  have OG := putR_up (r := ru0) S12.u (Nat.le_refl _)
                  have ZB := putR_bk (r := ru0) S12.z
                  clear S12
                  generalize PutR _ w.heap.size ru0 = VV at *
                  go_wp2_with fail
                  refine bodyPost_ret (v := .tuple #[.agg (rA ru0), .bool false]) (res_mix _ 4 5 Tryd.results19 _ _ w.heap.size _ _ _ rfl rfl ZB) rfl ?_
                  rw [← HR.out, hres]
                  exact ⟨rfl, OG⟩
                | some x8 =>
                  obtain ⟨⟨a1, a2, a3, a4, a5⟩, t4⟩ := x8
                  rw [h8] at A1
                  obtain ⟨j4, j4_1, j4_2, j4_t, rfl⟩ := A1
                  have S7 := S6.call u1
                  clear S6
                  clear q7 r7 q8 r8 q9 r9 q10 r10 q11 r11
                  have q7 : w1.cell? ⟨w.heap.size + 1, 7, none⟩ = some (.int .i64 (0)) := S7.k.cell 7
                  have r7 : w1.frozen? ⟨w.heap.size + 1, 7, none⟩ = false := S7.k.frozen 7
                  have q8 : w1.cell? ⟨w.heap.size + 1, 8, none⟩ = some (.int .i64 (0)) := S7.k.cell 8
                  have r8 : w1.frozen? ⟨w.heap.size + 1, 8, none⟩ = false := S7.k.frozen 8
                  have q9 : w1.cell? ⟨w.heap.size + 1, 9, none⟩ = some (.int .i64 (0)) := S7.k.cell 9
                  have r9 : w1.frozen? ⟨w.heap.size + 1, 9, none⟩ = false := S7.k.frozen 9
                  have q10 : w1.cell? ⟨w.heap.size + 1, 10, none⟩ = some (.int .i64 (0)) := S7.k.cell 10
                  have r10 : w1.frozen? ⟨w.heap.size + 1, 10, none⟩ = false := S7.k.frozen 10
                  have q11 : w1.cell? ⟨w.heap.size + 1, 11, none⟩ = some (.int .i64 (0)) := S7.k.cell 11
                  have r11 : w1.frozen? ⟨w.heap.size + 1, 11, none⟩ = false := S7.k.frozen 11
                  unfold cA
                  simp only
                  have S8 := S7.st 7 (.int .i64 (a1)) (d := mkR (-x) (false) (m) (-x + 3600) (true) (m2) (true) (a1) (0) (0) (0) (0) (0) (0) (0) (0) (0)) rfl
                  have S9 := S8.st 8 (.int .i64 (a2)) (d := mkR (-x) (false) (m) (-x + 3600) (true) (m2) (true) (a1) (a2) (0) (0) (0) (0) (0) (0) (0) (0)) rfl
                  have S10 := S9.st 9 (.int .i64 (a3)) (d := mkR (-x) (false) (m) (-x + 3600) (true) (m2) (true) (a1) (a2) (a3) (0) (0) (0) (0) (0) (0) (0)) rfl
                  have S11 := S10.st 10 (.int .i64 (a4)) (d := mkR (-x) (false) (m) (-x + 3600) (true) (m2) (true) (a1) (a2) (a3) (a4) (0) (0) (0) (0) (0) (0)) rfl
                  have S12 := S11.st 11 (.int .i64 (a5)) (d := mkR (-x) (false) (m) (-x + 3600) (true) (m2) (true) (a1) (a2) (a3) (a4) (a5) (0) (0) (0) (0) (0)) rfl
                  go_wp2_with fail
                  clear S7 S8 S9 S10 S11
                  clear q7 r7 q8 r8 q9 r9 q10 r10 q11 r11
                  generalize World.setCell _ ⟨w.heap.size + 1, 11, none⟩ (.int .i64 (a5)) = V12 at *
                  as_aux_lemma =>
                    refine (dwhen_any L j4 wide _ hL (by omega)).mono ?_; rintro e w2 ⟨A2, u2⟩
                    rw [j4_t] at A2
                    have S13 := S12.call u2
                    clear S12
                    cases h9 : whenD wide t4 with
                    | none =>
                      rw [h9] at A2
                      obtain ⟨⟨b1, b2, b3, b4, b5⟩, rfl⟩ := A2
                      have q12 : w2.cell? ⟨w.heap.size + 1, 12, none⟩ = some (.int .i64 (0)) := S13.k.cell 12
                      have r12 : w2.frozen? ⟨w.heap.size + 1, 12, none⟩ = false := S13.k.frozen 12
                      have q13 : w2.cell? ⟨w.heap.size + 1, 13, none⟩ = some (.int .i64 (0)) := S13.k.cell 13
                      have r13 : w2.frozen? ⟨w.heap.size + 1, 13, none⟩ = false := S13.k.frozen 13
                      have q14 : w2.cell? ⟨w.heap.size + 1, 14, none⟩ = some (.int .i64 (0)) := S13.k.cell 14
                      have r14 : w2.frozen? ⟨w.heap.size + 1, 14, none⟩ = false := S13.k.frozen 14
                      have q15 : w2.cell? ⟨w.heap.size + 1, 15, none⟩ = some (.int .i64 (0)) := S13.k.cell 15
                      have r15 : w2.frozen? ⟨w.heap.size + 1, 15, none⟩ = false := S13.k.frozen 15
                      have q16 : w2.cell? ⟨w.heap.size + 1, 16, none⟩ = some (.int .i64 (0)) := S13.k.cell 16
                      have r16 : w2.frozen? ⟨w.heap.size + 1, 16, none⟩ = false := S13.k.frozen 16
                      unfold cA
                      simp only
                      have S14 := S13.st 12 (.int .i64 (b1)) (d := mkR (-x) (false) (m) (-x + 3600) (true) (m2) (true) (a1) (a2) (a3) (a4) (a5) (b1) (0) (0) (0) (0)) rfl
                      have S15 := S14.st 13 (.int .i64 (b2)) (d := mkR (-x) (false) (m) (-x + 3600) (true) (m2) (true) (a1) (a2) (a3) (a4) (a5) (b1) (b2) (0) (0) (0)) rfl
                      have S16 := S15.st 14 (.int .i64 (b3)) (d := mkR (-x) (false) (m) (-x + 3600) (true) (m2) (true) (a1) (a2) (a3) (a4) (a5) (b1) (b2) (b3) (0) (0)) rfl
                      have S17 := S16.st 15 (.int .i64 (b4)) (d := mkR (-x) (false) (m) (-x + 3600) (true) (m2) (true) (a1) (a2) (a3) (a4) (a5) (b1) (b2) (b3) (b4) (0)) rfl
                      have S18 := S17.st 16 (.int .i64 (b5)) (d := mkR (-x) (false) (m) (-x + 3600) (true) (m2) (true) (a1) (a2) (a3) (a4) (a5) (b1) (b2) (b3) (b4) (b5)) rfl
                      go_upto_region 28 with (fail)
                      clear S13 S14 S15 S16 S17
                      clear q12 r12 q13 r13 q14 r14 q15 r15 q16 r16
                      generalize World.setCell _ ⟨w.heap.size + 1, 16, none⟩ (.int .i64 (b5)) = V18 at *
                      have RI := dright_any (mkR (-x) (false) (m) (-x + 3600) (true) (m2) (true) (a1) (a2) (a3) (a4) (a5) (b1) (b2) (b3) (b4) (b5)) wide
                      obtain ⟨BB, hBB⟩ : ∃ b, rightB (mkR (-x) (false) (m) (-x + 3600) (true) (m2) (true) (a1) (a2) (a3) (a4) (a5) (b1) (b2) (b3) (b4) (b5)) wide = b := ⟨_, rfl⟩
                      rw [hBB] at RI
                      refine wp_region_lit ?_
                      refine wpList_ld rfl 6 (w.heap.size + 1) (mkR (-x) (false) (m) (-x + 3600) (true) (m2) (true) (a1) (a2) (a3) (a4) (a5) (b1) (b2) (b3) (b4) (b5)) _ rfl S18.k rfl ?_
                      go_wp2_with fail
                      refine (RI _ (by simp only [maxLen]; omega) (by simp only [maxLen]; omega)).mono ?_; rintro e w3 ⟨rfl, u3⟩
                      clear RI
                      have S19 := S18.call u3
                      clear S18
                      have z9 : ((-1 : Int) == (L.length : Int)) = false := by rw [beq_eq_false_iff_ne]; omega
                      go_upto_region 30 with (fail)
                      have hres : wholeD wide L = none := by unfold wholeD offD' offD; simp only [h1, h2]; rw [if_neg H3.out]; simp only [h4]; rw [if_neg H5.out]; simp only [h6, h8, h9]
                      refine wp_region_lit ?_
                      refine wpList_bl rfl rfl ?_
                      refine wpList_st rfl 4 115 w.heap.size ru0 ru0 27 rfl rfl S19.z rfl rfl ?_
                      have OG := putR_up (r := ru0) S19.u (Nat.le_refl _)
                      have ZB := putR_bk (r := ru0) S19.z
                      clear S19
                      generalize PutR _ w.heap.size ru0 = VV at *
                      go_wp2_with fail
                      refine bodyPost_ret (v := .tuple #[.agg (rA ru0), .bool false]) (res_mix _ 4 5 Tryd.results19 _ _ w.heap.size _ _ _ rfl rfl ZB) rfl ?_
                      rw [← HR.out, hres]
                      exact ⟨rfl, OG⟩
                    | some x9 =>
                      obtain ⟨⟨b1, b2, b3, b4, b5⟩, t5⟩ := x9
                      rw [h9] at A2
                      obtain ⟨j5, j5_1, j5_2, j5_t, rfl⟩ := A2
                      have q12 : w2.cell? ⟨w.heap.size + 1, 12, none⟩ = some (.int .i64 (0)) := S13.k.cell 12
                      have r12 : w2.frozen? ⟨w.heap.size + 1, 12, none⟩ = false := S13.k.frozen 12
                      have q13 : w2.cell? ⟨w.heap.size + 1, 13, none⟩ = some (.int .i64 (0)) := S13.k.cell 13
                      have r13 : w2.frozen? ⟨w.heap.size + 1, 13, none⟩ = false := S13.k.frozen 13
                      have q14 : w2.cell? ⟨w.heap.size + 1, 14, none⟩ = some (.int .i64 (0)) := S13.k.cell 14
                      have r14 : w2.frozen? ⟨w.heap.size + 1, 14, none⟩ = false := S13.k.frozen 14
                      have q15 : w2.cell? ⟨w.heap.size + 1, 15, none⟩ = some (.int .i64 (0)) := S13.k.cell 15
                      have r15 : w2.frozen? ⟨w.heap.size + 1, 15, none⟩ = false := S13.k.frozen 15
                      have q16 : w2.cell? ⟨w.heap.size + 1, 16, none⟩ = some (.int .i64 (0)) := S13.k.cell 16
                      have r16 : w2.frozen? ⟨w.heap.size + 1, 16, none⟩ = false := S13.k.frozen 16
                      unfold cA
                      simp only
                      have S14 := S13.st 12 (.int .i64 (b1)) (d := mkR (-x) (false) (m) (-x + 3600) (true) (m2) (true) (a1) (a2) (a3) (a4) (a5) (b1) (0) (0) (0) (0)) rfl
                      have S15 := S14.st 13 (.int .i64 (b2)) (d := mkR (-x) (false) (m) (-x + 3600) (true) (m2) (true) (a1) (a2) (a3) (a4) (a5) (b1) (b2) (0) (0) (0)) rfl
                      have S16 := S15.st 14 (.int .i64 (b3)) (d := mkR (-x) (false) (m) (-x + 3600) (true) (m2) (true) (a1) (a2) (a3) (a4) (a5) (b1) (b2) (b3) (0) (0)) rfl
                      have S17 := S16.st 15 (.int .i64 (b4)) (d := mkR (-x) (false) (m) (-x + 3600) (true) (m2) (true) (a1) (a2) (a3) (a4) (a5) (b1) (b2) (b3) (b4) (0)) rfl
                      have S18 := S17.st 16 (.int .i64 (b5)) (d := mkR (-x) (false) (m) (-x + 3600) (true) (m2) (true) (a1) (a2) (a3) (a4) (a5) (b1) (b2) (b3) (b4) (b5)) rfl
                      go_upto_region 28 with (fail)
                      clear S13 S14 S15 S16 S17
                      clear q12 r12 q13 r13 q14 r14 q15 r15 q16 r16
                      generalize World.setCell _ ⟨w.heap.size + 1, 16, none⟩ (.int .i64 (b5)) = V18 at *
                      have RI := dright_any (mkR (-x) (false) (m) (-x + 3600) (true) (m2) (true) (a1) (a2) (a3) (a4) (a5) (b1) (b2) (b3) (b4) (b5)) wide
                      obtain ⟨BB, hBB⟩ : ∃ b, rightB (mkR (-x) (false) (m) (-x + 3600) (true) (m2) (true) (a1) (a2) (a3) (a4) (a5) (b1) (b2) (b3) (b4) (b5)) wide = b := ⟨_, rfl⟩
                      rw [hBB] at RI
                      refine wp_region_lit ?_
                      refine wpList_ld rfl 6 (w.heap.size + 1) (mkR (-x) (false) (m) (-x + 3600) (true) (m2) (true) (a1) (a2) (a3) (a4) (a5) (b1) (b2) (b3) (b4) (b5)) _ rfl S18.k rfl ?_
                      go_wp2_with fail
                      refine (RI _ (by simp only [maxLen]; omega) (by simp only [maxLen]; omega)).mono ?_; rintro e w3 ⟨rfl, u3⟩
                      clear RI
                      have S19 := S18.call u3
                      clear S18
                      by_cases h10 : t5 = []
                      · have z9 : ((j5 : Int) != (L.length : Int)) = false := by
                            rw [h10] at j5_t
                            have := at_nil j5_t
                            have e : (j5 : Int) = (L.length : Int) := by omega
                            rw [e]; simp
                        cases BB
                        · go_upto_region 30 with (fail)
                          have hres : wholeD wide L = none := by unfold wholeD offD' offD; simp only [h1, h2]; rw [if_neg H3.out]; simp only [h4]; rw [if_neg H5.out]; simp only [h6, h8, h9]; exact if_neg (fun z => by rw [hBB] at z; cases z.2)
                          refine wp_region_lit ?_
                          refine wpList_bl rfl rfl ?_
                          refine wpList_st rfl 4 115 w.heap.size ru0 ru0 27 rfl rfl S19.z rfl rfl ?_
                          have OG := putR_up (r := ru0) S19.u (Nat.le_refl _)
                          have ZB := putR_bk (r := ru0) S19.z
                          clear S19
                          generalize PutR _ w.heap.size ru0 = VV at *
                          go_wp2_with fail
                          refine bodyPost_ret (v := .tuple #[.agg (rA ru0), .bool false]) (res_mix _ 4 5 Tryd.results19 _ _ w.heap.size _ _ _ rfl rfl ZB) rfl ?_
                          rw [← HR.out, hres]
                          exact ⟨rfl, OG⟩
                        · go_upto_region 31 with (fail)
                          have hres : wholeD wide L = some (mkR (-x) (false) (m) (-x + 3600) (true) (m2) (true) (a1) (a2) (a3) (a4) (a5) (b1) (b2) (b3) (b4) (b5)) := by unfold wholeD offD' offD; simp only [h1, h2]; rw [if_neg H3.out]; simp only [h4]; rw [if_neg H5.out]; simp only [h6, h8, h9]; exact if_pos ⟨h10, hBB⟩
                          refine wp_region_lit ?_
                          refine wpList_ld rfl 6 (w.heap.size + 1) (mkR (-x) (false) (m) (-x + 3600) (true) (m2) (true) (a1) (a2) (a3) (a4) (a5) (b1) (b2) (b3) (b4) (b5)) _ rfl S19.k rfl ?_
                          refine wpList_st rfl 4 116 w.heap.size ru0 (mkR (-x) (false) (m) (-x + 3600) (true) (m2) (true) (a1) (a2) (a3) (a4) (a5) (b1) (b2) (b3) (b4) (b5)) 27 rfl rfl S19.z rfl rfl ?_
                          have OG := putR_up (r := (mkR (-x) (false) (m) (-x + 3600) (true) (m2) (true) (a1) (a2) (a3) (a4) (a5) (b1) (b2) (b3) (b4) (b5))) S19.u (Nat.le_refl _)
                          have ZB := putR_bk (r := (mkR (-x) (false) (m) (-x + 3600) (true) (m2) (true) (a1) (a2) (a3) (a4) (a5) (b1) (b2) (b3) (b4) (b5))) S19.z
                          clear S19
                          generalize PutR _ w.heap.size (mkR (-x) (false) (m) (-x + 3600) (true) (m2) (true) (a1) (a2) (a3) (a4) (a5) (b1) (b2) (b3) (b4) (b5)) = VV at *
                          go_wp2_with fail
                          refine bodyPost_ret (v := .tuple #[.agg (rA (mkR (-x) (false) (m) (-x + 3600) (true) (m2) (true) (a1) (a2) (a3) (a4) (a5) (b1) (b2) (b3) (b4) (b5))), .bool true]) (res_mix _ 4 5 Tryd.results19 _ _ w.heap.size _ _ _ rfl rfl ZB) rfl ?_
                          rw [← HR.out, hres]
                          exact ⟨rfl, OG⟩
                      · have z9 : ((j5 : Int) != (L.length : Int)) = true := by
                            have : j5 ≠ L.length := fun e => h10 (by rw [← j5_t, e, List.drop_length])
                            simp; omega
                        go_upto_region 30 with (fail)
                        have hres : wholeD wide L = none := by unfold wholeD offD' offD; simp only [h1, h2]; rw [if_neg H3.out]; simp only [h4]; rw [if_neg H5.out]; simp only [h6, h8, h9]; exact if_neg (fun z => h10 z.1)
                        refine wp_region_lit ?_
                        refine wpList_bl rfl rfl ?_
                        refine wpList_st rfl 4 115 w.heap.size ru0 ru0 27 rfl rfl S19.z rfl rfl ?_
                        have OG := putR_up (r := ru0) S19.u (Nat.le_refl _)
                        have ZB := putR_bk (r := ru0) S19.z
                        clear S19
                        generalize PutR _ w.heap.size ru0 = VV at *
                        go_wp2_with fail
                        refine bodyPost_ret (v := .tuple #[.agg (rA ru0), .bool false]) (res_mix _ 4 5 Tryd.results19 _ _ w.heap.size _ _ _ rfl rfl ZB) rfl ?_
                        rw [← HR.out, hres]
                        exact ⟨rfl, OG⟩
            | none =>
              have hz : ∀ q : j3 < (tx L).size, ((((tx L)[j3]'q).toNat : Int) == 44) = false := no_at 44 44 rfl (by rw [j3_t]; exact h6)
              have hy : ∀ q : j3 < (tx L).size, ((((tx L)[j3]'q).toNat : Int) != 44) = true := fun q => by rw [bne, hz q]; rfl
              clear hz
              have S6 := S5.st 5 (.string (tx m2)) (d := mkR (-x) (false) (m) (-x + 3600) (true) (m2) (true) (0) (0) (0) (0) (0) (0) (0) (0) (0) (0)) rfl
              go_wp2_with fail
              clear S5
              clear q5 r5
              generalize World.setCell _ ⟨w.heap.size + 1, 5, none⟩ (.string (tx m2)) = V6 at *
              refine (dtime_o L j3 _ hL j3_2).mono ?_; rintro e w9 ⟨rfl, rfl⟩
              rw [j3_t]
              have q3 : V6.cell? ⟨w.heap.size + 1, 3, none⟩ = some (.int .i64 (-x + 3600)) := S6.k.cell 3
              have r3 : V6.frozen? ⟨w.heap.size + 1, 3, none⟩ = false := S6.k.frozen 3
              cases h7 : anyD true false t2 with
              | none =>
                simp only [valP, endP]
                have S7 := S6.st 3 (.int .i64 (0)) (d := mkR (-x) (false) (m) (0) (true) (m2) (true) (0) (0) (0) (0) (0) (0) (0) (0) (0) (0)) rfl
                go_upto_region 23 with (fail)
                clear S6
                clear q3 r3
                generalize World.setCell _ ⟨w.heap.size + 1, 3, none⟩ (.int .i64 (0)) = V7 at *
                have hres : wholeD wide L = none := by unfold wholeD offD' offD; simp only [h1, h2]; rw [if_neg H3.out]; simp only [h4]; rw [if_neg H5.out]; simp only [h6, h7]
                refine wp_region_lit ?_
                refine wpList_bl rfl rfl ?_
                refine wpList_st rfl 4 84 w.heap.size ru0 ru0 27 rfl rfl S7.z rfl rfl ?_
                have OG := putR_up (r := ru0) S7.u (Nat.le_refl _)
                have ZB := putR_bk (r := ru0) S7.z
                clear S7
                generalize PutR _ w.heap.size ru0 = VV at *
                go_wp2_with fail
                refine bodyPost_ret (v := .tuple #[.agg (rA ru0), .bool false]) (res_mix _ 4 5 Tryd.results19 _ _ w.heap.size _ _ _ rfl rfl ZB) rfl ?_
                rw [← HR.out, hres]
                exact ⟨rfl, OG⟩
              | some x7 =>
                obtain ⟨y, t3⟩ := x7
                have yb := anyD_bd h7
                obtain ⟨j6, j6_1, j6_2, j6_t⟩ := any_at (L := L) (k := j3) j3_2 (by rw [j3_t]; exact h7)
                rw [endP_at j6_2 j6_t]
                simp only [valP]
                have wy : wrap64 (-y) = -y := wrap_fit (fitB_true.2 (by omega))
                have S7 := S6.st 3 (.int .i64 (-y)) (d := mkR (-x) (false) (m) (-y) (true) (m2) (true) (0) (0) (0) (0) (0) (0) (0) (0) (0) (0)) rfl
                go_wp2_with fail
                clear S6
                clear q3 r3
                generalize World.setCell _ ⟨w.heap.size + 1, 3, none⟩ (.int .i64 (-y)) = V7 at *
                as_aux_lemma =>
                  have q7 : V7.cell? ⟨w.heap.size + 1, 7, none⟩ = some (.int .i64 (0)) := S7.k.cell 7
                  have r7 : V7.frozen? ⟨w.heap.size + 1, 7, none⟩ = false := S7.k.frozen 7
                  have q8 : V7.cell? ⟨w.heap.size + 1, 8, none⟩ = some (.int .i64 (0)) := S7.k.cell 8
                  have r8 : V7.frozen? ⟨w.heap.size + 1, 8, none⟩ = false := S7.k.frozen 8
                  have q9 : V7.cell? ⟨w.heap.size + 1, 9, none⟩ = some (.int .i64 (0)) := S7.k.cell 9
                  have r9 : V7.frozen? ⟨w.heap.size + 1, 9, none⟩ = false := S7.k.frozen 9
                  have q10 : V7.cell? ⟨w.heap.size + 1, 10, none⟩ = some (.int .i64 (0)) := S7.k.cell 10
                  have r10 : V7.frozen? ⟨w.heap.size + 1, 10, none⟩ = false := S7.k.frozen 10
                  have q11 : V7.cell? ⟨w.heap.size + 1, 11, none⟩ = some (.int .i64 (0)) := S7.k.cell 11
                  have r11 : V7.frozen? ⟨w.heap.size + 1, 11, none⟩ = false := S7.k.frozen 11
                  refine (dwhen_any L j6 wide _ hL (by omega)).mono ?_; rintro e w1 ⟨A1, u1⟩
                  rw [j6_t] at A1
                  cases h8 : whenD wide t3 with
                  | none =>
                    rw [h8] at A1
                    obtain ⟨⟨a1, a2, a3, a4, a5⟩, rfl⟩ := A1
                    have S8 := S7.call u1
                    clear S7
                    clear q7 r7 q8 r8 q9 r9 q10 r10 q11 r11
                    have q7 : w1.cell? ⟨w.heap.size + 1, 7, none⟩ = some (.int .i64 (0)) := S8.k.cell 7
                    have r7 : w1.frozen? ⟨w.heap.size + 1, 7, none⟩ = false := S8.k.frozen 7
                    have q8 : w1.cell? ⟨w.heap.size + 1, 8, none⟩ = some (.int .i64 (0)) := S8.k.cell 8
                    have r8 : w1.frozen? ⟨w.heap.size + 1, 8, none⟩ = false := S8.k.frozen 8
                    have q9 : w1.cell? ⟨w.heap.size + 1, 9, none⟩ = some (.int .i64 (0)) := S8.k.cell 9
                    have r9 : w1.frozen? ⟨w.heap.size + 1, 9, none⟩ = false := S8.k.frozen 9
                    have q10 : w1.cell? ⟨w.heap.size + 1, 10, none⟩ = some (.int .i64 (0)) := S8.k.cell 10
                    have r10 : w1.frozen? ⟨w.heap.size + 1, 10, none⟩ = false := S8.k.frozen 10
                    have q11 : w1.cell? ⟨w.heap.size + 1, 11, none⟩ = some (.int .i64 (0)) := S8.k.cell 11
                    have r11 : w1.frozen? ⟨w.heap.size + 1, 11, none⟩ = false := S8.k.frozen 11
                    unfold cA
                    simp only
                    have S9 := S8.st 7 (.int .i64 (a1)) (d := mkR (-x) (false) (m) (-y) (true) (m2) (true) (a1) (0) (0) (0) (0) (0) (0) (0) (0) (0)) rfl
                    have S10 := S9.st 8 (.int .i64 (a2)) (d := mkR (-x) (false) (m) (-y) (true) (m2) (true) (a1) (a2) (0) (0) (0) (0) (0) (0) (0) (0)) rfl
                    have S11 := S10.st 9 (.int .i64 (a3)) (d := mkR (-x) (false) (m) (-y) (true) (m2) (true) (a1) (a2) (a3) (0) (0) (0) (0) (0) (0) (0)) rfl
                    have S12 := S11.st 10 (.int .i64 (a4)) (d := mkR (-x) (false) (m) (-y) (true) (m2) (true) (a1) (a2) (a3) (a4) (0) (0) (0) (0) (0) (0)) rfl
                    have S13 := S12.st 11 (.int .i64 (a5)) (d := mkR (-x) (false) (m) (-y) (true) (m2) (true) (a1) (a2) (a3) (a4) (a5) (0) (0) (0) (0) (0)) rfl
                    go_upto_region 26 with (fail)
                    clear S8 S9 S10 S11 S12
                    clear q7 r7 q8 r8 q9 r9 q10 r10 q11 r11
                    generalize World.setCell _ ⟨w.heap.size + 1, 11, none⟩ (.int .i64 (a5)) = V13 at *
                    have hres : wholeD wide L = none := by unfold wholeD offD' offD; simp only [h1, h2]; rw [if_neg H3.out]; simp only [h4]; rw [if_neg H5.out]; simp only [h6, h7, h8]
                    refine wp_region_lit ?_
                    refine wpList_bl rfl rfl ?_
                    refine wpList_st rfl 4 95 w.heap.size ru0 ru0 27 rfl rfl S13.z rfl rfl ?_
                    have OG := putR_up (r := ru0) S13.u (Nat.le_refl _)
                    have ZB := putR_bk (r := ru0) S13.z
                    clear S13
                    generalize PutR _ w.heap.size ru0 = VV at *
                    go_wp2_with fail
                    refine bodyPost_ret (v := .tuple #[.agg (rA ru0), .bool false]) (res_mix _ 4 5 Tryd.results19 _ _ w.heap.size _ _ _ rfl rfl ZB) rfl ?_
                    rw [← HR.out, hres]
                    exact ⟨rfl, OG⟩
                  | some x8 =>
                    obtain ⟨⟨a1, a2, a3, a4, a5⟩, t4⟩ := x8
                    rw [h8] at A1
                    obtain ⟨j4, j4_1, j4_2, j4_t, rfl⟩ := A1
                    have S8 := S7.call u1
                    clear S7
                    clear q7 r7 q8 r8 q9 r9 q10 r10 q11 r11
                    have q7 : w1.cell? ⟨w.heap.size + 1, 7, none⟩ = some (.int .i64 (0)) := S8.k.cell 7
                    have r7 : w1.frozen? ⟨w.heap.size + 1, 7, none⟩ = false := S8.k.frozen 7
                    have q8 : w1.cell? ⟨w.heap.size + 1, 8, none⟩ = some (.int .i64 (0)) := S8.k.cell 8
                    have r8 : w1.frozen? ⟨w.heap.size + 1, 8, none⟩ = false := S8.k.frozen 8
                    have q9 : w1.cell? ⟨w.heap.size + 1, 9, none⟩ = some (.int .i64 (0)) := S8.k.cell 9
                    have r9 : w1.frozen? ⟨w.heap.size + 1, 9, none⟩ = false := S8.k.frozen 9
                    have q10 : w1.cell? ⟨w.heap.size + 1, 10, none⟩ = some (.int .i64 (0)) := S8.k.cell 10
                    have r10 : w1.frozen? ⟨w.heap.size + 1, 10, none⟩ = false := S8.k.frozen 10
                    have q11 : w1.cell? ⟨w.heap.size + 1, 11, none⟩ = some (.int .i64 (0)) := S8.k.cell 11
                    have r11 : w1.frozen? ⟨w.heap.size + 1, 11, none⟩ = false := S8.k.frozen 11
                    unfold cA
                    simp only
                    have S9 := S8.st 7 (.int .i64 (a1)) (d := mkR (-x) (false) (m) (-y) (true) (m2) (true) (a1) (0) (0) (0) (0) (0) (0) (0) (0) (0)) rfl
                    have S10 := S9.st 8 (.int .i64 (a2)) (d := mkR (-x) (false) (m) (-y) (true) (m2) (true) (a1) (a2) (0) (0) (0) (0) (0) (0) (0) (0)) rfl
                    have S11 := S10.st 9 (.int .i64 (a3)) (d := mkR (-x) (false) (m) (-y) (true) (m2) (true) (a1) (a2) (a3) (0) (0) (0) (0) (0) (0) (0)) rfl
                    have S12 := S11.st 10 (.int .i64 (a4)) (d := mkR (-x) (false) (m) (-y) (true) (m2) (true) (a1) (a2) (a3) (a4) (0) (0) (0) (0) (0) (0)) rfl
                    have S13 := S12.st 11 (.int .i64 (a5)) (d := mkR (-x) (false) (m) (-y) (true) (m2) (true) (a1) (a2) (a3) (a4) (a5) (0) (0) (0) (0) (0)) rfl
                    go_wp2_with fail
                    clear S8 S9 S10 S11 S12
                    clear q7 r7 q8 r8 q9 r9 q10 r10 q11 r11
                    generalize World.setCell _ ⟨w.heap.size + 1, 11, none⟩ (.int .i64 (a5)) = V13 at *
                    as_aux_lemma =>
                      refine (dwhen_any L j4 wide _ hL (by omega)).mono ?_; rintro e w2 ⟨A2, u2⟩
                      rw [j4_t] at A2
                      have S14 := S13.call u2
                      clear S13
                      cases h9 : whenD wide t4 with
                      | none =>
                        rw [h9] at A2
                        obtain ⟨⟨b1, b2, b3, b4, b5⟩, rfl⟩ := A2
                        have q12 : w2.cell? ⟨w.heap.size + 1, 12, none⟩ = some (.int .i64 (0)) := S14.k.cell 12
                        have r12 : w2.frozen? ⟨w.heap.size + 1, 12, none⟩ = false := S14.k.frozen 12
                        have q13 : w2.cell? ⟨w.heap.size + 1, 13, none⟩ = some (.int .i64 (0)) := S14.k.cell 13
                        have r13 : w2.frozen? ⟨w.heap.size + 1, 13, none⟩ = false := S14.k.frozen 13
                        have q14 : w2.cell? ⟨w.heap.size + 1, 14, none⟩ = some (.int .i64 (0)) := S14.k.cell 14
                        have r14 : w2.frozen? ⟨w.heap.size + 1, 14, none⟩ = false := S14.k.frozen 14
                        have q15 : w2.cell? ⟨w.heap.size + 1, 15, none⟩ = some (.int .i64 (0)) := S14.k.cell 15
                        have r15 : w2.frozen? ⟨w.heap.size + 1, 15, none⟩ = false := S14.k.frozen 15
                        have q16 : w2.cell? ⟨w.heap.size + 1, 16, none⟩ = some (.int .i64 (0)) := S14.k.cell 16
                        have r16 : w2.frozen? ⟨w.heap.size + 1, 16, none⟩ = false := S14.k.frozen 16
                        unfold cA
                        simp only
                        have S15 := S14.st 12 (.int .i64 (b1)) (d := mkR (-x) (false) (m) (-y) (true) (m2) (true) (a1) (a2) (a3) (a4) (a5) (b1) (0) (0) (0) (0)) rfl
                        have S16 := S15.st 13 (.int .i64 (b2)) (d := mkR (-x) (false) (m) (-y) (true) (m2) (true) (a1) (a2) (a3) (a4) (a5) (b1) (b2) (0) (0) (0)) rfl
                        have S17 := S16.st 14 (.int .i64 (b3)) (d := mkR (-x) (false) (m) (-y) (true) (m2) (true) (a1) (a2) (a3) (a4) (a5) (b1) (b2) (b3) (0) (0)) rfl
                        have S18 := S17.st 15 (.int .i64 (b4)) (d := mkR (-x) (false) (m) (-y) (true) (m2) (true) (a1) (a2) (a3) (a4) (a5) (b1) (b2) (b3) (b4) (0)) rfl
                        have S19 := S18.st 16 (.int .i64 (b5)) (d := mkR (-x) (false) (m) (-y) (true) (m2) (true) (a1) (a2) (a3) (a4) (a5) (b1) (b2) (b3) (b4) (b5)) rfl
                        go_upto_region 28 with (fail)
                        clear S14 S15 S16 S17 S18
                        clear q12 r12 q13 r13 q14 r14 q15 r15 q16 r16
                        generalize World.setCell _ ⟨w.heap.size + 1, 16, none⟩ (.int .i64 (b5)) = V19 at *
                        have RI := dright_any (mkR (-x) (false) (m) (-y) (true) (m2) (true) (a1) (a2) (a3) (a4) (a5) (b1) (b2) (b3) (b4) (b5)) wide
                        obtain ⟨BB, hBB⟩ : ∃ b, rightB (mkR (-x) (false) (m) (-y) (true) (m2) (true) (a1) (a2) (a3) (a4) (a5) (b1) (b2) (b3) (b4) (b5)) wide = b := ⟨_, rfl⟩
                        rw [hBB] at RI
                        refine wp_region_lit ?_
                        refine wpList_ld rfl 6 (w.heap.size + 1) (mkR (-x) (false) (m) (-y) (true) (m2) (true) (a1) (a2) (a3) (a4) (a5) (b1) (b2) (b3) (b4) (b5)) _ rfl S19.k rfl ?_
                        go_wp2_with fail
                        refine (RI _ (by simp only [maxLen]; omega) (by simp only [maxLen]; omega)).mono ?_; rintro e w3 ⟨rfl, u3⟩
                        clear RI
                        have S20 := S19.call u3
                        clear S19
                        have z9 : ((-1 : Int) == (L.length : Int)) = false := by rw [beq_eq_false_iff_ne]; omega
                        go_upto_region 30 with (fail)
                        have hres : wholeD wide L = none := by unfold wholeD offD' offD; simp only [h1, h2]; rw [if_neg H3.out]; simp only [h4]; rw [if_neg H5.out]; simp only [h6, h7, h8, h9]
                        refine wp_region_lit ?_
                        refine wpList_bl rfl rfl ?_
                        refine wpList_st rfl 4 115 w.heap.size ru0 ru0 27 rfl rfl S20.z rfl rfl ?_
                        have OG := putR_up (r := ru0) S20.u (Nat.le_refl _)
                        have ZB := putR_bk (r := ru0) S20.z
                        clear S20
                        generalize PutR _ w.heap.size ru0 = VV at *
                        go_wp2_with fail
                        refine bodyPost_ret (v := .tuple #[.agg (rA ru0), .bool false]) (res_mix _ 4 5 Tryd.results19 _ _ w.heap.size _ _ _ rfl rfl ZB) rfl ?_
                        rw [← HR.out, hres]
                        exact ⟨rfl, OG⟩
                      | some x9 =>
                        obtain ⟨⟨b1, b2, b3, b4, b5⟩, t5⟩ := x9
                        rw [h9] at A2
                        obtain ⟨j5, j5_1, j5_2, j5_t, rfl⟩ := A2
                        have q12 : w2.cell? ⟨w.heap.size + 1, 12, none⟩ = some (.int .i64 (0)) := S14.k.cell 12
                        have r12 : w2.frozen? ⟨w.heap.size + 1, 12, none⟩ = false := S14.k.frozen 12
                        have q13 : w2.cell? ⟨w.heap.size + 1, 13, none⟩ = some (.int .i64 (0)) := S14.k.cell 13
                        have r13 : w2.frozen? ⟨w.heap.size + 1, 13, none⟩ = false := S14.k.frozen 13
                        have q14 : w2.cell? ⟨w.heap.size + 1, 14, none⟩ = some (.int .i64 (0)) := S14.k.cell 14
                        have r14 : w2.frozen? ⟨w.heap.size + 1, 14, none⟩ = false := S14.k.frozen 14
                        have q15 : w2.cell? ⟨w.heap.size + 1, 15, none⟩ = some (.int .i64 (0)) := S14.k.cell 15
                        have r15 : w2.frozen? ⟨w.heap.size + 1, 15, none⟩ = false := S14.k.frozen 15
                        have q16 : w2.cell? ⟨w.heap.size + 1, 16, none⟩ = some (.int .i64 (0)) := S14.k.cell 16
                        have r16 : w2.frozen? ⟨w.heap.size + 1, 16, none⟩ = false := S14.k.frozen 16
                        unfold cA
                        simp only
                        have S15 := S14.st 12 (.int .i64 (b1)) (d := mkR (-x) (false) (m) (-y) (true) (m2) (true) (a1) (a2) (a3) (a4) (a5) (b1) (0) (0) (0) (0)) rfl
                        have S16 := S15.st 13 (.int .i64 (b2)) (d := mkR (-x) (false) (m) (-y) (true) (m2) (true) (a1) (a2) (a3) (a4) (a5) (b1) (b2) (0) (0) (0)) rfl
                        have S17 := S16.st 14 (.int .i64 (b3)) (d := mkR (-x) (false) (m) (-y) (true) (m2) (true) (a1) (a2) (a3) (a4) (a5) (b1) (b2) (b3) (0) (0)) rfl
                        have S18 := S17.st 15 (.int .i64 (b4)) (d := mkR (-x) (false) (m) (-y) (true) (m2) (true) (a1) (a2) (a3) (a4) (a5) (b1) (b2) (b3) (b4) (0)) rfl
                        have S19 := S18.st 16 (.int .i64 (b5)) (d := mkR (-x) (false) (m) (-y) (true) (m2) (true) (a1) (a2) (a3) (a4) (a5) (b1) (b2) (b3) (b4) (b5)) rfl
                        go_upto_region 28 with (fail)
                        clear S14 S15 S16 S17 S18
                        clear q12 r12 q13 r13 q14 r14 q15 r15 q16 r16
                        generalize World.setCell _ ⟨w.heap.size + 1, 16, none⟩ (.int .i64 (b5)) = V19 at *
                        have RI := dright_any (mkR (-x) (false) (m) (-y) (true) (m2) (true) (a1) (a2) (a3) (a4) (a5) (b1) (b2) (b3) (b4) (b5)) wide
                        obtain ⟨BB, hBB⟩ : ∃ b, rightB (mkR (-x) (false) (m) (-y) (true) (m2) (true) (a1) (a2) (a3) (a4) (a5) (b1) (b2) (b3) (b4) (b5)) wide = b := ⟨_, rfl⟩
                        rw [hBB] at RI
                        refine wp_region_lit ?_
                        refine wpList_ld rfl 6 (w.heap.size + 1) (mkR (-x) (false) (m) (-y) (true) (m2) (true) (a1) (a2) (a3) (a4) (a5) (b1) (b2) (b3) (b4) (b5)) _ rfl S19.k rfl ?_
                        go_wp2_with fail
                        refine (RI _ (by simp only [maxLen]; omega) (by simp only [maxLen]; omega)).mono ?_; rintro e w3 ⟨rfl, u3⟩
                        clear RI
                        have S20 := S19.call u3
                        clear S19
                        by_cases h10 : t5 = []
                        · have z9 : ((j5 : Int) != (L.length : Int)) = false := by
                              rw [h10] at j5_t
                              have := at_nil j5_t
                              have e : (j5 : Int) = (L.length : Int) := by omega
                              rw [e]; simp
                          cases BB
                          · go_upto_region 30 with (fail)
                            have hres : wholeD wide L = none := by unfold wholeD offD' offD; simp only [h1, h2]; rw [if_neg H3.out]; simp only [h4]; rw [if_neg H5.out]; simp only [h6, h7, h8, h9]; exact if_neg (fun z => by rw [hBB] at z; cases z.2)
                            refine wp_region_lit ?_
                            refine wpList_bl rfl rfl ?_
                            refine wpList_st rfl 4 115 w.heap.size ru0 ru0 27 rfl rfl S20.z rfl rfl ?_
                            have OG := putR_up (r := ru0) S20.u (Nat.le_refl _)
                            have ZB := putR_bk (r := ru0) S20.z
                            clear S20
                            generalize PutR _ w.heap.size ru0 = VV at *
                            go_wp2_with fail
                            refine bodyPost_ret (v := .tuple #[.agg (rA ru0), .bool false]) (res_mix _ 4 5 Tryd.results19 _ _ w.heap.size _ _ _ rfl rfl ZB) rfl ?_
                            rw [← HR.out, hres]
                            exact ⟨rfl, OG⟩
                          · go_upto_region 31 with (fail)
                            have hres : wholeD wide L = some (mkR (-x) (false) (m) (-y) (true) (m2) (true) (a1) (a2) (a3) (a4) (a5) (b1) (b2) (b3) (b4) (b5)) := by unfold wholeD offD' offD; simp only [h1, h2]; rw [if_neg H3.out]; simp only [h4]; rw [if_neg H5.out]; simp only [h6, h7, h8, h9]; exact if_pos ⟨h10, hBB⟩
                            refine wp_region_lit ?_
                            refine wpList_ld rfl 6 (w.heap.size + 1) (mkR (-x) (false) (m) (-y) (true) (m2) (true) (a1) (a2) (a3) (a4) (a5) (b1) (b2) (b3) (b4) (b5)) _ rfl S20.k rfl ?_
                            refine wpList_st rfl 4 116 w.heap.size ru0 (mkR (-x) (false) (m) (-y) (true) (m2) (true) (a1) (a2) (a3) (a4) (a5) (b1) (b2) (b3) (b4) (b5)) 27 rfl rfl S20.z rfl rfl ?_
                            have OG := putR_up (r := (mkR (-x) (false) (m) (-y) (true) (m2) (true) (a1) (a2) (a3) (a4) (a5) (b1) (b2) (b3) (b4) (b5))) S20.u (Nat.le_refl _)
                            have ZB := putR_bk (r := (mkR (-x) (false) (m) (-y) (true) (m2) (true) (a1) (a2) (a3) (a4) (a5) (b1) (b2) (b3) (b4) (b5))) S20.z
                            clear S20
                            generalize PutR _ w.heap.size (mkR (-x) (false) (m) (-y) (true) (m2) (true) (a1) (a2) (a3) (a4) (a5) (b1) (b2) (b3) (b4) (b5)) = VV at *
                            go_wp2_with fail
                            refine bodyPost_ret (v := .tuple #[.agg (rA (mkR (-x) (false) (m) (-y) (true) (m2) (true) (a1) (a2) (a3) (a4) (a5) (b1) (b2) (b3) (b4) (b5))), .bool true]) (res_mix _ 4 5 Tryd.results19 _ _ w.heap.size _ _ _ rfl rfl ZB) rfl ?_
                            rw [← HR.out, hres]
                            exact ⟨rfl, OG⟩
                        · have z9 : ((j5 : Int) != (L.length : Int)) = true := by
                              have : j5 ≠ L.length := fun e => h10 (by rw [← j5_t, e, List.drop_length])
                              simp; omega
                          go_upto_region 30 with (fail)
                          have hres : wholeD wide L = none := by unfold wholeD offD' offD; simp only [h1, h2]; rw [if_neg H3.out]; simp only [h4]; rw [if_neg H5.out]; simp only [h6, h7, h8, h9]; exact if_neg (fun z => h10 z.1)
                          refine wp_region_lit ?_
                          refine wpList_bl rfl rfl ?_
                          refine wpList_st rfl 4 115 w.heap.size ru0 ru0 27 rfl rfl S20.z rfl rfl ?_
                          have OG := putR_up (r := ru0) S20.u (Nat.le_refl _)
                          have ZB := putR_bk (r := ru0) S20.z
                          clear S20
                          generalize PutR _ w.heap.size ru0 = VV at *
                          go_wp2_with fail
                          refine bodyPost_ret (v := .tuple #[.agg (rA ru0), .bool false]) (res_mix _ 4 5 Tryd.results19 _ _ w.heap.size _ _ _ rfl rfl ZB) rfl ?_
                          rw [← HR.out, hres]
                          exact ⟨rfl, OG⟩
end Go.Proofs.YtalpbbgkallohaaDoor
