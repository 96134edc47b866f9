/-
  What a reader takes: rules.
-/
import Derived.Test.YtalpbbgkallohaaDoorLcPu
import Derived.Test.YtalpbbgkallohaaDoorLcRn
import Derived.Deep.Cut
namespace Go.Proofs.YtalpbbgkallohaaDoor
open Go.ChangeShapes Go.WideShapes Go.ChangeAt Go.RowKit Lc

theorem offP_bd {l t : List UInt8} {x : Int} (q : offP l = some (x, t)) : -3600000 < x ∧ x < 3600000 := by
  unfold offP at q
  split at q
  · cases q
  · rename_i y t1 e
    have := signedP_bd (by decide) e
    simp only [Option.some.injEq, Prod.mk.injEq] at q
    omega
theorem change_yes5 {b : Nat} {wide : Bool} {l t : List UInt8} {a1 a2 a3 a4 a5 : Int} {w : World} (h : In w b l wide) (q : changeP wide l = some (⟨a1, a2, a3, a4, a5⟩, t)) :
    Calls Tryd.prog 67 #[.pointer (some ⟨b, 0, none⟩)] w fun e w' => e = .returned (.agg #[.int .i64 a1, .int .i64 a2, .int .i64 a3, .int .i64 a4, .int .i64 a5]) ∧ In w' b t wide ∧ Gb b w w' := change_yes h q
/-- A rule of numbers, flags and texts, field by field. -/
abbrev mkR (so : Int) (sd : Bool) (sn : List UInt8) (dO : Int) (dd : Bool) (dn : List UInt8) (bo : Bool) (a1 a2 a3 a4 a5 b1 b2 b3 b4 b5 : Int) : Ru := ⟨⟨so, sd, sn⟩, ⟨dO, dd, dn⟩, bo, ⟨a1, a2, a3, a4, a5⟩, ⟨b1, b2, b3, b4, b5⟩⟩
/-- A reader's call under way, with a rule of its own. -/
structure Sr (w : World) (b : Nat) (wide : Bool) (V : World) (l : List UInt8) (r : Ru) : Prop where
  i : In V b l wide
  g : Gb b w V
  z : Bk V w.heap.size (rA ru0) 27
  k : Bk V (w.heap.size + 1) (rA r) 27
  lt : b < w.heap.size
theorem Sr.start {w : World} {b : Nat} {wide : Bool} {l : List UInt8} (h : In w b l wide) (r : Ru) : Sr w b wide ((w.alloc (.cells (rA ru0) 27)).alloc (.cells (rA r) 27)) l r := by
  have u1 := Up.alloc w (.cells (rA ru0) 27)
  have u2 := Up.alloc (w.alloc (.cells (rA ru0) 27)) (.cells (rA r) 27)
  have n2 := Bk.new (w.alloc (.cells (rA ru0) 27)) (rA r) 27 (by decide)
  rw [World.size_alloc] at n2
  exact ⟨(h.up u1).up u2, Gb.of (u1.trans u2), (Bk.new w _ _ (by decide)).up u2, n2, h.lt⟩
theorem Sr.call {w : World} {b : Nat} {wide : Bool} {V V' : World} {l t : List UInt8} {r : Ru} (h : Sr w b wide V l r) (i : In V' b t wide) (g : Gb b V V') : Sr w b wide V' t r :=
  ⟨i, h.g.trans g, h.z.gb g (by have := h.lt; omega), h.k.gb g (by have := h.lt; omega), h.lt⟩
theorem Sr.st {w : World} {b : Nat} {wide : Bool} {V : World} {l : List UInt8} {r d : Ru} (h : Sr w b wide V l r) (o : Nat) (u : Value) (e : (rA r).setIfInBounds o u = rA d) : Sr w b wide (V.setCell ⟨w.heap.size + 1, o, none⟩ u) l d :=
  ⟨h.i.oth (by have := h.lt; omega) o u, h.g.new (by omega) o u, h.z.oth (by omega) o u, by have := h.k.set o u; rw [e] at this; exact this, h.lt⟩
theorem Sr.froz {w : World} {b : Nat} {wide : Bool} {V : World} {l : List UInt8} {r : Ru} (h : Sr w b wide V l r) :
    V.frozen? ⟨w.heap.size + 1, 0, none⟩ = false ∧ V.frozen? ⟨w.heap.size + 1, 1, none⟩ = false ∧ V.frozen? ⟨w.heap.size + 1, 2, none⟩ = false ∧ V.frozen? ⟨w.heap.size + 1, 3, none⟩ = false ∧ V.frozen? ⟨w.heap.size + 1, 4, none⟩ = false ∧ V.frozen? ⟨w.heap.size + 1, 5, none⟩ = false ∧ V.frozen? ⟨w.heap.size + 1, 6, none⟩ = false ∧ V.frozen? ⟨w.heap.size + 1, 7, none⟩ = false ∧ V.frozen? ⟨w.heap.size + 1, 8, none⟩ = false ∧ V.frozen? ⟨w.heap.size + 1, 9, none⟩ = false ∧ V.frozen? ⟨w.heap.size + 1, 10, none⟩ = false ∧ V.frozen? ⟨w.heap.size + 1, 11, none⟩ = false ∧ V.frozen? ⟨w.heap.size + 1, 12, none⟩ = false ∧ V.frozen? ⟨w.heap.size + 1, 13, none⟩ = false ∧ V.frozen? ⟨w.heap.size + 1, 14, none⟩ = false ∧ V.frozen? ⟨w.heap.size + 1, 15, none⟩ = false ∧ V.frozen? ⟨w.heap.size + 1, 16, none⟩ = false :=
  ⟨h.k.frozen 0, h.k.frozen 1, h.k.frozen 2, h.k.frozen 3, h.k.frozen 4, h.k.frozen 5, h.k.frozen 6, h.k.frozen 7, h.k.frozen 8, h.k.frozen 9, h.k.frozen 10, h.k.frozen 11, h.k.frozen 12, h.k.frozen 13, h.k.frozen 14, h.k.frozen 15, h.k.frozen 16⟩
theorem Sr.froz0 {w : World} {b : Nat} {wide : Bool} {V : World} {l : List UInt8} {r : Ru} (h : Sr w b wide V l r) :
    V.frozen? ⟨w.heap.size, 0, none⟩ = false ∧ V.frozen? ⟨w.heap.size, 1, none⟩ = false ∧ V.frozen? ⟨w.heap.size, 2, none⟩ = false ∧ V.frozen? ⟨w.heap.size, 3, none⟩ = false ∧ V.frozen? ⟨w.heap.size, 4, none⟩ = false ∧ V.frozen? ⟨w.heap.size, 5, none⟩ = false ∧ V.frozen? ⟨w.heap.size, 6, none⟩ = false ∧ V.frozen? ⟨w.heap.size, 7, none⟩ = false ∧ V.frozen? ⟨w.heap.size, 8, none⟩ = false ∧ V.frozen? ⟨w.heap.size, 9, none⟩ = false ∧ V.frozen? ⟨w.heap.size, 10, none⟩ = false ∧ V.frozen? ⟨w.heap.size, 11, none⟩ = false ∧ V.frozen? ⟨w.heap.size, 12, none⟩ = false ∧ V.frozen? ⟨w.heap.size, 13, none⟩ = false ∧ V.frozen? ⟨w.heap.size, 14, none⟩ = false ∧ V.frozen? ⟨w.heap.size, 15, none⟩ = false ∧ V.frozen? ⟨w.heap.size, 16, none⟩ = false :=
  ⟨h.z.frozen 0, h.z.frozen 1, h.z.frozen 2, h.z.frozen 3, h.z.frozen 4, h.z.frozen 5, h.z.frozen 6, h.z.frozen 7, h.z.frozen 8, h.z.frozen 9, h.z.frozen 10, h.z.frozen 11, h.z.frozen 12, h.z.frozen 13, h.z.frozen 14, h.z.frozen 15, h.z.frozen 16⟩
set_option maxRecDepth 100000 in
set_option maxHeartbeats 8000000 in
theorem rule_any (b : Nat) (wide : Bool) (l : List UInt8) (w : World) (h : In w b l wide) :
    Calls Tryd.prog 58 #[.pointer (some ⟨b, 0, none⟩)] w fun e w' => An b wide w ((ruleP wide l).map fun x => (Value.agg (rA x.1), x.2)) e w' := by
  obtain ⟨R, hR⟩ : ∃ R, (ruleP wide l).map (fun x => (Value.agg (rA x.1), x.2)) = R := ⟨_, rfl⟩
  rw [hR]
  have HR := Lib.hid hR
  clear hR
  have S0 := Sr.start h ru0

  clear h
  go_enter Tryd.func58, Tryd.ntmps58
  go_wp2_with fail
  cases h1 : nameP l with
  | none =>
    refine (name_no S0.i h1).mono ?_
    rintro e w1 ⟨rfl, g1⟩
    go_wp2_with fail
    have hres : ruleP wide l = none := by unfold ruleP offP' endsP; simp only [h1]
    rw [← HR.out, hres]
    exact ⟨rfl, rfl, S0.g.trans g1⟩
  | some x1 =>
    obtain ⟨m, t⟩ := x1
    refine (name_yes S0.i h1).mono ?_
    rintro e w1 ⟨rfl, i1, g1⟩
    have S1 := S0.call i1 g1
    clear i1 g1 S0
    have q2 : w1.cell? ⟨w.heap.size + 1, 2, none⟩ = some (.string (tx [])) := S1.k.cell 2
    have r2 : w1.frozen? ⟨w.heap.size + 1, 2, none⟩ = false := S1.k.frozen 2
    have S2 := S1.st 2 (.string (tx m)) (d := mkR (0) (false) (m) (0) (false) ([]) (false) (0) (0) (0) (0) (0) (0) (0) (0) (0) (0)) rfl
    go_wp2_with fail
    clear S1
    cases h2 : offP t with
    | none =>
      refine (off_no S2.i h2).mono ?_
      rintro e w3 ⟨rfl, g3⟩
      go_wp2_with fail
      have hres : ruleP wide l = none := by unfold ruleP offP' endsP; simp only [h1, h2]
      rw [← HR.out, hres]
      exact ⟨rfl, rfl, S2.g.trans g3⟩
    | some x2 =>
      obtain ⟨o, t1⟩ := x2
      have ob := offP_bd h2
      have ww : wrap64 (o + 3600) = o + 3600 := wrap_fit (fitB_true.2 (by omega))
      by_cases h3 : t1 = []
      · have z3 : (tx t1).toList.isEmpty = true := by rw [tx_toList, h3]; rfl
        have H3 := Lib.hid h3
        clear h3
        refine (off_yes S2.i h2).mono ?_
        rintro e w3 ⟨rfl, i3, g3⟩
        have S3 := S2.call i3 g3
        clear i3 g3 S2
        clear q2 r2
        have q0 : w3.cell? ⟨w.heap.size + 1, 0, none⟩ = some (.int .i64 (0)) := S3.k.cell 0
        have r0 : w3.frozen? ⟨w.heap.size + 1, 0, none⟩ = false := S3.k.frozen 0
        have S4 := S3.st 0 (.int .i64 (o)) (d := mkR (o) (false) (m) (0) (false) ([]) (false) (0) (0) (0) (0) (0) (0) (0) (0) (0) (0)) rfl
        have ccc := S4.i.c0
        go_upto_region 5 with (fail)
        clear S3
        generalize World.setCell _ ⟨w.heap.size + 1, 0, none⟩ (.int .i64 (o)) = VX3 at *
        clear q0 r0 ccc
        have hres : ruleP wide l = some (mkR (o) (false) (m) (0) (false) ([]) (false) (0) (0) (0) (0) (0) (0) (0) (0) (0) (0), []) := by unfold ruleP offP' endsP; simp only [h1, h2]; rw [if_pos H3.out]; rfl
        refine wp_region_lit ?_
        refine wpList_plain rfl fun K hK => wp_run (ex_ldRu _ _ _ 3 (w.heap.size + 1) (mkR (o) (false) (m) (0) (false) ([]) (false) (0) (0) (0) (0) (0) (0) (0) (0) (0) (0)) _ rfl S4.k rfl) (hK _ _ ?_)
        refine wpList_plain rfl fun K2 hK2 => wp_stRu _ _ _ 2 17 w.heap.size ru0 (mkR (o) (false) (m) (0) (false) ([]) (false) (0) (0) (0) (0) (0) (0) (0) (0) (0) (0)) _ rfl rfl S4.z rfl rfl (hK2 _ _ ?_)
        have OI := putR_in (r := (mkR (o) (false) (m) (0) (false) ([]) (false) (0) (0) (0) (0) (0) (0) (0) (0) (0) (0))) S4.i (show b ≠ w.heap.size by have := S4.lt; omega)
        have OG := putR_gb (r := (mkR (o) (false) (m) (0) (false) ([]) (false) (0) (0) (0) (0) (0) (0) (0) (0) (0) (0))) S4.g (Nat.le_refl _)
        rw [H3.out] at OI
        have ZB := putR_bk (r := (mkR (o) (false) (m) (0) (false) ([]) (false) (0) (0) (0) (0) (0) (0) (0) (0) (0) (0))) S4.z
        clear S4 hK hK2
        generalize PutR _ w.heap.size (mkR (o) (false) (m) (0) (false) ([]) (false) (0) (0) (0) (0) (0) (0) (0) (0) (0) (0)) = VV at *
        go_wp2_with fail
        refine bodyPost_ret (v := .agg (rA (mkR (o) (false) (m) (0) (false) ([]) (false) (0) (0) (0) (0) (0) (0) (0) (0) (0) (0)))) (res_one _ 2 Tryd.results58 _ _ w.heap.size _ _ rfl ZB) rfl ?_
        rw [← HR.out, hres]
        exact ⟨rfl, OI, OG⟩
      · have z3 : (tx t1).toList.isEmpty = false := by rw [tx_toList]; simpa using h3
        have H3 := Lib.hid h3
        clear h3
        refine (off_yes S2.i h2).mono ?_
        rintro e w3 ⟨rfl, i3, g3⟩
        have S3 := S2.call i3 g3
        clear i3 g3 S2
        clear q2 r2
        have q0 : w3.cell? ⟨w.heap.size + 1, 0, none⟩ = some (.int .i64 (0)) := S3.k.cell 0
        have r0 : w3.frozen? ⟨w.heap.size + 1, 0, none⟩ = false := S3.k.frozen 0
        have q6 : w3.cell? ⟨w.heap.size + 1, 6, none⟩ = some (.bool false) := S3.k.cell 6
        have r6 : w3.frozen? ⟨w.heap.size + 1, 6, none⟩ = false := S3.k.frozen 6
        have q4 : w3.cell? ⟨w.heap.size + 1, 4, none⟩ = some (.bool false) := S3.k.cell 4
        have r4 : w3.frozen? ⟨w.heap.size + 1, 4, none⟩ = false := S3.k.frozen 4
        have S4 := S3.st 0 (.int .i64 (o)) (d := mkR (o) (false) (m) (0) (false) ([]) (false) (0) (0) (0) (0) (0) (0) (0) (0) (0) (0)) rfl
        have ccc := S4.i.c0
        have S5 := S4.st 6 (.bool true) (d := mkR (o) (false) (m) (0) (false) ([]) (true) (0) (0) (0) (0) (0) (0) (0) (0) (0) (0)) rfl
        have S6 := S5.st 4 (.bool true) (d := mkR (o) (false) (m) (0) (true) ([]) (true) (0) (0) (0) (0) (0) (0) (0) (0) (0) (0)) rfl
        go_wp2_with fail
        clear S3 S4 S5
        generalize World.setCell _ ⟨w.heap.size + 1, 4, none⟩ (.bool true) = VX3 at *
        as_aux_lemma =>
          cases h4 : nameP t1 with
          | none =>
            refine (name_no S6.i h4).mono ?_
            rintro e w7 ⟨rfl, g7⟩
            go_wp2_with fail
            have hres : ruleP wide l = none := by unfold ruleP offP' endsP; simp only [h1, h2]; rw [if_neg H3.out]; simp only [h4]
            rw [← HR.out, hres]
            exact ⟨rfl, rfl, S6.g.trans g7⟩
          | some x4 =>
            obtain ⟨m2, t2⟩ := x4
            refine (name_yes S6.i h4).mono ?_
            rintro e w7 ⟨rfl, i7, g7⟩
            have S7 := S6.call i7 g7
            clear i7 g7 S6
            clear q0 r0 q6 r6 q4 r4 ccc
            have q5 : w7.cell? ⟨w.heap.size + 1, 5, none⟩ = some (.string (tx [])) := S7.k.cell 5
            have r5 : w7.frozen? ⟨w.heap.size + 1, 5, none⟩ = false := S7.k.frozen 5
            have q0 : w7.cell? ⟨w.heap.size + 1, 0, none⟩ = some (.int .i64 (o)) := S7.k.cell 0
            have r0 : w7.frozen? ⟨w.heap.size + 1, 0, none⟩ = false := S7.k.frozen 0
            have q3 : w7.cell? ⟨w.heap.size + 1, 3, none⟩ = some (.int .i64 (0)) := S7.k.cell 3
            have r3 : w7.frozen? ⟨w.heap.size + 1, 3, none⟩ = false := S7.k.frozen 3
            have S8 := S7.st 5 (.string (tx m2)) (d := mkR (o) (false) (m) (0) (true) (m2) (true) (0) (0) (0) (0) (0) (0) (0) (0) (0) (0)) rfl
            have S9 := S8.st 3 (.int .i64 (o + 3600)) (d := mkR (o) (false) (m) (o + 3600) (true) (m2) (true) (0) (0) (0) (0) (0) (0) (0) (0) (0) (0)) rfl
            go_wp2_with fail
            clear S7 S8
            generalize World.setCell _ ⟨w.heap.size + 1, 3, none⟩ (.int .i64 (o + 3600)) = VX7 at *
            cases h5 : takeP 44 t2 with
            | some t3 =>
              refine (takes_yes b wide 44 t2 t3 _ S9.i h5).mono ?_
              rintro e w10 ⟨rfl, i10, g10⟩
              have S10 := S9.call i10 g10
              clear i10 g10 S9
              clear q5 r5 q0 r0 q3 r3
              go_wp2_with fail
              as_aux_lemma =>
                cases h8 : changeP wide t3 with
                | none =>
                  refine (change_no S10.i h8).mono ?_
                  rintro e w11 ⟨rfl, g11⟩
                  go_wp2_with fail
                  have hres : ruleP wide l = none := by unfold ruleP offP' endsP; simp only [h1, h2]; rw [if_neg H3.out]; simp only [h4, h5, h8]
                  rw [← HR.out, hres]
                  exact ⟨rfl, rfl, S10.g.trans g11⟩
                | some x8 =>
                  obtain ⟨⟨a1, a2, a3, a4, a5⟩, t4⟩ := x8
                  refine (change_yes5 S10.i h8).mono ?_
                  rintro e w11 ⟨rfl, i11, g11⟩
                  have S11 := S10.call i11 g11
                  clear i11 g11 S10
                  have q7 : w11.cell? ⟨w.heap.size + 1, 7, none⟩ = some (.int .i64 (0)) := S11.k.cell 7
                  have r7 : w11.frozen? ⟨w.heap.size + 1, 7, none⟩ = false := S11.k.frozen 7
                  have q8 : w11.cell? ⟨w.heap.size + 1, 8, none⟩ = some (.int .i64 (0)) := S11.k.cell 8
                  have r8 : w11.frozen? ⟨w.heap.size + 1, 8, none⟩ = false := S11.k.frozen 8
                  have q9 : w11.cell? ⟨w.heap.size + 1, 9, none⟩ = some (.int .i64 (0)) := S11.k.cell 9
                  have r9 : w11.frozen? ⟨w.heap.size + 1, 9, none⟩ = false := S11.k.frozen 9
                  have q10 : w11.cell? ⟨w.heap.size + 1, 10, none⟩ = some (.int .i64 (0)) := S11.k.cell 10
                  have r10 : w11.frozen? ⟨w.heap.size + 1, 10, none⟩ = false := S11.k.frozen 10
                  have q11 : w11.cell? ⟨w.heap.size + 1, 11, none⟩ = some (.int .i64 (0)) := S11.k.cell 11
                  have r11 : w11.frozen? ⟨w.heap.size + 1, 11, none⟩ = false := S11.k.frozen 11
                  have S12 := S11.st 7 (.int .i64 (a1)) (d := mkR (o) (false) (m) (o + 3600) (true) (m2) (true) (a1) (0) (0) (0) (0) (0) (0) (0) (0) (0)) rfl
                  have S13 := S12.st 8 (.int .i64 (a2)) (d := mkR (o) (false) (m) (o + 3600) (true) (m2) (true) (a1) (a2) (0) (0) (0) (0) (0) (0) (0) (0)) rfl
                  have S14 := S13.st 9 (.int .i64 (a3)) (d := mkR (o) (false) (m) (o + 3600) (true) (m2) (true) (a1) (a2) (a3) (0) (0) (0) (0) (0) (0) (0)) rfl
                  have S15 := S14.st 10 (.int .i64 (a4)) (d := mkR (o) (false) (m) (o + 3600) (true) (m2) (true) (a1) (a2) (a3) (a4) (0) (0) (0) (0) (0) (0)) rfl
                  have S16 := S15.st 11 (.int .i64 (a5)) (d := mkR (o) (false) (m) (o + 3600) (true) (m2) (true) (a1) (a2) (a3) (a4) (a5) (0) (0) (0) (0) (0)) rfl
                  go_wp2_with fail
                  clear S11 S12 S13 S14 S15
                  generalize World.setCell _ ⟨w.heap.size + 1, 11, none⟩ (.int .i64 (a5)) = VX11 at *
                  cases h9 : takeP 44 t4 with
                  | none =>
                    refine (needs_no b wide 44 t4 _ S16.i h9).mono ?_
                    rintro e w17 ⟨rfl, g17⟩
                    go_wp2_with fail
                    have hres : ruleP wide l = none := by unfold ruleP offP' endsP; simp only [h1, h2]; rw [if_neg H3.out]; simp only [h4, h5, h8, h9]
                    rw [← HR.out, hres]
                    exact ⟨rfl, rfl, S16.g.trans g17⟩
                  | some t5 =>
                    refine (needs_yes b wide 44 t4 t5 _ S16.i h9).mono ?_
                    rintro e w17 ⟨rfl, i17, g17⟩
                    have S17 := S16.call i17 g17
                    clear i17 g17 S16
                    clear q7 r7 q8 r8 q9 r9 q10 r10 q11 r11
                    go_wp2_with fail
                    as_aux_lemma =>
                      cases h10 : changeP wide t5 with
                      | none =>
                        refine (change_no S17.i h10).mono ?_
                        rintro e w18 ⟨rfl, g18⟩
                        go_wp2_with fail
                        have hres : ruleP wide l = none := by unfold ruleP offP' endsP; simp only [h1, h2]; rw [if_neg H3.out]; simp only [h4, h5, h8, h9, h10]
                        rw [← HR.out, hres]
                        exact ⟨rfl, rfl, S17.g.trans g18⟩
                      | some x10 =>
                        obtain ⟨⟨b1, b2, b3, b4, b5⟩, t6⟩ := x10
                        refine (change_yes5 S17.i h10).mono ?_
                        rintro e w18 ⟨rfl, i18, g18⟩
                        have S18 := S17.call i18 g18
                        clear i18 g18 S17
                        have q12 : w18.cell? ⟨w.heap.size + 1, 12, none⟩ = some (.int .i64 (0)) := S18.k.cell 12
                        have r12 : w18.frozen? ⟨w.heap.size + 1, 12, none⟩ = false := S18.k.frozen 12
                        have q13 : w18.cell? ⟨w.heap.size + 1, 13, none⟩ = some (.int .i64 (0)) := S18.k.cell 13
                        have r13 : w18.frozen? ⟨w.heap.size + 1, 13, none⟩ = false := S18.k.frozen 13
                        have q14 : w18.cell? ⟨w.heap.size + 1, 14, none⟩ = some (.int .i64 (0)) := S18.k.cell 14
                        have r14 : w18.frozen? ⟨w.heap.size + 1, 14, none⟩ = false := S18.k.frozen 14
                        have q15 : w18.cell? ⟨w.heap.size + 1, 15, none⟩ = some (.int .i64 (0)) := S18.k.cell 15
                        have r15 : w18.frozen? ⟨w.heap.size + 1, 15, none⟩ = false := S18.k.frozen 15
                        have q16 : w18.cell? ⟨w.heap.size + 1, 16, none⟩ = some (.int .i64 (0)) := S18.k.cell 16
                        have r16 : w18.frozen? ⟨w.heap.size + 1, 16, none⟩ = false := S18.k.frozen 16
                        have S19 := S18.st 12 (.int .i64 (b1)) (d := mkR (o) (false) (m) (o + 3600) (true) (m2) (true) (a1) (a2) (a3) (a4) (a5) (b1) (0) (0) (0) (0)) rfl
                        have S20 := S19.st 13 (.int .i64 (b2)) (d := mkR (o) (false) (m) (o + 3600) (true) (m2) (true) (a1) (a2) (a3) (a4) (a5) (b1) (b2) (0) (0) (0)) rfl
                        have S21 := S20.st 14 (.int .i64 (b3)) (d := mkR (o) (false) (m) (o + 3600) (true) (m2) (true) (a1) (a2) (a3) (a4) (a5) (b1) (b2) (b3) (0) (0)) rfl
                        have S22 := S21.st 15 (.int .i64 (b4)) (d := mkR (o) (false) (m) (o + 3600) (true) (m2) (true) (a1) (a2) (a3) (a4) (a5) (b1) (b2) (b3) (b4) (0)) rfl
                        have S23 := S22.st 16 (.int .i64 (b5)) (d := mkR (o) (false) (m) (o + 3600) (true) (m2) (true) (a1) (a2) (a3) (a4) (a5) (b1) (b2) (b3) (b4) (b5)) rfl
                        go_upto_region 16 with (fail)
                        clear S18 S19 S20 S21 S22
                        generalize World.setCell _ ⟨w.heap.size + 1, 16, none⟩ (.int .i64 (b5)) = VX18 at *
                        clear q12 r12 q13 r13 q14 r14 q15 r15 q16 r16
                        have hres : ruleP wide l = some (mkR (o) (false) (m) (o + 3600) (true) (m2) (true) (a1) (a2) (a3) (a4) (a5) (b1) (b2) (b3) (b4) (b5), t6) := by unfold ruleP offP' endsP; simp only [h1, h2]; rw [if_neg H3.out]; simp only [h4, h5, h8, h9, h10]
                        refine wp_region_lit ?_
                        refine wpList_plain rfl fun K hK => wp_run (ex_ldRu _ _ _ 3 (w.heap.size + 1) (mkR (o) (false) (m) (o + 3600) (true) (m2) (true) (a1) (a2) (a3) (a4) (a5) (b1) (b2) (b3) (b4) (b5)) _ rfl S23.k rfl) (hK _ _ ?_)
                        refine wpList_plain rfl fun K2 hK2 => wp_stRu _ _ _ 2 48 w.heap.size ru0 (mkR (o) (false) (m) (o + 3600) (true) (m2) (true) (a1) (a2) (a3) (a4) (a5) (b1) (b2) (b3) (b4) (b5)) _ rfl rfl S23.z rfl rfl (hK2 _ _ ?_)
                        have OI := putR_in (r := (mkR (o) (false) (m) (o + 3600) (true) (m2) (true) (a1) (a2) (a3) (a4) (a5) (b1) (b2) (b3) (b4) (b5))) S23.i (show b ≠ w.heap.size by have := S23.lt; omega)
                        have OG := putR_gb (r := (mkR (o) (false) (m) (o + 3600) (true) (m2) (true) (a1) (a2) (a3) (a4) (a5) (b1) (b2) (b3) (b4) (b5))) S23.g (Nat.le_refl _)
                        have ZB := putR_bk (r := (mkR (o) (false) (m) (o + 3600) (true) (m2) (true) (a1) (a2) (a3) (a4) (a5) (b1) (b2) (b3) (b4) (b5))) S23.z
                        clear S23 hK hK2
                        generalize PutR _ w.heap.size (mkR (o) (false) (m) (o + 3600) (true) (m2) (true) (a1) (a2) (a3) (a4) (a5) (b1) (b2) (b3) (b4) (b5)) = VV at *
                        go_wp2_with fail
                        refine bodyPost_ret (v := .agg (rA (mkR (o) (false) (m) (o + 3600) (true) (m2) (true) (a1) (a2) (a3) (a4) (a5) (b1) (b2) (b3) (b4) (b5)))) (res_one _ 2 Tryd.results58 _ _ w.heap.size _ _ rfl ZB) rfl ?_
                        rw [← HR.out, hres]
                        exact ⟨rfl, OI, OG⟩
            | none =>
              refine (takes_no b wide 44 t2 _ S9.i h5).mono ?_
              rintro e w10 ⟨rfl, i10, g10⟩
              have S10 := S9.call i10 g10
              clear i10 g10 S9
              clear q5 r5 q0 r0 q3 r3
              go_wp2_with fail
              cases h6 : offP t2 with
              | none =>
                refine (off_no S10.i h6).mono ?_
                rintro e w11 ⟨rfl, g11⟩
                go_wp2_with fail
                have hres : ruleP wide l = none := by unfold ruleP offP' endsP; simp only [h1, h2]; rw [if_neg H3.out]; simp only [h4, h5, h6]
                rw [← HR.out, hres]
                exact ⟨rfl, rfl, S10.g.trans g11⟩
              | some x6 =>
                obtain ⟨o2, t22⟩ := x6
                refine (off_yes S10.i h6).mono ?_
                rintro e w11 ⟨rfl, i11, g11⟩
                have S11 := S10.call i11 g11
                clear i11 g11 S10
                have q3 : w11.cell? ⟨w.heap.size + 1, 3, none⟩ = some (.int .i64 (o + 3600)) := S11.k.cell 3
                have r3 : w11.frozen? ⟨w.heap.size + 1, 3, none⟩ = false := S11.k.frozen 3
                have S12 := S11.st 3 (.int .i64 (o2)) (d := mkR (o) (false) (m) (o2) (true) (m2) (true) (0) (0) (0) (0) (0) (0) (0) (0) (0) (0)) rfl
                go_wp2_with fail
                clear S11
                cases h7 : takeP 44 t22 with
                | none =>
                  refine (needs_no b wide 44 t22 _ S12.i h7).mono ?_
                  rintro e w13 ⟨rfl, g13⟩
                  go_wp2_with fail
                  have hres : ruleP wide l = none := by unfold ruleP offP' endsP; simp only [h1, h2]; rw [if_neg H3.out]; simp only [h4, h5, h6, h7]
                  rw [← HR.out, hres]
                  exact ⟨rfl, rfl, S12.g.trans g13⟩
                | some t3 =>
                  refine (needs_yes b wide 44 t22 t3 _ S12.i h7).mono ?_
                  rintro e w13 ⟨rfl, i13, g13⟩
                  have S13 := S12.call i13 g13
                  clear i13 g13 S12
                  clear q3 r3
                  go_wp2_with fail
                  as_aux_lemma =>
                    cases h8 : changeP wide t3 with
                    | none =>
                      refine (change_no S13.i h8).mono ?_
                      rintro e w14 ⟨rfl, g14⟩
                      go_wp2_with fail
                      have hres : ruleP wide l = none := by unfold ruleP offP' endsP; simp only [h1, h2]; rw [if_neg H3.out]; simp only [h4, h5, h6, h7, h8]
                      rw [← HR.out, hres]
                      exact ⟨rfl, rfl, S13.g.trans g14⟩
                    | some x8 =>
                      obtain ⟨⟨a1, a2, a3, a4, a5⟩, t4⟩ := x8
                      refine (change_yes5 S13.i h8).mono ?_
                      rintro e w14 ⟨rfl, i14, g14⟩
                      have S14 := S13.call i14 g14
                      clear i14 g14 S13
                      have q7 : w14.cell? ⟨w.heap.size + 1, 7, none⟩ = some (.int .i64 (0)) := S14.k.cell 7
                      have r7 : w14.frozen? ⟨w.heap.size + 1, 7, none⟩ = false := S14.k.frozen 7
                      have q8 : w14.cell? ⟨w.heap.size + 1, 8, none⟩ = some (.int .i64 (0)) := S14.k.cell 8
                      have r8 : w14.frozen? ⟨w.heap.size + 1, 8, none⟩ = false := S14.k.frozen 8
                      have q9 : w14.cell? ⟨w.heap.size + 1, 9, none⟩ = some (.int .i64 (0)) := S14.k.cell 9
                      have r9 : w14.frozen? ⟨w.heap.size + 1, 9, none⟩ = false := S14.k.frozen 9
                      have q10 : w14.cell? ⟨w.heap.size + 1, 10, none⟩ = some (.int .i64 (0)) := S14.k.cell 10
                      have r10 : w14.frozen? ⟨w.heap.size + 1, 10, none⟩ = false := S14.k.frozen 10
                      have q11 : w14.cell? ⟨w.heap.size + 1, 11, none⟩ = some (.int .i64 (0)) := S14.k.cell 11
                      have r11 : w14.frozen? ⟨w.heap.size + 1, 11, none⟩ = false := S14.k.frozen 11
                      have S15 := S14.st 7 (.int .i64 (a1)) (d := mkR (o) (false) (m) (o2) (true) (m2) (true) (a1) (0) (0) (0) (0) (0) (0) (0) (0) (0)) rfl
                      have S16 := S15.st 8 (.int .i64 (a2)) (d := mkR (o) (false) (m) (o2) (true) (m2) (true) (a1) (a2) (0) (0) (0) (0) (0) (0) (0) (0)) rfl
                      have S17 := S16.st 9 (.int .i64 (a3)) (d := mkR (o) (false) (m) (o2) (true) (m2) (true) (a1) (a2) (a3) (0) (0) (0) (0) (0) (0) (0)) rfl
                      have S18 := S17.st 10 (.int .i64 (a4)) (d := mkR (o) (false) (m) (o2) (true) (m2) (true) (a1) (a2) (a3) (a4) (0) (0) (0) (0) (0) (0)) rfl
                      have S19 := S18.st 11 (.int .i64 (a5)) (d := mkR (o) (false) (m) (o2) (true) (m2) (true) (a1) (a2) (a3) (a4) (a5) (0) (0) (0) (0) (0)) rfl
                      go_wp2_with fail
                      clear S14 S15 S16 S17 S18
                      generalize World.setCell _ ⟨w.heap.size + 1, 11, none⟩ (.int .i64 (a5)) = VX14 at *
                      cases h9 : takeP 44 t4 with
                      | none =>
                        refine (needs_no b wide 44 t4 _ S19.i h9).mono ?_
                        rintro e w20 ⟨rfl, g20⟩
                        go_wp2_with fail
                        have hres : ruleP wide l = none := by unfold ruleP offP' endsP; simp only [h1, h2]; rw [if_neg H3.out]; simp only [h4, h5, h6, h7, h8, h9]
                        rw [← HR.out, hres]
                        exact ⟨rfl, rfl, S19.g.trans g20⟩
                      | some t5 =>
                        refine (needs_yes b wide 44 t4 t5 _ S19.i h9).mono ?_
                        rintro e w20 ⟨rfl, i20, g20⟩
                        have S20 := S19.call i20 g20
                        clear i20 g20 S19
                        clear q7 r7 q8 r8 q9 r9 q10 r10 q11 r11
                        go_wp2_with fail
                        as_aux_lemma =>
                          cases h10 : changeP wide t5 with
                          | none =>
                            refine (change_no S20.i h10).mono ?_
                            rintro e w21 ⟨rfl, g21⟩
                            go_wp2_with fail
                            have hres : ruleP wide l = none := by unfold ruleP offP' endsP; simp only [h1, h2]; rw [if_neg H3.out]; simp only [h4, h5, h6, h7, h8, h9, h10]
                            rw [← HR.out, hres]
                            exact ⟨rfl, rfl, S20.g.trans g21⟩
                          | some x10 =>
                            obtain ⟨⟨b1, b2, b3, b4, b5⟩, t6⟩ := x10
                            refine (change_yes5 S20.i h10).mono ?_
                            rintro e w21 ⟨rfl, i21, g21⟩
                            have S21 := S20.call i21 g21
                            clear i21 g21 S20
                            have q12 : w21.cell? ⟨w.heap.size + 1, 12, none⟩ = some (.int .i64 (0)) := S21.k.cell 12
                            have r12 : w21.frozen? ⟨w.heap.size + 1, 12, none⟩ = false := S21.k.frozen 12
                            have q13 : w21.cell? ⟨w.heap.size + 1, 13, none⟩ = some (.int .i64 (0)) := S21.k.cell 13
                            have r13 : w21.frozen? ⟨w.heap.size + 1, 13, none⟩ = false := S21.k.frozen 13
                            have q14 : w21.cell? ⟨w.heap.size + 1, 14, none⟩ = some (.int .i64 (0)) := S21.k.cell 14
                            have r14 : w21.frozen? ⟨w.heap.size + 1, 14, none⟩ = false := S21.k.frozen 14
                            have q15 : w21.cell? ⟨w.heap.size + 1, 15, none⟩ = some (.int .i64 (0)) := S21.k.cell 15
                            have r15 : w21.frozen? ⟨w.heap.size + 1, 15, none⟩ = false := S21.k.frozen 15
                            have q16 : w21.cell? ⟨w.heap.size + 1, 16, none⟩ = some (.int .i64 (0)) := S21.k.cell 16
                            have r16 : w21.frozen? ⟨w.heap.size + 1, 16, none⟩ = false := S21.k.frozen 16
                            have S22 := S21.st 12 (.int .i64 (b1)) (d := mkR (o) (false) (m) (o2) (true) (m2) (true) (a1) (a2) (a3) (a4) (a5) (b1) (0) (0) (0) (0)) rfl
                            have S23 := S22.st 13 (.int .i64 (b2)) (d := mkR (o) (false) (m) (o2) (true) (m2) (true) (a1) (a2) (a3) (a4) (a5) (b1) (b2) (0) (0) (0)) rfl
                            have S24 := S23.st 14 (.int .i64 (b3)) (d := mkR (o) (false) (m) (o2) (true) (m2) (true) (a1) (a2) (a3) (a4) (a5) (b1) (b2) (b3) (0) (0)) rfl
                            have S25 := S24.st 15 (.int .i64 (b4)) (d := mkR (o) (false) (m) (o2) (true) (m2) (true) (a1) (a2) (a3) (a4) (a5) (b1) (b2) (b3) (b4) (0)) rfl
                            have S26 := S25.st 16 (.int .i64 (b5)) (d := mkR (o) (false) (m) (o2) (true) (m2) (true) (a1) (a2) (a3) (a4) (a5) (b1) (b2) (b3) (b4) (b5)) rfl
                            go_upto_region 16 with (fail)
                            clear S21 S22 S23 S24 S25
                            generalize World.setCell _ ⟨w.heap.size + 1, 16, none⟩ (.int .i64 (b5)) = VX21 at *
                            clear q12 r12 q13 r13 q14 r14 q15 r15 q16 r16
                            have hres : ruleP wide l = some (mkR (o) (false) (m) (o2) (true) (m2) (true) (a1) (a2) (a3) (a4) (a5) (b1) (b2) (b3) (b4) (b5), t6) := by unfold ruleP offP' endsP; simp only [h1, h2]; rw [if_neg H3.out]; simp only [h4, h5, h6, h7, h8, h9, h10]
                            refine wp_region_lit ?_
                            refine wpList_plain rfl fun K hK => wp_run (ex_ldRu _ _ _ 3 (w.heap.size + 1) (mkR (o) (false) (m) (o2) (true) (m2) (true) (a1) (a2) (a3) (a4) (a5) (b1) (b2) (b3) (b4) (b5)) _ rfl S26.k rfl) (hK _ _ ?_)
                            refine wpList_plain rfl fun K2 hK2 => wp_stRu _ _ _ 2 48 w.heap.size ru0 (mkR (o) (false) (m) (o2) (true) (m2) (true) (a1) (a2) (a3) (a4) (a5) (b1) (b2) (b3) (b4) (b5)) _ rfl rfl S26.z rfl rfl (hK2 _ _ ?_)
                            have OI := putR_in (r := (mkR (o) (false) (m) (o2) (true) (m2) (true) (a1) (a2) (a3) (a4) (a5) (b1) (b2) (b3) (b4) (b5))) S26.i (show b ≠ w.heap.size by have := S26.lt; omega)
                            have OG := putR_gb (r := (mkR (o) (false) (m) (o2) (true) (m2) (true) (a1) (a2) (a3) (a4) (a5) (b1) (b2) (b3) (b4) (b5))) S26.g (Nat.le_refl _)
                            have ZB := putR_bk (r := (mkR (o) (false) (m) (o2) (true) (m2) (true) (a1) (a2) (a3) (a4) (a5) (b1) (b2) (b3) (b4) (b5))) S26.z
                            clear S26 hK hK2
                            generalize PutR _ w.heap.size (mkR (o) (false) (m) (o2) (true) (m2) (true) (a1) (a2) (a3) (a4) (a5) (b1) (b2) (b3) (b4) (b5)) = VV at *
                            go_wp2_with fail
                            refine bodyPost_ret (v := .agg (rA (mkR (o) (false) (m) (o2) (true) (m2) (true) (a1) (a2) (a3) (a4) (a5) (b1) (b2) (b3) (b4) (b5)))) (res_one _ 2 Tryd.results58 _ _ w.heap.size _ _ rfl ZB) rfl ?_
                            rw [← HR.out, hres]
                            exact ⟨rfl, OI, OG⟩
theorem rule_no {b : Nat} {wide : Bool} {l : List UInt8} {w : World} (h : In w b l wide) (q : ruleP wide l = none) :
    Calls Tryd.prog 58 #[.pointer (some ⟨b, 0, none⟩)] w fun e w' => e = .panicked pn4 ∧ Gb b w w' := by
  have := rule_any b wide l w h
  rw [q] at this; exact this
theorem rule_yes {b : Nat} {wide : Bool} {l t : List UInt8} {r : Ru} {w : World} (h : In w b l wide) (q : ruleP wide l = some (r, t)) :
    Calls Tryd.prog 58 #[.pointer (some ⟨b, 0, none⟩)] w fun e w' => e = .returned (.agg (rA r)) ∧ In w' b t wide ∧ Gb b w w' := by
  have := rule_any b wide l w h
  rw [q] at this; exact this
end Go.Proofs.YtalpbbgkallohaaDoor
