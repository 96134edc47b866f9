/-
  Files, plain: what is read is right, and is told.
-/
import Derived.Test.YtaljddoenjgbfaaGreatLcTzX
namespace Go.Proofs.YtaljddoenjgbfaaGreat
open Go.ChangeShapes Go.WideShapes Go.ChangeAt Go.RowKit Lc

set_option maxRecDepth 100000 in
theorem sg_bd {z : Nat} (hz : z = 4 ∨ z = 8) (n : Int) : -9223372036854775808 ≤ sgI z n ∧ sgI z n ≤ 9223372036854775807 := by
  unfold sgI
  rcases hz with rfl | rfl
  · have e : (2 : Int) ^ (64 - 8 * 4) = 4294967296 := by decide
    rw [e]; omega
  · have e : (2 : Int) ^ (64 - 8 * 8) = 1 := by decide
    rw [e]; omega
set_option maxRecDepth 100000 in
theorem dec_parts {b : List UInt8} {ver u s l t y c z : Int} (h : decE b ver u s l t y c z = 0) : rightB (decX b ver u s l t y c z) z ver = true ∧ 1 ≤ ver ∧ ver ≤ 4 ∧ BI (decX b ver u s l t y c z) ∧ ((decX b ver u s l t y c z).js.length : Int) = t ∧ ((decX b ver u s l t y c z).ks.length : Int) = y ∧ ((decX b ver u s l t y c z).ls.length : Int) = l := by
  have hX : decX b ver u s l t y c z = dBk b u.toNat s.toNat l.toNat t.toNat y.toNat c.toNat z.toNat := by unfold decX; rw [if_pos h]
  unfold decE at h
  split at h
  · cases h
  · rename_i h1
    split at h
    · cases h
    · split at h
      · rename_i h3
        rw [not_or] at h1
        have hz : z = 4 ∨ z = 8 := by have := h1.1; unfold zB at this; simp at this; omega
        have hz' : z.toNat = 4 ∨ z.toNat = 8 := by omega
        have r : rightH ver u s l t y c = true := by simpa using h1.2
        have q := rightH_true.1 r
        rw [hX]
        refine ⟨h3.2, by omega, by omega, ⟨fun i hi => ?_, fun i hi => ?_⟩, ?_, ?_, ?_⟩
        · have hi' : i < t.toNat := by simpa [dBk, dJ] using hi
          show _ ≤ ((dJ _ _ _ _).getD i j0).t ∧ ((dJ _ _ _ _).getD i j0).t ≤ _
          have e : (dJ (pMo b t.toNat z.toNat) (pJu b t.toNat z.toNat) t.toNat z.toNat).getD i j0 = rdJ (pMo b t.toNat z.toNat) (pJu b t.toNat z.toNat) z.toNat i := by simp [dJ, List.getD, hi']
          rw [e]
          exact sg_bd hz' _
        · have hi' : i < l.toNat := by simpa [dBk, dL] using hi
          show _ ≤ ((dL _ _ _).getD i l0).t ∧ ((dL _ _ _).getD i l0).t ≤ _
          have e : (dL (pLe b t.toNat y.toNat c.toNat l.toNat z.toNat) l.toNat z.toNat).getD i l0 = rdL (pLe b t.toNat y.toNat c.toNat l.toNat z.toNat) z.toNat i := by simp [dL, List.getD, hi']
          rw [e]
          exact sg_bd hz' _
        · simp [dBk, dJ]; omega
        · simp [dBk, dK]; omega
        · simp [dBk, dL]; omega
      · cases h
set_option maxRecDepth 100000 in
theorem decX_no {b : List UInt8} {ver u s l t y c z : Int} (h : ¬ decE b ver u s l t y c z = 0) : decX b ver u s l t y c z = bk0 := by unfold decX; rw [if_neg h]

set_option maxRecDepth 100000 in
theorem dec_len {b : List UInt8} {ver u s l t y c : Int} {z : Nat} (h : decE b ver u s l t y c z = 0) : (encL (decX b ver u s l t y c z) z).length ≤ b.length + 768 := by
  obtain ⟨r, _, _, _, e1, e2, e3⟩ := dec_parts h
  obtain ⟨hz, hk, hm, _, _⟩ := right_parts r
  have p1 := rk_parts hk
  have p2 := rm_parts hm
  have p3 : (nmB (decX b ver u s l t y c z)).length ≤ 256 := p1.2.2.2
  rw [encL_len]
  unfold decE at h
  split at h
  · cases h
  · rename_i h1
    rw [not_or] at h1
    have q := rightH_true.1 (show rightH ver u s l t y c = true by simpa using h1.2)
    split at h
    · cases h
    · rename_i h2
      unfold bodyI at h2
      generalize (decX b ver u s l t y c z).js.length = nj at *
      generalize (decX b ver u s l t y c z).ks.length = nk at *
      generalize (decX b ver u s l t y c z).ls.length = nl at *
      have hz' : z = 4 ∨ z = 8 := by omega
      rcases hz' with rfl | rfl <;> omega
set_option maxRecDepth 100000 in
theorem idx_none {l : List UInt8} {c : UInt8} {k : Nat} (h : Go.Lib.indexByte l c = (k : Int)) : (l.take k).contains c = false := by
  induction l generalizing k with
  | nil => simp
  | cons a l ih =>
    unfold Go.Lib.indexByte at h
    split at h
    · have : k = 0 := by omega
      subst this; simp
    · rename_i hb
      split at h
      · omega
      · rename_i h1
        have hge := Go.Lib.indexByte_ge l c
        have h1' : ¬ Go.Lib.indexByte l c = -1 := by simpa using h1
        obtain ⟨m, hm⟩ := Int.eq_ofNat_of_zero_le (a := Go.Lib.indexByte l c) (by omega)
        have hk : k = m + 1 := by omega
        subst hk
        rw [List.take_succ_cons, List.contains_cons, ih hm, Bool.or_false]
        have : ¬ a = c := by simpa using hb
        simp
        exact fun e => this e.symm
set_option maxRecDepth 100000 in
theorem foot_ok {q : List UInt8} (h : footE q = 0) : (footT q).size ≤ 100 ∧ nol (footT q) = true := by
  unfold footE at h
  split at h
  · cases h
  · split at h
    · cases h
    · split at h
      · cases h
      · rename_i h2
        split at h
        · cases h
        · rename_i h3
          rw [not_or] at h3
          obtain ⟨k, hk, hlt⟩ := idx_lt h2
          unfold footT
          rw [hk, Int.toNat_natCast]
          have hn := idx_none hk
          refine ⟨?_, ?_⟩
          · show ((q.drop 1).take k).toArray.size ≤ 100
            rw [List.size_toArray, List.length_take]; omega
          · unfold nol tx
            rw [str_list, hn]; rfl
set_option maxRecDepth 100000 in
theorem shB_len' (z : Nat) : (encL shB z).length = 7 := by
  rw [encL_len, show (nmB shB).length = 1 by decide]
  simp [shB]
set_option maxRecDepth 100000 in
/-- What is read is right, and is told, if there was not much. -/
theorem td_parts {l : List UInt8} (h : tdE l = 0) (hl : l.length ≤ 3000) : toldB (tdF l) = true ∧ BI (tdF l).blk ∧ (encF (tdF l)).length ≤ l.length + 20000 := by
  have e : tdF l = readF l := by unfold tdF; rw [if_pos h]
  rw [e]
  unfold tdE at h
  rw [if_neg (by omega)] at h
  unfold readE at h
  by_cases a : errH l = 0
  · rw [if_neg (by simp [a])] at h
    by_cases b : hB l 4 = 0
    · rw [if_neg (by simp [b])] at h
      unfold readF
      have L1 : (l.drop 44).length ≤ l.length := by rw [List.length_drop]; omega
      by_cases c : vH l = 1
      · rw [if_pos c]
        obtain ⟨r, h1, h4, hb, _⟩ := dec_parts (show decE (l.drop 44) (vH l) (cntI l 0) (cntI l 1) (cntI l 2) (cntI l 3) (cntI l 4) (cntI l 5) 4 = 0 from b)
        have ln := dec_len (z := 4) (show decE (l.drop 44) (vH l) (cntI l 0) (cntI l 1) (cntI l 2) (cntI l 3) (cntI l 4) (cntI l 5) ((4 : Nat) : Int) = 0 from b)
        have ln' : (encL (hX l 4) 4).length ≤ (l.drop 44).length + 768 := ln
        have r' : rightB (hX l 4) 4 (vH l) = true := r
        have en : (encF ⟨vH l, hX l 4, ⟨#[]⟩⟩).length = 44 + (encL (hX l 4) 4).length := by
          unfold encF
          simp only []
          rw [if_pos c, part_len]
        have rt : rightF ⟨vH l, hX l 4, ⟨#[]⟩⟩ = true := by
          unfold rightF mz rfB
          simp only []
          rw [if_pos c, r', if_pos c, decide_eq_true h1, decide_eq_true h4]
          rfl
        refine ⟨?_, hb, by rw [en]; omega⟩
        have l9 : 44 + (encL (hX l 4) 4).length ≤ 100000 := by omega
        unfold toldB
        rw [rt, en, Bool.true_and]
        exact decide_eq_true l9
      · rw [if_neg c] at h ⊢
        unfold rest2 at h
        by_cases d : errH (hR l 4) = 0
        · rw [if_neg (by simp [d])] at h
          by_cases f : vH (hR l 4) = vH l
          · rw [if_neg (by simp [f])] at h
            by_cases g : hB (hR l 4) 8 = 0
            · rw [if_neg (by simp [g])] at h
              obtain ⟨fs, fn⟩ := foot_ok h
              have LQ : (hR l 4).length ≤ l.length := by unfold hR; rw [List.length_drop, List.length_drop]; omega
              generalize hR l 4 = q at *
              have L2 : (q.drop 44).length ≤ q.length := by rw [List.length_drop]; omega
              obtain ⟨r, h1, h4, hb, _⟩ := dec_parts (show decE (q.drop 44) (vH q) (cntI q 0) (cntI q 1) (cntI q 2) (cntI q 3) (cntI q 4) (cntI q 5) 8 = 0 from g)
              have ln := dec_len (z := 8) (show decE (q.drop 44) (vH q) (cntI q 0) (cntI q 1) (cntI q 2) (cntI q 3) (cntI q 4) (cntI q 5) ((8 : Nat) : Int) = 0 from g)
              have ln' : (encL (hX q 8) 8).length ≤ (q.drop 44).length + 768 := ln
              have r' : rightB (hX q 8) 8 (vH q) = true := r
              have c' : ¬ vH q = 1 := by rw [f]; exact c
              generalize footT (hR q 8) = ft at *
              have en : (encF ⟨vH q, hX q 8, ft⟩).length = 51 + 44 + (encL (hX q 8) 8).length + 2 + ft.size := by
                unfold encF
                simp only []
                rw [if_neg c', List.length_append, List.length_append, part_len, part_len, shB_len', List.length_cons, List.length_append, tx_len]
                simp; omega
              have rt : rightF ⟨vH q, hX q 8, ft⟩ = true := by
                unfold rightF mz rfB
                simp only []
                rw [if_neg c', r', if_neg c', fn, decide_eq_true h1, decide_eq_true h4, decide_eq_true fs]
                rfl
              have LQ' := LQ
              have l9 : 51 + 44 + (encL (hX q 8) 8).length + 2 + ft.size ≤ 100000 := by omega
              refine ⟨?_, hb, by rw [en]; omega⟩
              unfold toldB
              rw [rt, en, Bool.true_and]
              exact decide_eq_true l9
            · rw [if_pos g] at h; exact absurd h g
          · rw [if_pos f] at h; cases h
        · rw [if_pos d] at h; exact absurd h d
    · rw [if_pos b] at h; exact absurd h b
  · rw [if_pos a] at h; exact absurd h a
end Go.Proofs.YtaljddoenjgbfaaGreat
