/-
  What is told is not longer than what was read; a text of a hundred bytes; the two forms: plain, of no program.
-/
import Derived.Test.YtbneokgeochinaaDoorLcPx1
namespace Go.Proofs.YtbneokgeochinaaDoor
open Go

/-! ### What is read is told by no more -/
theorem clockP_some {dg : Nat} {l : List UInt8} {x : Int} {t : List UInt8} (h : clockP dg l = some (x, t)) :
    ∃ p, l = p ++ t ∧ 0 ≤ x ∧ x / 3600 < 10 ^ dg ∧ (clockU x).length ≤ p.length ∧ ∃ c u, p = c :: u ∧ isDg c = true := by
  unfold clockP at h
  split at h
  · cases h
  · rename_i n t0 e
    obtain ⟨d, rfl, ha, hz, hl, hn, rfl⟩ := numP_some e
    have hv := val_bd _ d rfl ha
    have hd := dec_val_len ha hz
    have hm : val d < 10 ^ dg := Int.lt_of_lt_of_le hv.2 (by
      have : 10 ^ d.length ≤ 10 ^ dg := Nat.pow_le_pow_right (by decide) hl
      exact_mod_cast this)
    have hc : ∃ c u, d = c :: u ∧ isDg c = true := by
      rcases d with _ | ⟨c, u⟩
      · exact absurd rfl hz
      · simp only [List.all_cons, Bool.and_eq_true] at ha
        exact ⟨c, u, rfl, ha.1⟩
    obtain ⟨c, u, rfl, hcd⟩ := hc
    generalize val (c :: u) = v at *
    split at h
    · simp only [Option.some.injEq, Prod.mk.injEq] at h
      obtain ⟨rfl, rfl⟩ := h
      refine ⟨c :: u, rfl, by omega, by rw [Int.mul_ediv_cancel _ (by decide)]; exact hm, ?_, c, u, rfl, hcd⟩
      unfold clockU
      rw [if_pos (by omega), if_pos (by omega), Int.mul_ediv_cancel _ (by decide)]
      simpa using hd
    · rename_i t1 e1
      have := takeP_some e1; subst this
      split at h
      · cases h
      · rename_i m t2 e2
        obtain ⟨d2, rfl, _, hl2, _, _, m0, m1⟩ := pairP_some e2
        split at h
        · simp only [Option.some.injEq, Prod.mk.injEq] at h
          obtain ⟨rfl, rfl⟩ := h
          refine ⟨(c :: u) ++ 58 :: d2, by simp, by omega, by rw [show (v * 3600 + m * 60) / 3600 = v by omega]; exact hm, ?_, c, u ++ 58 :: d2, by simp, hcd⟩
          unfold clockU
          rw [show (v * 3600 + m * 60) / 3600 = v by omega, if_pos (show (v * 3600 + m * 60) % 60 = 0 by omega)]
          split
          · simp at hd ⊢; omega
          · simp only [pairT_two, List.append_nil, List.length_append, List.length_cons]
            rw [two_len (by omega) (by omega)]
            simp at hd ⊢; omega
        · rename_i t3 e3
          have := takeP_some e3; subst this
          split at h
          · cases h
          · rename_i s t4 e4
            obtain ⟨d4, rfl, _, hl4, _, _, s0, s1⟩ := pairP_some e4
            simp only [Option.some.injEq, Prod.mk.injEq] at h
            obtain ⟨rfl, rfl⟩ := h
            refine ⟨(c :: u) ++ 58 :: (d2 ++ 58 :: d4), by simp, by omega, by rw [show (v * 3600 + m * 60 + s) / 3600 = v by omega]; exact hm, ?_, c, u ++ 58 :: (d2 ++ 58 :: d4), by simp, hcd⟩
            unfold clockU
            rw [show (v * 3600 + m * 60 + s) / 3600 = v by omega]
            have x1 : (if (v * 3600 + m * 60 + s) % 3600 = 0 then [] else pairT ((v * 3600 + m * 60 + s) % 3600 / 60)).length ≤ 3 := by
              split
              · simp
              · rw [pairT_two, List.length_cons, two_len (by omega) (by omega)]; decide
            have x2 : (if (v * 3600 + m * 60 + s) % 60 = 0 then [] else pairT ((v * 3600 + m * 60 + s) % 60)).length ≤ 3 := by
              split
              · simp
              · rw [pairT_two, List.length_cons, two_len (by omega) (by omega)]; decide
            simp only [List.length_append, List.length_cons] at hd ⊢
            omega
theorem clockT_pos {x : Int} (h : 0 ≤ x) : clockT x = clockU x := by unfold clockT; rw [if_neg (by omega)]
theorem clockT_neg {x : Int} (h : 0 ≤ x) : (clockT (-x)).length ≤ (clockU x).length + 1 := by
  unfold clockT
  by_cases c : x = 0
  · subst c; rw [if_neg (by decide)]; simp
  · rw [if_pos (by omega), Int.neg_neg]; simp
theorem signedP_some {dg : Nat} {l : List UInt8} {x : Int} {t : List UInt8} (h : signedP dg l = some (x, t)) :
    ∃ p, l = p ++ t ∧ p ≠ [] ∧ x.natAbs / 3600 < 10 ^ dg ∧ (clockT x).length ≤ p.length := by
  have e : ((10 ^ dg : Nat) : Int) = (10 : Int) ^ dg := by simp
  unfold signedP at h
  split at h
  · rename_i t0 e0
    have := takeP_some e0; subst this
    split at h
    · cases h
    · rename_i y t1 e1
      obtain ⟨p, rfl, h0, h1, h2, _⟩ := clockP_some e1
      simp only [Option.some.injEq, Prod.mk.injEq] at h
      obtain ⟨rfl, rfl⟩ := h
      have := clockT_neg h0
      exact ⟨45 :: p, by simp, by simp, by omega, by rw [List.length_cons]; omega⟩
  · split at h
    · rename_i t0 e0
      have := takeP_some e0; subst this
      obtain ⟨p, rfl, h0, h1, h2, _⟩ := clockP_some h
      exact ⟨43 :: p, by simp, by simp, by omega, by rw [clockT_pos h0, List.length_cons]; omega⟩
    · obtain ⟨p, rfl, h0, h1, h2, c, u, rfl, _⟩ := clockP_some h
      exact ⟨_, rfl, by simp, by omega, by rw [clockT_pos h0]; omega⟩
theorem offP_some {l : List UInt8} {x : Int} {t : List UInt8} (h : offP l = some (x, t)) : ∃ p, l = p ++ t ∧ p ≠ [] ∧ (clockT (-x)).length ≤ p.length := by
  unfold offP at h
  split at h
  · cases h
  · rename_i y t1 e1
    obtain ⟨p, rfl, hp, _, h2⟩ := signedP_some e1
    simp only [Option.some.injEq, Prod.mk.injEq] at h
    obtain ⟨rfl, rfl⟩ := h
    exact ⟨p, rfl, hp, by rw [Int.neg_neg]; exact h2⟩
theorem timeP_some {wide : Bool} {l : List UInt8} {x : Int} {t : List UInt8} (h : timeP wide l = some (x, t)) : ∃ p, l = p ++ t ∧ (clockT x).length ≤ p.length := by
  unfold timeP at h
  cases wide
  · simp only [Bool.false_eq_true, if_false] at h
    obtain ⟨p, rfl, h0, _, h2, _⟩ := clockP_some h
    exact ⟨p, rfl, by rw [clockT_pos h0]; exact h2⟩
  · simp only [if_true] at h
    obtain ⟨p, rfl, _, _, h2⟩ := signedP_some h
    exact ⟨p, rfl, h2⟩
theorem numP_len {most : Nat} {l : List UInt8} {n : Int} {t : List UInt8} (h : numP most l = some (n, t)) : ∃ p, l = p ++ t ∧ 0 ≤ n ∧ (dec n).length ≤ p.length ∧ p ≠ [] := by
  obtain ⟨d, rfl, ha, h0, _, _, rfl⟩ := numP_some h
  exact ⟨d, rfl, (val_bd _ d rfl ha).1, dec_val_len ha h0, h0⟩
theorem dayP_some {l : List UInt8} {h n k d : Int} {t : List UInt8} (e : dayP l = some ((h, n, k, d), t)) (tm : Int) : ∃ p, l = p ++ t ∧ (dayT ⟨h, n, k, d, tm⟩).length ≤ p.length ∧ (h = 1 ∨ h = 2 ∨ h = 3) := by
  unfold dayP at e
  unfold dayT
  simp only
  split at e
  · rename_i t0 e0
    have := takeP_some e0; subst this
    split at e
    · cases e
    · rename_i m t1 e1
      obtain ⟨p, rfl, _, h2, _⟩ := numP_len e1
      simp only [Option.some.injEq, Prod.mk.injEq] at e
      obtain ⟨⟨rfl, rfl, rfl, rfl⟩, rfl⟩ := e
      exact ⟨74 :: p, by simp, by simpa using h2, by decide⟩
  · split at e
    · rename_i t0 e0
      have := takeP_some e0; subst this
      split at e
      · cases e
      · rename_i m t1 e1
        obtain ⟨p, rfl, _, h2, _⟩ := numP_len e1
        split at e
        · cases e
        · rename_i t2 e2
          have := takeP_some e2; subst this
          split at e
          · cases e
          · rename_i m2 t3 e3
            obtain ⟨p3, rfl, _, h3, _⟩ := numP_len e3
            split at e
            · cases e
            · rename_i t4 e4
              have := takeP_some e4; subst this
              split at e
              · cases e
              · rename_i m3 t5 e5
                obtain ⟨p5, rfl, _, h5, _⟩ := numP_len e5
                simp only [Option.some.injEq, Prod.mk.injEq] at e
                obtain ⟨⟨rfl, rfl, rfl, rfl⟩, rfl⟩ := e
                refine ⟨77 :: (p ++ 46 :: (p3 ++ 46 :: p5)), by simp, ?_, by decide⟩
                simp; omega
    · split at e
      · cases e
      · rename_i m t1 e1
        obtain ⟨p, rfl, _, h2, _⟩ := numP_len e1
        simp only [Option.some.injEq, Prod.mk.injEq] at e
        obtain ⟨⟨rfl, rfl, rfl, rfl⟩, rfl⟩ := e
        exact ⟨p, rfl, by simpa using h2, by decide⟩
theorem changeP_some {wide : Bool} {l : List UInt8} {c : Ch} {t : List UInt8} (e : changeP wide l = some (c, t)) : ∃ p, l = p ++ t ∧ (changeT c).length ≤ p.length ∧ (c.how = 1 ∨ c.how = 2 ∨ c.how = 3) := by
  unfold changeP at e
  unfold changeT timeT
  split at e
  · cases e
  · rename_i h n k d t0 e0
    split at e
    · simp only [Option.some.injEq, Prod.mk.injEq] at e
      obtain ⟨rfl, rfl⟩ := e
      obtain ⟨p, rfl, h2, h3⟩ := dayP_some e0 7200
      exact ⟨p, rfl, by simpa using h2, h3⟩
    · rename_i t1 e1
      have := takeP_some e1; subst this
      split at e
      · cases e
      · rename_i x t2 e2
        obtain ⟨q, rfl, hq⟩ := timeP_some e2
        simp only [Option.some.injEq, Prod.mk.injEq] at e
        obtain ⟨rfl, rfl⟩ := e
        obtain ⟨p, rfl, h2, h3⟩ := dayP_some e0 x
        refine ⟨p ++ 47 :: q, by simp, ?_, h3⟩
        simp only [List.length_append, List.length_cons]
        split
        · simp; omega
        · simp; omega
theorem nameP_some {l m t : List UInt8} (h : nameP l = some (m, t)) : ∃ p, l = p ++ t ∧ (nameT m).length ≤ p.length := by
  unfold nameP at h
  unfold nameT
  split at h
  · rename_i t0 e0
    have := takeP_some e0; subst this
    split at h
    · cases h
    · rename_i c
      simp only [Option.some.injEq, Prod.mk.injEq] at h
      obtain ⟨rfl, rfl⟩ := h
      have e := tw_split (p := fun c => c != 62) t0
      have hl : (t0.takeWhile (fun c => c != 62)).length ≤ t0.length := by
        have e2 := congrArg List.length e
        rw [List.length_append] at e2
        omega
      refine ⟨(60 :: t0).take ((upTo t0).length + 2), ?_, ?_⟩
      · rw [show (upTo t0).length + 2 = ((upTo t0).length + 1) + 1 by omega, List.take_succ_cons, List.cons_append, List.take_append_drop]
      · have : (upTo t0).length ≤ t0.length := hl
        rw [List.length_take, List.length_cons, Nat.min_eq_left (by omega)]
        split
        · omega
        · simp
  · simp only [Option.some.injEq, Prod.mk.injEq] at h
    obtain ⟨rfl, rfl⟩ := h
    refine ⟨ltr l, tw_split l, ?_⟩
    have ta : (ltr l).all isL = true := tw_all l
    rw [if_pos ta]; exact Nat.le_refl _
theorem endsP_some {wide : Bool} {l : List UInt8} {a b : Ch} {t : List UInt8} (h : endsP wide l = some ((a, b), t)) : ∃ p, l = p ++ t ∧ (44 :: (changeT a ++ 44 :: changeT b)).length ≤ p.length := by
  unfold endsP at h
  split at h
  · cases h
  · rename_i t1 e1
    have := takeP_some e1; subst this
    split at h
    · cases h
    · rename_i x t2 e2
      obtain ⟨p, rfl, h2, _⟩ := changeP_some e2
      split at h
      · cases h
      · rename_i t3 e3
        have := takeP_some e3; subst this
        split at h
        · cases h
        · rename_i y t4 e4
          obtain ⟨q, rfl, h4, _⟩ := changeP_some e4
          simp only [Option.some.injEq, Prod.mk.injEq] at h
          obtain ⟨⟨rfl, rfl⟩, rfl⟩ := h
          refine ⟨44 :: (p ++ 44 :: q), by simp, ?_⟩
          simp; omega
theorem offP'_some {u : Int} {l : List UInt8} {x : Int} {t : List UInt8} (h : offP' u l = some (x, t)) : ∃ p, l = p ++ t ∧ (if x = u then [] else clockT (-x)).length ≤ p.length := by
  unfold offP' at h
  split at h
  · simp only [Option.some.injEq, Prod.mk.injEq] at h
    obtain ⟨rfl, rfl⟩ := h
    exact ⟨[], rfl, by simp⟩
  · obtain ⟨p, rfl, _, h2⟩ := offP_some h
    refine ⟨p, rfl, ?_⟩
    split
    · simp
    · exact h2
/-- What is told of what was read is not longer. -/
theorem rule_len {wide : Bool} {l : List UInt8} {r : Ru} {t : List UInt8} (h : ruleP wide l = some (r, t)) : ∃ p, l = p ++ t ∧ (ruleT r).length ≤ p.length := by
  unfold ruleP at h
  unfold ruleT restT
  split at h
  · cases h
  · rename_i m t0 e0
    obtain ⟨p, rfl, h0⟩ := nameP_some e0
    split at h
    · cases h
    · rename_i o t1 e1
      obtain ⟨q, rfl, _, h1⟩ := offP_some e1
      split at h
      · rename_i c
        simp only [Option.some.injEq, Prod.mk.injEq] at h
        obtain ⟨rfl, rfl⟩ := h
        subst c
        refine ⟨p ++ q, by simp, ?_⟩
        simp; omega
      · split at h
        · cases h
        · rename_i m2 t2 e2
          obtain ⟨p2, rfl, h2⟩ := nameP_some e2
          split at h
          · cases h
          · rename_i o2 t3 e3
            obtain ⟨p3, rfl, h3⟩ := offP'_some e3
            split at h
            · cases h
            · rename_i a b t4 e4
              obtain ⟨p4, rfl, h4⟩ := endsP_some e4
              simp only [Option.some.injEq, Prod.mk.injEq] at h
              obtain ⟨rfl, rfl⟩ := h
              refine ⟨p ++ (q ++ (p2 ++ (p3 ++ p4))), by simp, ?_⟩
              simp only [if_true, List.length_append]
              omega
theorem whole_len {wide : Bool} {l : List UInt8} {r : Ru} (h : wholeP wide l = some r) : (ruleT r).length ≤ l.length := by
  unfold wholeP at h
  split at h
  · cases h
  · rename_i r' t e
    split at h
    · rename_i c
      simp only [Option.some.injEq] at h
      subst h
      obtain ⟨p, rfl, h1⟩ := rule_len e
      simp; omega
    · cases h
/-- A text that is cut is another rule's, or none's. -/
theorem whole_cut {wide : Bool} {r : Ru} {k : Nat} (hk : k < (ruleT r).length) : wholeP wide ((ruleT r).take k) ≠ some r := fun h => by
  have := whole_len h
  rw [List.length_take] at this; omega

/-! ### A hundred bytes -/
theorem clockU_le {n : Int} {k : Nat} (hk : 1 ≤ k) (h : n / 3600 < 10 ^ k) : (clockU n).length ≤ k + 6 := by
  unfold clockU
  have x0 := dec_le hk h
  have x1 : (if n % 3600 = 0 then [] else pairT (n % 3600 / 60)).length ≤ 3 := by
    split
    · simp
    · rw [pairT_two, List.length_cons, two_len (by omega) (by omega)]; decide
  have x2 : (if n % 60 = 0 then [] else pairT (n % 60)).length ≤ 3 := by
    split
    · simp
    · rw [pairT_two, List.length_cons, two_len (by omega) (by omega)]; decide
  simp only [List.length_append]; omega
theorem clockT_le {n : Int} {k : Nat} (hk : 1 ≤ k) (h : (n.natAbs : Int) / 3600 < 10 ^ k) : (clockT n).length ≤ k + 7 := by
  unfold clockT
  split
  · have := clockU_le hk (n := -n) (by rw [show -n = (n.natAbs : Int) by omega]; exact h)
    rw [List.length_cons]; omega
  · have := clockU_le hk (n := n) (by rw [show n = (n.natAbs : Int) by omega]; exact h)
    omega
theorem nameT_le {l : List UInt8} (h : nameB l = true) : (nameT l).length ≤ 22 := by
  have := nameB_parts h
  unfold nameT
  split
  · omega
  · simp; omega
theorem timeB_bd {t : Int} {wide : Bool} (h : timeB t wide = true) : -604799 ≤ t ∧ t ≤ 604799 := by
  unfold timeB at h
  split at h <;> have := inB_iff.1 h <;> omega
theorem changeT_le {c : Ch} {wide : Bool} (h : changeB c wide = true) : (changeT c).length ≤ 18 := by
  unfold changeB at h
  rw [Bool.and_eq_true] at h
  have tb := timeB_bd h.2
  unfold changeT dayT timeT
  have x1 : (if c.tm = 7200 then [] else 47 :: clockT c.tm).length ≤ 11 := by
    split
    · simp
    · have := clockT_le (n := c.tm) (k := 3) (by decide) (by omega)
      rw [List.length_cons]; omega
  rw [List.length_append]
  rcases dayB_cases h.1 with ⟨e, e1, e2, h1, h2⟩ | ⟨e, e1, e2, h1, h2⟩ | ⟨e, ⟨h1, h2⟩, ⟨h3, h4⟩, h5, h6⟩
  · rw [if_pos e]
    have := dec_le (n := c.n) (k := 3) (by decide) (by omega)
    rw [List.length_cons]; omega
  · rw [if_neg (by omega), if_neg (by omega)]
    have := dec_le (n := c.n) (k := 3) (by decide) (by omega)
    omega
  · rw [if_neg (by omega), if_pos e]
    have y1 := dec_le (n := c.n) (k := 2) (by decide) (by omega)
    have y2 := dec_le (n := c.wk) (k := 1) (by decide) (by omega)
    have y3 := dec_le (n := c.wd) (k := 1) (by decide) (by omega)
    simp only [List.length_append, List.length_cons]
    omega
theorem rule_100 {r : Ru} {wide : Bool} (h : rightB r wide = true) : (ruleT r).length ≤ 100 := by
  obtain ⟨⟨so, sd, sn⟩, ⟨dO, dd, dn⟩, b, a, e⟩ := r
  unfold rightB at h
  rw [Bool.and_eq_true] at h
  obtain ⟨hk, h⟩ := h
  obtain ⟨_, hn, h1, h2⟩ := kindB_parts hk
  simp only at hn h1 h2
  have x1 := nameT_le hn
  have x2 := clockT_le (n := -so) (k := 2) (by decide) (by omega)
  unfold ruleT restT
  cases b
  · simp; omega
  · simp only [if_true, Bool.and_eq_true] at h ⊢
    obtain ⟨⟨hd, ha⟩, he⟩ := h
    obtain ⟨_, hm, h3, h4⟩ := kindB_parts hd
    simp only at hm h3 h4
    have x3 := nameT_le hm
    have x4 : (if dO = so + 3600 then [] else clockT (-dO)).length ≤ 9 := by
      split
      · simp
      · exact clockT_le (n := -dO) (k := 2) (by decide) (by omega)
    have x5 := changeT_le ha
    have x6 := changeT_le he
    simp only [List.length_append, List.length_cons]
    omega

/-! ### The two forms -/
theorem timeB_wide {t : Int} (h : timeB t false = true) : timeB t true = true := by
  unfold timeB at *
  simp only [Bool.false_eq_true, if_false, if_true] at *
  have := inB_iff.1 h
  exact inB_iff.2 ⟨by omega, by omega⟩
theorem changeB_wide {c : Ch} (h : changeB c false = true) : changeB c true = true := by
  unfold changeB at *
  rw [Bool.and_eq_true] at *
  exact ⟨h.1, timeB_wide h.2⟩
theorem right_wide {r : Ru} (h : rightB r false = true) : rightB r true = true := by
  unfold rightB at *
  rw [Bool.and_eq_true] at *
  refine ⟨h.1, ?_⟩
  cases hb : r.both
  · have := h.2; rw [hb] at this; exact this
  · have := h.2; rw [hb] at this
    simp only [if_true, Bool.and_eq_true] at this ⊢
    exact ⟨⟨this.1.1, changeB_wide this.1.2⟩, changeB_wide this.2⟩
theorem numP_wide {l : List UInt8} {n : Int} {t : List UInt8} {a b : Nat} (hab : a ≤ b) (h : numP a l = some (n, t)) : numP b l = some (n, t) := by
  obtain ⟨d, rfl, ha, h0, hl, hn, rfl⟩ := numP_some h
  exact numP_all ha h0 (by omega) hn
theorem clockP_wide {l : List UInt8} {x : Int} {t : List UInt8} {a b : Nat} (hab : a ≤ b) (h : clockP a l = some (x, t)) : clockP b l = some (x, t) := by
  unfold clockP at h ⊢
  split at h
  · cases h
  · rename_i n t0 e
    rw [numP_wide hab e]
    exact h
theorem timeP_wide {l : List UInt8} {x : Int} {t : List UInt8} (h : timeP false l = some (x, t)) : timeP true l = some (x, t) := by
  unfold timeP at h ⊢
  simp only [Bool.false_eq_true, if_false, if_true] at h ⊢
  have k := clockP_wide (b := 3) (by decide) h
  obtain ⟨p, rfl, _, _, _, c, u, rfl, hc⟩ := clockP_some h
  unfold signedP
  rw [takeP_no (by rw [List.cons_append]; exact NoH.cons _ (dg_ne hc (by decide))), takeP_no (by rw [List.cons_append]; exact NoH.cons _ (dg_ne hc (by decide)))]
  exact k
theorem changeP_wide {l : List UInt8} {c : Ch} {t : List UInt8} (h : changeP false l = some (c, t)) : changeP true l = some (c, t) := by
  unfold changeP at h ⊢
  split at h
  · cases h
  · rename_i e
    split at h
    · exact h
    · split at h
      · cases h
      · rename_i x t2 e3
        rw [timeP_wide e3]; exact h
theorem endsP_wide {l : List UInt8} {c : Ch × Ch} {t : List UInt8} (h : endsP false l = some (c, t)) : endsP true l = some (c, t) := by
  unfold endsP at h ⊢
  split at h
  · cases h
  · split at h
    · cases h
    · rename_i a t2 e2
      simp only [changeP_wide e2]
      split at h
      · cases h
      · split at h
        · cases h
        · rename_i b t4 e4
          simp only [changeP_wide e4]; exact h
theorem ruleP_wide {l : List UInt8} {r : Ru} {t : List UInt8} (h : ruleP false l = some (r, t)) : ruleP true l = some (r, t) := by
  unfold ruleP at h ⊢
  split at h
  · cases h
  · split at h
    · cases h
    · split at h
      · rename_i c; rw [if_pos c]; exact h
      · rename_i c
        rw [if_neg c]
        split at h
        · cases h
        · split at h
          · cases h
          · split at h
            · cases h
            · rename_i e; simp only [endsP_wide e]; exact h
theorem whole_wide {l : List UInt8} {r : Ru} (h : wholeP false l = some r) : wholeP true l = some r := by
  unfold wholeP at h ⊢
  split at h
  · cases h
  · rename_i r' t e
    rw [ruleP_wide e]
    split at h
    · rename_i c
      simp only [Option.some.injEq] at h
      subst h
      simp [c.1, right_wide c.2]
    · cases h
end Go.Proofs.YtbneokgeochinaaDoor
