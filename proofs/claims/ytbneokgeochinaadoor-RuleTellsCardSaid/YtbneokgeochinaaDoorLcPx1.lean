/-
  What was told is read as it was: plain, of no program.
-/
import Derived.Test.YtbneokgeochinaaDoorLcPx0
namespace Go.Proofs.YtbneokgeochinaaDoor
open Go

/-- What follows does not begin so. -/
def NoH (p : UInt8 → Bool) (t : List UInt8) : Prop := ∀ c u, t = c :: u → p c = false
theorem NoH.nil (p : UInt8 → Bool) : NoH p [] := fun _ _ h => by cases h
theorem NoH.cons {p : UInt8 → Bool} {c : UInt8} (t : List UInt8) (h : p c = false) : NoH p (c :: t) := fun _ _ e => by cases e; exact h
theorem NoH.head {p : UInt8 → Bool} {c : UInt8} {t : List UInt8} (h : NoH p (c :: t)) : p c = false := h c t rfl
/-- .. with this sign. -/
def NoC (x : UInt8) (t : List UInt8) : Prop := NoH (fun c => c == x) t
theorem NoC.nil (x : UInt8) : NoC x [] := NoH.nil _
theorem NoC.cons {x c : UInt8} (t : List UInt8) (h : c ≠ x) : NoC x (c :: t) := NoH.cons t (by simpa using h)

theorem takeP_no {x : UInt8} {t : List UInt8} (h : NoC x t) : takeP x t = none := by
  unfold takeP
  split
  · rfl
  · rename_i c u
    have : (c == x) = false := h c u rfl
    rw [if_neg (by simpa using this)]
theorem takeP_yes (x : UInt8) (t : List UInt8) : takeP x (x :: t) = some t := by simp [takeP]
theorem takeP_some {x : UInt8} {l t : List UInt8} (h : takeP x l = some t) : l = x :: t := by
  unfold takeP at h
  split at h
  · cases h
  · split at h
    · rename_i e; cases h; rw [e]
    · cases h
theorem takeP_none {x : UInt8} {l : List UInt8} (h : takeP x l = none) : NoC x l := by
  unfold takeP at h
  split at h
  · exact NoC.nil _
  · split at h
    · cases h
    · rename_i e; exact NoC.cons _ e

theorem tw_append {p : UInt8 → Bool} : ∀ {a t : List UInt8}, a.all p = true → NoH p t → (a ++ t).takeWhile p = a
  | [], [], _, _ => rfl
  | [], c :: u, _, h => by simp [h.head]
  | x :: a, t, ha, h => by
    simp only [List.all_cons, Bool.and_eq_true] at ha
    simp [ha.1, tw_append ha.2 h]
theorem tw_all {p : UInt8 → Bool} : ∀ (l : List UInt8), (l.takeWhile p).all p = true
  | [] => rfl
  | x :: l => by
    by_cases c : p x = true
    · simp only [List.takeWhile, c, List.all_cons, Bool.true_and]; exact tw_all l
    · simp [List.takeWhile, c]
theorem tw_drop {p : UInt8 → Bool} : ∀ (l : List UInt8), NoH p (l.drop (l.takeWhile p).length)
  | [] => NoH.nil _
  | x :: l => by
    by_cases c : p x = true
    · simp only [List.takeWhile, c, List.length_cons, List.drop_succ_cons]; exact tw_drop l
    · simp only [List.takeWhile, c]
      exact NoH.cons _ (by simpa using c)
theorem tw_split {p : UInt8 → Bool} (l : List UInt8) : l = l.takeWhile p ++ l.drop (l.takeWhile p).length := by
  induction l with
  | nil => rfl
  | cons x l ih =>
    by_cases c : p x = true
    · simp only [List.takeWhile, c, List.length_cons, List.drop_succ_cons, List.cons_append]; rw [← ih]
    · simp [List.takeWhile, c]

/-! ### Digits -/
theorem dec_all (n : Int) : (dec n).all isDg = true := by
  unfold dec
  rw [Lib.decDigits_eq, List.all_map]
  rw [List.all_eq_true]
  intro t _
  simp only [Function.comp, Lib.dg]
  have h : n.toNat / 10 ^ (Lib.nDigits n.toNat - 1 - t) % 10 < 10 := Nat.mod_lt _ (by decide)
  generalize n.toNat / 10 ^ (Lib.nDigits n.toNat - 1 - t) % 10 = k at h
  have : ∀ k : Fin 10, isDg (UInt8.ofNat (48 + k.val)) = true := by decide
  exact this ⟨k, h⟩
theorem nd_le' : ∀ (k n : Nat), n < 10 ^ (k + 1) → Lib.nDigits n ≤ k + 1
  | 0, n, h => by rw [Lib.nDigits_small (by simpa using h)]; exact Nat.le_refl _
  | k + 1, n, h => by
    by_cases c : n < 10
    · rw [Lib.nDigits_small c]; omega
    · rw [Lib.nDigits_big c]
      have := nd_le' k (n / 10) (by rw [Nat.pow_succ] at h; omega)
      omega
theorem dec_len (n : Int) : (dec n).length = Lib.nDigits n.toNat := Lib.decDigits_length _
theorem dec_pos (n : Int) : 1 ≤ (dec n).length := by rw [dec_len]; exact Lib.nDigits_pos _
theorem dec_ne (n : Int) : dec n ≠ [] := fun h => by have := dec_pos n; rw [h] at this; simp at this
theorem dec_le {n : Int} {k : Nat} (hk : 1 ≤ k) (h : n < 10 ^ k) : (dec n).length ≤ k := by
  rw [dec_len]
  obtain ⟨j, rfl⟩ : ∃ j, k = j + 1 := ⟨k - 1, by omega⟩
  refine nd_le' j _ ?_
  have e : ((10 ^ (j + 1) : Nat) : Int) = (10 : Int) ^ (j + 1) := by simp
  have p : 0 < 10 ^ (j + 1) := Nat.pow_pos (by decide)
  omega
theorem val_snoc (d : List UInt8) (c : UInt8) : val (d ++ [c]) = val d * 10 + ((c.toNat : Int) - 48) := by simp [val, List.foldl_append]
theorem val_nat (n : Nat) : val (Lib.decDigits n) = (n : Int) := by
  induction n using Nat.strongRecOn with
  | _ n ih =>
    by_cases h : n < 10
    · rw [Lib.decDigits, dif_pos h]
      have : ∀ k : Fin 10, val [UInt8.ofNat (48 + k.val)] = (k.val : Int) := by decide
      exact this ⟨n, h⟩
    · rw [Lib.decDigits, dif_neg h, val_snoc, ih (n / 10) (by omega)]
      have : ∀ k : Fin 10, ((UInt8.ofNat (48 + k.val)).toNat : Int) - 48 = (k.val : Int) := by decide
      rw [this ⟨n % 10, Nat.mod_lt _ (by decide)⟩]
      show (((n / 10 : Nat) : Int)) * 10 + ((n % 10 : Nat) : Int) = (n : Int)
      omega
theorem val_dec {n : Int} (h : 0 ≤ n) : val (dec n) = n := by unfold dec; rw [val_nat]; omega
theorem dgs_all (l : List UInt8) : (dgs l).all isDg = true := tw_all l
theorem isD_bd {c : UInt8} (h : isDg c = true) : 48 ≤ c.toNat ∧ c.toNat ≤ 57 := by
  simp only [isDg, Bool.and_eq_true, decide_eq_true_eq, UInt8.le_iff_toNat_le] at h; exact h
theorem val_bd : ∀ (n : Nat) (d : List UInt8), d.length = n → d.all isDg = true → 0 ≤ val d ∧ val d < 10 ^ n
  | 0, d, h, _ => by rw [List.eq_nil_of_length_eq_zero h]; decide
  | n + 1, d, h, ha => by
    obtain ⟨e, c, rfl⟩ : ∃ e c, d = e ++ [c] := by
      rcases List.eq_nil_or_concat d with rfl | ⟨e, c, rfl⟩
      · simp at h
      · exact ⟨e, c, by simp⟩
    simp only [List.all_append, List.all_cons, List.all_nil, Bool.and_true, Bool.and_eq_true] at ha
    simp only [List.length_append, List.length_cons, List.length_nil, Nat.zero_add, Nat.add_right_cancel_iff] at h
    have := val_bd n e h ha.1
    have := isD_bd ha.2
    rw [val_snoc, Int.pow_succ]
    omega
theorem dec_val_len {d : List UInt8} (ha : d.all isDg = true) (h0 : d ≠ []) : (dec (val d)).length ≤ d.length :=
  dec_le (List.length_pos_iff.2 h0) (val_bd _ d rfl ha).2

theorem dgs_dec {n : Int} {t : List UInt8} (h : NoH isDg t) : dgs (dec n ++ t) = dec n := tw_append (dec_all n) h
theorem numP_all {most : Nat} {d t : List UInt8} (ha : d.all isDg = true) (h0 : d ≠ []) (hl : d.length ≤ most) (h : NoH isDg t) : numP most (d ++ t) = some (val d, t) := by
  have e : dgs (d ++ t) = d := tw_append ha h
  unfold numP
  rw [e, if_neg (by intro x; rcases x with x | x; exact h0 x; omega)]
  simp
theorem numP_dec {most : Nat} {n : Int} {t : List UInt8} (h0 : 0 ≤ n) (h1 : n < 10 ^ most) (hm : 1 ≤ most) (h : NoH isDg t) : numP most (dec n ++ t) = some (n, t) := by
  rw [numP_all (dec_all n) (dec_ne n) (dec_le hm h1) h, val_dec h0]
theorem numP_some {most : Nat} {l : List UInt8} {n : Int} {t : List UInt8} (h : numP most l = some (n, t)) :
    ∃ d, l = d ++ t ∧ d.all isDg = true ∧ d ≠ [] ∧ d.length ≤ most ∧ NoH isDg t ∧ n = val d := by
  unfold numP at h
  split at h
  · cases h
  · rename_i c
    simp only [Option.some.injEq, Prod.mk.injEq] at h
    obtain ⟨rfl, rfl⟩ := h
    exact ⟨dgs l, tw_split l, dgs_all l, fun x => c (.inl x), by omega, tw_drop l, rfl⟩

/-- A number by two digits at least. -/
def two (n : Int) : List UInt8 := (if n < 10 then [48] else []) ++ dec n
theorem dec_1 {n : Int} (h0 : 0 ≤ n) (h : n < 10) : dec n = [UInt8.ofNat (48 + n.toNat)] := by
  unfold dec; rw [Lib.decDigits, dif_pos (by omega)]
theorem dec_2' {n : Int} (h0 : 10 ≤ n) (h : n < 100) : (dec n).length = 2 := by
  have e := Lib.decDigits_two (i := n.toNat) (by omega) (by omega)
  unfold dec; rw [e]; rfl
theorem two_len {n : Int} (h0 : 0 ≤ n) (h : n < 100) : (two n).length = 2 := by
  unfold two
  by_cases c : n < 10
  · rw [if_pos c, dec_1 h0 c]; rfl
  · rw [if_neg c]; exact dec_2' (by omega) h
theorem two_all (n : Int) : (two n).all isDg = true := by
  unfold two
  rw [List.all_append, dec_all, Bool.and_true]
  split <;> decide
theorem val_two {n : Int} (h : 0 ≤ n) : val (two n) = n := by
  unfold two
  by_cases c : n < 10
  · rw [if_pos c]
    have : val ([48] ++ dec n) = val (dec n) := by simp [val]
    rw [this, val_dec h]
  · rw [if_neg c]; exact val_dec h
theorem pairT_two (n : Int) : pairT n = 58 :: two n := rfl
theorem pairP_two {n : Int} {t : List UInt8} (h0 : 0 ≤ n) (h1 : n ≤ 59) (h : NoH isDg t) : pairP (two n ++ t) = some (n, t) := by
  have l2 := two_len h0 (by omega)
  unfold pairP
  rw [numP_all (two_all n) (fun x => by rw [x] at l2; cases l2) (by omega) h, val_two h0]
  simp only [List.length_append]
  rw [if_pos ⟨by omega, h1⟩]
theorem pairP_some {l : List UInt8} {n : Int} {t : List UInt8} (h : pairP l = some (n, t)) :
    ∃ d, l = d ++ t ∧ d.all isDg = true ∧ d.length = 2 ∧ NoH isDg t ∧ n = val d ∧ 0 ≤ n ∧ n ≤ 59 := by
  unfold pairP at h
  split at h
  · cases h
  · rename_i m u e
    split at h
    · rename_i c
      simp only [Option.some.injEq, Prod.mk.injEq] at h
      obtain ⟨rfl, rfl⟩ := h
      obtain ⟨d, rfl, ha, h0, hl, hn, rfl⟩ := numP_some e
      refine ⟨d, rfl, ha, by have := c.1; simp at this; omega, hn, rfl, (val_bd _ d rfl ha).1, c.2⟩
    · cases h

/-! ### Clocks -/
theorem noD58 : isDg 58 = false := by decide
/-- What follows a clock. -/
def NoK (t : List UInt8) : Prop := NoH isDg t ∧ NoC 58 t
theorem clockP_clockU {dg : Nat} {n : Int} {t : List UInt8} (h0 : 0 ≤ n) (h1 : n / 3600 < 10 ^ dg) (hd : 1 ≤ dg) (k : NoK t) : clockP dg (clockU n ++ t) = some (n, t) := by
  unfold clockU clockP
  by_cases c : n % 3600 = 0
  · rw [if_pos c, if_pos (by omega), List.append_nil, List.append_nil]
    rw [numP_dec (by omega) h1 hd k.1]
    simp only [takeP_no k.2]
    rw [show n / 3600 * 3600 = n by omega]
  · rw [if_neg c]
    simp only [List.append_assoc, pairT_two, List.cons_append]
    rw [numP_dec (by omega) h1 hd (NoH.cons _ noD58)]
    simp only [takeP_yes]
    by_cases d : n % 60 = 0
    · rw [if_pos d]
      simp only [List.nil_append]
      rw [pairP_two (by omega) (by omega) k.1]
      simp only [takeP_no k.2]
      rw [show n / 3600 * 3600 + n % 3600 / 60 * 60 = n by omega]
    · rw [if_neg d]
      simp only [List.cons_append]
      rw [pairP_two (by omega) (by omega) (NoH.cons _ noD58)]
      simp only [takeP_yes]
      rw [pairP_two (by omega) (by omega) k.1]
      simp only
      rw [show n / 3600 * 3600 + n % 3600 / 60 * 60 + n % 60 = n by omega]

theorem dec_head {n : Int} {t : List UInt8} {p : UInt8 → Bool} (hp : ∀ c, isDg c = true → p c = false) : NoH p (dec n ++ t) := by
  have a := dec_all n
  have b := dec_ne n
  generalize dec n = l at a b
  rcases l with _ | ⟨c, l⟩
  · exact absurd rfl b
  · simp only [List.all_cons, Bool.and_eq_true] at a
    exact NoH.cons _ (hp c a.1)
theorem dg_ne {c x : UInt8} (h : isDg c = true) (hx : isDg x = false) : (c == x) = false := by
  rcases Decidable.em (c = x) with e | e
  · rw [e, hx] at h; cases h
  · simpa using e
theorem clockU_head {n : Int} {t : List UInt8} {p : UInt8 → Bool} (hp : ∀ c, isDg c = true → p c = false) : NoH p (clockU n ++ t) := by
  unfold clockU
  rw [List.append_assoc]
  exact dec_head hp
theorem clockU_noC {n : Int} {t : List UInt8} {x : UInt8} (hx : isDg x = false) : NoC x (clockU n ++ t) := clockU_head fun _ h => dg_ne h hx
theorem signedP_clockT {dg : Nat} {n : Int} {t : List UInt8} (h0 : n.natAbs / 3600 < 10 ^ dg) (hd : 1 ≤ dg) (k : NoK t) : signedP dg (clockT n ++ t) = some (n, t) := by
  have e : ((10 ^ dg : Nat) : Int) = (10 : Int) ^ dg := by simp
  unfold clockT signedP
  by_cases c : n < 0
  · rw [if_pos c]
    simp only [List.cons_append, takeP_yes]
    rw [clockP_clockU (by omega) (by omega) hd k]
    simp
  · rw [if_neg c]
    rw [takeP_no (clockU_noC (by decide)), takeP_no (clockU_noC (by decide))]
    simp only
    exact clockP_clockU (by omega) (by omega) hd k
theorem offP_clockT {n : Int} {t : List UInt8} (h0 : n.natAbs ≤ 89999) (k : NoK t) : offP (clockT (-n) ++ t) = some (n, t) := by
  unfold offP
  rw [signedP_clockT (by rw [Int.natAbs_neg]; omega) (by decide) k]
  simp
theorem inB_iff {n a b : Int} : inB n a b = true ↔ a ≤ n ∧ n ≤ b := by simp [inB]
theorem timeP_clockT {wide : Bool} {n : Int} {t : List UInt8} (h : timeB n wide = true) (k : NoK t) : timeP wide (clockT n ++ t) = some (n, t) := by
  unfold timeB at h
  unfold timeP
  cases wide
  · simp only [Bool.false_eq_true, if_false] at h ⊢
    have := inB_iff.1 h
    unfold clockT
    rw [if_neg (by omega)]
    exact clockP_clockU (by omega) (by omega) (by decide) k
  · simp only [if_true] at h ⊢
    have := inB_iff.1 h
    exact signedP_clockT (by omega) (by decide) k

/-! ### Days and changes -/
theorem dayB_cases {c : Ch} (h : dayB c = true) : (c.how = 1 ∧ c.wk = 0 ∧ c.wd = 0 ∧ 1 ≤ c.n ∧ c.n ≤ 365) ∨ (c.how = 2 ∧ c.wk = 0 ∧ c.wd = 0 ∧ 0 ≤ c.n ∧ c.n ≤ 365) ∨ (c.how = 3 ∧ (1 ≤ c.n ∧ c.n ≤ 12) ∧ (1 ≤ c.wk ∧ c.wk ≤ 5) ∧ 0 ≤ c.wd ∧ c.wd ≤ 6) := by
  unfold dayB at h
  split at h
  · rename_i e
    simp only [Bool.and_eq_true, inB_iff, beq_iff_eq] at h
    exact .inl ⟨e, h.1.1, h.1.2, h.2⟩
  · split at h
    · rename_i e
      simp only [Bool.and_eq_true, inB_iff, beq_iff_eq] at h
      exact .inr (.inl ⟨e, h.1.1, h.1.2, h.2⟩)
    · split at h
      · rename_i e
        simp only [Bool.and_eq_true, inB_iff] at h
        exact .inr (.inr ⟨e, h.1.1, h.1.2, h.2⟩)
      · cases h
theorem dayP_dayT {c : Ch} {t : List UInt8} (h : dayB c = true) (k : NoH isDg t) : dayP (dayT c ++ t) = some ((c.how, c.n, c.wk, c.wd), t) := by
  unfold dayP dayT
  rcases dayB_cases h with ⟨e, e1, e2, h1, h2⟩ | ⟨e, e1, e2, h1, h2⟩ | ⟨e, ⟨h1, h2⟩, ⟨h3, h4⟩, h5, h6⟩
  · rw [if_pos e]
    simp only [List.cons_append, takeP_yes]
    rw [numP_dec (by omega) (by omega) (by decide) k, e, e1, e2]
  · rw [if_neg (by omega), if_neg (by omega)]
    rw [takeP_no (dec_head fun _ h => dg_ne h (by decide)), takeP_no (dec_head fun _ h => dg_ne h (by decide))]
    simp only
    rw [numP_dec (by omega) (by omega) (by decide) k, e, e1, e2]
  · rw [if_neg (by omega), if_pos e]
    simp only [List.cons_append, List.append_assoc]
    rw [takeP_no (NoC.cons _ (by decide))]
    simp only [takeP_yes]
    rw [numP_dec (by omega) (by omega) (by decide) (NoH.cons _ (by decide))]
    simp only [takeP_yes]
    rw [numP_dec (by omega) (by omega) (by decide) (NoH.cons _ (by decide))]
    simp only [takeP_yes]
    rw [numP_dec (by omega) (by omega) (by decide) k, e]
/-- What follows a change. -/
def NoE (t : List UInt8) : Prop := NoK t ∧ NoC 47 t
theorem changeP_changeT {wide : Bool} {c : Ch} {t : List UInt8} (h : changeB c wide = true) (k : NoE t) : changeP wide (changeT c ++ t) = some (c, t) := by
  unfold changeB at h
  rw [Bool.and_eq_true] at h
  unfold changeT changeP timeT
  rw [List.append_assoc]
  by_cases e : c.tm = 7200
  · rw [if_pos e, List.nil_append, dayP_dayT h.1 k.1.1]
    simp only [takeP_no k.2]
    rw [← e]
  · rw [if_neg e, List.cons_append, dayP_dayT h.1 (NoH.cons _ (by decide))]
    simp only [takeP_yes]
    rw [timeP_clockT h.2 k.1]

/-! ### Names -/
theorem okS_ne {c : UInt8} (h : okS c = true) : c ≠ 62 ∧ c ≠ 60 := by
  have h2 : okS 62 = false ∧ okS 60 = false := by decide
  exact ⟨fun e => by (rw [e, h2.1] at h; cases h), fun e => by (rw [e, h2.2] at h; cases h)⟩
theorem nameB_parts {l : List UInt8} (h : nameB l = true) : 3 ≤ l.length ∧ l.length ≤ 20 ∧ l.all okS = true := by
  simp only [nameB, Bool.and_eq_true, decide_eq_true_eq] at h; exact ⟨h.1.1, h.1.2, h.2⟩
theorem all_mono {p q : UInt8 → Bool} {l : List UInt8} (h : l.all p = true) (hp : ∀ c, p c = true → q c = true) : l.all q = true := by
  rw [List.all_eq_true] at *; exact fun c hc => hp c (h c hc)
theorem nameP_nameT {l t : List UInt8} (h : nameB l = true) (k : NoH isL t) : nameP (nameT l ++ t) = some (l, t) := by
  obtain ⟨h3, _, ha⟩ := nameB_parts h
  unfold nameP nameT
  by_cases c : l.all isL = true
  · rw [if_pos c]
    have e : ltr (l ++ t) = l := tw_append c k
    have n : NoC 60 (l ++ t) := by
      rcases l with _ | ⟨x, l⟩
      · simp at h3
      · simp only [List.all_cons, Bool.and_eq_true] at ha
        exact NoC.cons _ (okS_ne ha.1).2
    rw [takeP_no n]
    simp only
    rw [e]; simp
  · rw [if_neg c]
    have e : upTo (l ++ 62 :: t) = l := tw_append (all_mono ha fun c hc => by simpa using (okS_ne hc).1) (NoH.cons _ (by decide))
    simp only [List.cons_append, List.append_assoc, takeP_yes, List.nil_append]
    rw [e, if_neg (by simp)]
    simp

/-! ### Rules -/
theorem clockT_head {n : Int} {t : List UInt8} {p : UInt8 → Bool} (hp : ∀ c, isDg c = true → p c = false) (hm : p 45 = false) : NoH p (clockT n ++ t) := by
  unfold clockT
  split
  · exact NoH.cons _ hm
  · exact clockU_head hp
theorem dg_noL {c : UInt8} (h : isDg c = true) : isL c = false := by
  have := isD_bd h
  simp only [isL, UInt8.le_iff_toNat_le, Bool.or_eq_false_iff, Bool.and_eq_false_imp, decide_eq_true_eq, decide_eq_false_iff_not]
  have e1 : (97 : UInt8).toNat = 97 := rfl
  have e2 : (65 : UInt8).toNat = 65 := rfl
  constructor <;> intro h <;> omega
theorem nameT_ne {l t : List UInt8} (h : nameB l = true) : nameT l ++ t ≠ [] := by
  have := (nameB_parts h).1
  unfold nameT
  split
  · intro e; simp at e; rw [e.1] at this; simp at this
  · intro e; simp at e
theorem nameT_head {l t : List UInt8} {p : UInt8 → Bool} (h : nameB l = true) (hp : ∀ c, isL c = true → p c = false) (hm : p 60 = false) : NoH p (nameT l ++ t) := by
  have := (nameB_parts h).1
  unfold nameT
  split
  · rename_i c
    rcases l with _ | ⟨x, l⟩
    · simp at this
    · simp only [List.all_cons, Bool.and_eq_true] at c
      exact NoH.cons _ (hp x c.1)
  · exact NoH.cons _ hm
theorem L_noD {c : UInt8} (h : isL c = true) : isDg c = false := by
  cases d : isDg c
  · rfl
  · rw [dg_noL d] at h; cases h
theorem L_ne {c x : UInt8} (h : isL c = true) (hx : isL x = false) : (c == x) = false := by
  rcases Decidable.em (c = x) with e | e
  · rw [e, hx] at h; cases h
  · simpa using e
theorem kindB_parts {k : Kd} {d : Bool} (h : kindB k d = true) : k.dst = d ∧ nameB k.name = true ∧ -89999 ≤ k.off ∧ k.off ≤ 89999 := by
  simp only [kindB, Bool.and_eq_true, inB_iff, beq_iff_eq] at h; exact ⟨h.1.1, h.1.2, h.2⟩
theorem endsP_told {wide : Bool} {a b : Ch} {t : List UInt8} (ha : changeB a wide = true) (hb : changeB b wide = true) (k : NoE t) :
    endsP wide (44 :: (changeT a ++ 44 :: (changeT b ++ t))) = some ((a, b), t) := by
  unfold endsP
  simp only [takeP_yes]
  rw [changeP_changeT ha ⟨⟨NoH.cons _ (by decide), NoC.cons _ (by decide)⟩, NoC.cons _ (by decide)⟩]
  simp only [takeP_yes]
  rw [changeP_changeT hb k]
theorem ruleP_one {r : Ru} {wide : Bool} (h : rightB r wide = true) (hb : r.both = false) : ruleP wide (ruleT r) = some (r, []) := by
  obtain ⟨⟨so, sd, sn⟩, d, b, a, e⟩ := r
  simp only at hb
  subst hb
  simp only [rightB, Bool.false_eq_true, if_false, Bool.and_eq_true, beq_iff_eq] at h
  obtain ⟨hk, ⟨rfl, rfl⟩, rfl⟩ := h
  obtain ⟨rfl, hn, h1, h2⟩ := kindB_parts hk
  simp only at hn h1 h2
  unfold ruleP ruleT
  simp only [Bool.false_eq_true, if_false]
  rw [nameP_nameT hn (clockT_head (fun _ => dg_noL) (by decide))]
  simp only
  rw [offP_clockT (by omega) ⟨NoH.nil _, NoC.nil _⟩]
  simp
theorem ruleP_two {r : Ru} {wide : Bool} {t : List UInt8} (h : rightB r wide = true) (hb : r.both = true) (k : NoE t) : ruleP wide (ruleT r ++ t) = some (r, t) := by
  obtain ⟨⟨so, sd, sn⟩, ⟨dO, dd, dn⟩, b, a, e⟩ := r
  simp only at hb
  subst hb
  simp only [rightB, if_true, Bool.and_eq_true] at h
  obtain ⟨hk, ⟨hd, ha⟩, he⟩ := h
  obtain ⟨rfl, hn, h1, h2⟩ := kindB_parts hk
  obtain ⟨rfl, hm, h3, h4⟩ := kindB_parts hd
  simp only at hn h1 h2 hm h3 h4
  unfold ruleP ruleT restT offP'
  simp only [if_true, List.append_assoc, List.cons_append]
  rw [nameP_nameT hn (clockT_head (fun _ => dg_noL) (by decide))]
  simp only
  rw [offP_clockT (by omega) ⟨nameT_head hm (fun _ => L_noD) (by decide), nameT_head hm (fun _ h => L_ne h (by decide)) (by decide)⟩]
  simp only
  rw [if_neg (nameT_ne hm)]
  by_cases c : dO = so + 3600
  · rw [if_pos c]
    simp only [List.nil_append]
    rw [nameP_nameT hm (NoH.cons _ (by decide))]
    simp only [takeP_yes]
    rw [endsP_told ha he k, c]
  · rw [if_neg c]
    rw [nameP_nameT hm (clockT_head (fun _ => dg_noL) (by decide))]
    simp only
    rw [takeP_no (clockT_head (fun _ h => dg_ne h (by decide)) (by decide))]
    simp only
    rw [offP_clockT (by omega) ⟨NoH.cons _ (by decide), NoC.cons _ (by decide)⟩]
    simp only
    rw [endsP_told ha he k]
/-- What was told is read as it was. -/
theorem whole_told {r : Ru} {wide : Bool} (h : rightB r wide = true) : wholeP wide (ruleT r) = some r := by
  unfold wholeP
  cases hb : r.both
  · rw [ruleP_one h hb]; simp [h]
  · have := ruleP_two (t := []) h hb ⟨⟨NoH.nil _, NoC.nil _⟩, NoC.nil _⟩
    rw [List.append_nil] at this
    rw [this]; simp [h]
/-- With something behind it is none. -/
theorem whole_more {r : Ru} {wide : Bool} (h : rightB r wide = true) (hb : r.both = true) {c : UInt8} {t : List UInt8} (hd : isDg c = false) (h1 : c ≠ 58) (h2 : c ≠ 47) : wholeP wide (ruleT r ++ c :: t) = none := by
  unfold wholeP
  rw [ruleP_two h hb ⟨⟨NoH.cons _ hd, NoC.cons _ h1⟩, NoC.cons _ h2⟩]
  simp
theorem whole_right {wide : Bool} {l : List UInt8} {r : Ru} (h : wholeP wide l = some r) : rightB r wide = true := by
  unfold wholeP at h
  split at h
  · cases h
  · split at h
    · rename_i c; cases h; exact c.2
    · cases h
end Go.Proofs.YtbneokgeochinaaDoor
