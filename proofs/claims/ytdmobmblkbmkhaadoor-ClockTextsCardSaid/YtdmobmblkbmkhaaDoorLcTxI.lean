/-
  Texts and orders of civil times: plain. Two right civil times with one text are one; the fields' order is the seconds'.
-/
import Derived.Test.YtdmobmblkbmkhaaDoorLcClkO
import Derived.Test.YtdmobmblkbmkhaaDoorLcCmp
import Derived.Test.YtdmobmblkbmkhaaDoorLcTxt
namespace Go.Proofs.YtdmobmblkbmkhaaDoor
open Go

/-- What digits tell. -/
def valL (l : List UInt8) : Nat := l.foldl (fun a b => 10 * a + (b.toNat - 48)) 0
theorem val_snoc (l : List UInt8) (x : UInt8) : valL (l ++ [x]) = 10 * valL l + (x.toNat - 48) := by
  unfold valL; rw [List.foldl_append]; rfl
theorem byte_nat {k : Nat} (h : k < 256) : (UInt8.ofNat k).toNat = k := by
  rw [UInt8.toNat_ofNat']; exact Nat.mod_eq_of_lt h
theorem val_dec (n : Nat) : valL (Lib.decDigits n) = n := by
  induction n using Nat.strongRecOn with
  | _ n ih =>
    by_cases h : n < 10
    · rw [Lib.decDigits_one h]; show 10 * 0 + ((UInt8.ofNat (48 + n)).toNat - 48) = n
      rw [byte_nat (by omega)]; omega
    · rw [dec_big h, val_snoc, ih (n / 10) (by omega), byte_nat (by omega)]; omega
theorem val_rep (k : Nat) (l : List UInt8) : valL (List.replicate k 48 ++ l) = valL l := by
  induction k with
  | zero => rfl
  | succ k ih =>
    rw [List.replicate_succ, List.cons_append]
    show List.foldl (fun a (b : UInt8) => 10 * a + (b.toNat - 48)) (10 * 0 + ((48 : UInt8).toNat - 48)) (List.replicate k 48 ++ l) = _
    exact ih
theorem val_dig (n k : Nat) : valL (dig n k) = n := by unfold dig; rw [val_rep, val_dec]
theorem dec_all (n : Nat) : ∀ x ∈ Lib.decDigits n, 48 ≤ x.toNat ∧ x.toNat ≤ 57 := by
  induction n using Nat.strongRecOn with
  | _ n ih =>
    intro x hx
    by_cases h : n < 10
    · rw [Lib.decDigits_one h] at hx
      have : x = UInt8.ofNat (48 + n) := by simpa using hx
      rw [this, byte_nat (by omega)]; omega
    · rw [dec_big h, List.mem_append] at hx
      rcases hx with hx | hx
      · exact ih (n / 10) (by omega) x hx
      · have : x = UInt8.ofNat (48 + n % 10) := by rw [List.mem_singleton] at hx; exact hx
        rw [this, byte_nat (by omega)]; omega
theorem dig_all (n k : Nat) : ∀ x ∈ dig n k, 48 ≤ x.toNat ∧ x.toNat ≤ 57 := by
  intro x hx
  unfold dig at hx
  rw [List.mem_append] at hx
  rcases hx with hx | hx
  · have := List.eq_of_mem_replicate hx
    rw [this]; decide
  · exact dec_all n x hx

/-- Two digits. -/
def two (n : Nat) : List UInt8 := [UInt8.ofNat (48 + n / 10), UInt8.ofNat (48 + n % 10)]
theorem two_is {n : Nat} (h : n < 100) : dig n 2 = two n := by
  unfold dig two
  by_cases c : n < 10
  · rw [Lib.decDigits_one c, Nat.div_eq_of_lt c, Nat.mod_eq_of_lt c]; rfl
  · rw [Lib.decDigits_two c h]; rfl
theorem two_inj {n m : Nat} (hn : n < 100) (hm : m < 100) (h : two n = two m) : n = m := by
  have e := congrArg valL h
  rwa [← two_is hn, ← two_is hm, val_dig, val_dig] at e
theorem data_app (a b : ByteArray) : (a ++ b).data.toList = a.data.toList ++ b.data.toList := Joins.data_append a b
theorem dgB_two {n : Int} (h1 : 0 ≤ n) (h2 : n < 100) : (dgB n 2).data.toList = two n.toNat := by
  rw [dgB_pos h1]; unfold dgU; rw [← two_is (by omega)]
/-- The year's part of a text. -/
def yearL (y : Int) : List UInt8 := (dgB y 4).data.toList
/-- The day's, and the time's. -/
def dateL (m d : Int) : List UInt8 := 45 :: two m.toNat ++ (45 :: two d.toNat)
def timeL (h i s : Int) : List UInt8 := two h.toNat ++ (58 :: two i.toNat) ++ (58 :: two s.toNat)
theorem text_list {y m d h i s : Int} (r : rightC y m d h i s = true) : (textB y m d h i s).data.toList = yearL y ++ (dateL m d ++ (32 :: timeL h i s)) := by
  obtain ⟨rb, h1, h2, i1, i2, s1, s2⟩ := rightC_true.1 r
  obtain ⟨y1, y2, d1, d2⟩ := Lc.right_true.1 rb
  obtain ⟨m1, m2⟩ := Lc.right_month rb
  have ld := (Lc.len_bd y m).2
  unfold textB
  simp only [data_app]
  rw [dgB_two (n := m) (by omega) (by omega), dgB_two (n := d) (by omega) (by omega), dgB_two (n := h) (by omega) (by omega), dgB_two (n := i) (by omega) (by omega), dgB_two (n := s) (by omega) (by omega)]
  simp [yearL, dateL, timeL, two]
theorem year_inj {y y' : Int} (e : yearL y = yearL y') : y = y' := by
  unfold yearL dgB at e
  rw [data_app, data_app] at e
  have D : ∀ n : Nat, (dgU n 4).data.toList = dig n 4 := fun n => rfl
  rw [D, D] at e
  by_cases c : y < 0 <;> by_cases c' : y' < 0
  · rw [sgB_neg c, sgB_neg c'] at e
    have e2 : dig y.natAbs 4 = dig y'.natAbs 4 := by simpa using e
    have := congrArg valL e2
    rw [val_dig, val_dig] at this; omega
  · rw [sgB_neg c, sgB_pos (by omega)] at e
    have e2 : 45 :: dig y.natAbs 4 = dig y'.natAbs 4 := by simpa using e
    have := dig_all y'.natAbs 4 45 (by rw [← e2]; exact List.mem_cons_self)
    exact absurd this.1 (by decide)
  · rw [sgB_pos (by omega), sgB_neg c'] at e
    have e2 : dig y.natAbs 4 = 45 :: dig y'.natAbs 4 := by simpa using e
    have := dig_all y.natAbs 4 45 (by rw [e2]; exact List.mem_cons_self)
    exact absurd this.1 (by decide)
  · rw [sgB_pos (by omega), sgB_pos (by omega)] at e
    have e2 : dig y.natAbs 4 = dig y'.natAbs 4 := by simpa using e
    have := congrArg valL e2
    rw [val_dig, val_dig] at this; omega
theorem text_inj {y m d h i s y' m' d' h' i' s' : Int} (r : rightC y m d h i s = true) (r' : rightC y' m' d' h' i' s' = true) (e : textB y m d h i s = textB y' m' d' h' i' s') :
    y = y' ∧ m = m' ∧ d = d' ∧ h = h' ∧ i = i' ∧ s = s' := by
  have el : (textB y m d h i s).data.toList = (textB y' m' d' h' i' s').data.toList := by rw [e]
  rw [text_list r, text_list r'] at el
  obtain ⟨e1, e2⟩ := List.append_inj' el (by simp [dateL, timeL, two])
  have hy := year_inj e1
  obtain ⟨rb, h1, h2, i1, i2, s1, s2⟩ := rightC_true.1 r
  obtain ⟨y1, y2, d1, d2⟩ := Lc.right_true.1 rb
  obtain ⟨m1, m2⟩ := Lc.right_month rb
  have ld := (Lc.len_bd y m).2
  obtain ⟨rb', h1', h2', i1', i2', s1', s2'⟩ := rightC_true.1 r'
  obtain ⟨y1', y2', d1', d2'⟩ := Lc.right_true.1 rb'
  obtain ⟨m1', m2'⟩ := Lc.right_month rb'
  have ld' := (Lc.len_bd y' m').2
  have F : two m.toNat = two m'.toNat ∧ two d.toNat = two d'.toNat ∧ two h.toNat = two h'.toNat ∧ two i.toNat = two i'.toNat ∧ two s.toNat = two s'.toNat := by
    simp only [dateL, timeL, two, List.cons_append, List.nil_append, List.cons.injEq] at e2
    unfold two
    simp only [List.cons.injEq]
    obtain ⟨_, a1, a2, _, a3, a4, _, a5, a6, _, a7, a8, _, a9, a10, _⟩ := e2
    exact ⟨⟨a1, a2, trivial⟩, ⟨a3, a4, trivial⟩, ⟨a5, a6, trivial⟩, ⟨a7, a8, trivial⟩, ⟨a9, a10, trivial⟩⟩
  have fm := two_inj (by omega) (by omega) F.1
  have fd := two_inj (by omega) (by omega) F.2.1
  have fh := two_inj (by omega) (by omega) F.2.2.1
  have fi := two_inj (by omega) (by omega) F.2.2.2.1
  have fs := two_inj (by omega) (by omega) F.2.2.2.2
  exact ⟨hy, by omega, by omega, by omega, by omega, by omega⟩

theorem text_ne {X Y : ByteArray} (h : X ≠ Y) : (X.toList == Y.toList) = false := by
  rw [beq_eq_false_iff_ne]
  intro e
  rw [ByteArray.toList_eq, ByteArray.toList_eq] at e
  exact h (WideShapes.bytes_inj e)
/-- The order of dates is the days'. -/
theorem date_lt {y m d y' m' d' : Int} (r : Lc.rightB y m d = true) (r' : Lc.rightB y' m' d' = true) (h : y < y' ∨ (y = y' ∧ (m < m' ∨ (m = m' ∧ d < d')))) : Lc.dayI y m d < Lc.dayI y' m' d' := by
  rcases h with h | ⟨rfl, h | ⟨rfl, h⟩⟩
  · have a := Lc.day_year r; have b := Lc.day_year r'
    have := Lc.ny_le (show y + 1 ≤ y' by omega)
    omega
  · obtain ⟨_, _, d1, d2⟩ := Lc.right_true.1 r
    obtain ⟨_, _, d1', d2'⟩ := Lc.right_true.1 r'
    obtain ⟨m1, m2⟩ := Lc.right_month r
    obtain ⟨m1', m2'⟩ := Lc.right_month r'
    have := Lc.cum_mono y m1 h (by omega)
    unfold Lc.dayI Lc.ydI; omega
  · unfold Lc.dayI Lc.ydI; omega
theorem comp_sec {y m d h i s y' m' d' h' i' s' : Int} (r : rightC y m d h i s = true) (r' : rightC y' m' d' h' i' s' = true) : compC y m d h i s y' m' d' h' i' s' = cmpI (secI y m d h i s) (secI y' m' d' h' i' s') := by
  obtain ⟨rb, h1, h2, i1, i2, s1, s2⟩ := rightC_true.1 r
  obtain ⟨rb', h1', h2', i1', i2', s1', s2'⟩ := rightC_true.1 r'
  have A := fun q => date_lt rb rb' q
  have B := fun q => date_lt rb' rb q
  have C : y = y' → m = m' → d = d' → Lc.dayI y m d = Lc.dayI y' m' d' := by rintro rfl rfl rfl; rfl
  unfold secI
  generalize Lc.dayI y m d = n at *
  generalize Lc.dayI y' m' d' = n' at *
  unfold compC
  rcases Int.lt_trichotomy y y' with q | q | q
  · have := A (.inl q)
    rw [or_lt _ q, cmp_lt (by omega)]
  · rw [or_eq _ q]
    rcases Int.lt_trichotomy m m' with q2 | q2 | q2
    · have := A (.inr ⟨q, .inl q2⟩)
      rw [or_lt _ q2, cmp_lt (by omega)]
    · rw [or_eq _ q2]
      rcases Int.lt_trichotomy d d' with q3 | q3 | q3
      · have := A (.inr ⟨q, .inr ⟨q2, q3⟩⟩)
        rw [or_lt _ q3, cmp_lt (by omega)]
      · have := C q q2 q3
        rw [or_eq _ q3]
        rcases Int.lt_trichotomy h h' with q4 | q4 | q4
        · rw [or_lt _ q4, cmp_lt (by omega)]
        · rw [or_eq _ q4]
          rcases Int.lt_trichotomy i i' with q5 | q5 | q5
          · rw [or_lt _ q5, cmp_lt (by omega)]
          · rw [or_eq _ q5]
            rcases Int.lt_trichotomy s s' with q6 | q6 | q6
            · rw [or_lt _ q6, cmp_lt (by omega)]
            · rw [or_eq _ q6, cmp_eq (by omega) (by omega)]; rfl
            · rw [or_gt _ q6, cmp_gt (by omega)]
          · rw [or_gt _ q5, cmp_gt (by omega)]
        · rw [or_gt _ q4, cmp_gt (by omega)]
      · have := B (.inr ⟨q.symm, .inr ⟨q2.symm, q3⟩⟩)
        rw [or_gt _ q3, cmp_gt (by omega)]
    · have := B (.inr ⟨q.symm, .inl q2⟩)
      rw [or_gt _ q2, cmp_gt (by omega)]
  · have := B (.inl q)
    rw [or_gt _ q, cmp_gt (by omega)]
end Go.Proofs.YtdmobmblkbmkhaaDoor
