/-
  The document's own answers on floats, in the same plain words as the program's; and that what must be in any case is.
-/
import Derived.Test.YtnomejaklpfmbaaLcNumF
namespace Go.Proofs.Ytnomejaklpfmbaa
open Go.ChangeShapes Go.WideShapes Go.ChangeAt Go.RowKit Lc

/-! The document's own answers. -/

set_option maxHeartbeats 400000 in
theorem refSeconds_not (x : Nat) (w : World) (hf : finB x = false) :
    Calls Try.prog 20 #[.float .f64 x] w fun e w' => e = .returned (.tuple #[.int .i64 0, .int .i64 3]) ∧ Dr w w' := by
  have o := nan_order x
  cases hn : nanB x with
  | true =>
    rw [hn] at o
    clear hf hn
    go_enter Try.func20, Try.ntmps20
    go_wp2
    go_ret2
    exact ⟨rfl, Dr.refl _⟩
  | false =>
    rw [hn] at o
    obtain ⟨z, z1, -, z2⟩ := nan_run (P := Try.prog) .sub 28 x x w (.inr (.inl rfl)) (show floatBits .sub .f64 x x = none from sub_none hf)
    have o2 := nan_left (y := 0) z1
    clear hf hn z1
    go_enter Try.func20, Try.ntmps20
    go_wp2
    go_ret2
    exact ⟨rfl, 1, rfl⟩

set_option maxHeartbeats 400000 in
theorem refSeconds_fin (x : Nat) (w : World) (hf : finB x = true) :
    Calls Try.prog 20 #[.float .f64 x] w fun e w' => e = .returned (.tuple #[.int .i64 (secV x), .int .i64 (secE x)]) ∧ Dr w w' := by
  have o := nan_order x
  rw [fin_nan hf] at o
  obtain ⟨z, z1, z2, -, z3⟩ := sub_self hf
  have hs := fun w => run_float_arith (P := Try.prog) w .sub 28 .f64 x x z (show floatBits .sub .f64 x x = some z from z1)
  have o2 := ne_order (fin_nan z2) nan_0
  rw [z3, sv_zero, decide_eq_false (by simp)] at o2
  clear z1 z2 z3
  have l := ref_lo hf
  have h := ref_hi hf
  by_cases c1 : sv x / K < -9223372036854775808
  · have E := Lib.hid (sec_far hf (fitB_false.2 (by omega)))
    rw [decide_eq_true c1] at l
    clear h c1 hf
    go_enter Try.func20, Try.ntmps20
    go_wp2
    go_ret2
    exact ⟨ret_ii E.out.1.symm E.out.2.symm, Dr.refl _⟩
  by_cases c2 : 9223372036854775808 ≤ sv x / K
  · have E := Lib.hid (sec_far hf (fitB_false.2 (by omega)))
    rw [decide_eq_false c1] at l
    rw [decide_eq_true c2] at h
    clear c1 c2 hf
    go_enter Try.func20, Try.ntmps20
    go_wp2
    go_ret2
    exact ⟨ret_ii E.out.1.symm E.out.2.symm, Dr.refl _⟩
  have hfit : fitB (sv x / K) = true := fitB_true.2 (by omega)
  have E := Lib.hid (sec_yes hf hfit)
  rw [decide_eq_false c1] at l
  rw [decide_eq_false c2] at h
  have t := trunc_floor (sv x)
  have tf : fitB ((sv x).tdiv K) = true := by
    by_cases c : 0 ≤ sv x
    · rw [Int.tdiv_eq_ediv_of_nonneg c]; exact hfit
    · have : sv x / K < 0 := by rw [← floor_lt]; omega
      exact fitB_true.2 (by omega)
  have hc := fun w => run_convert_float_int (P := Try.prog) w 28 2 .f64 .i64 x _ (by rw [Try.underlying28]; rfl) Try.underlying2 (whole_int hf rfl tf)
  have fr := fi_rep (trunc_rep hf)
  have o4 := gt_order (fin_nan fr.1) (fin_nan hf)
  rw [fr.2.2, ← floatOfInt_fi] at o4
  generalize (sv x).tdiv K = n at *
  clear fr tf c1 c2 hf
  rcases t with ⟨t1, t2⟩ | ⟨t1, t2⟩
  · rw [decide_eq_false t2] at o4
    have T := Lib.hid t1
    clear t1 t2 hfit
    go_enter Try.func20, Try.ntmps20
    go_wp2
    go_ret2
    exact ⟨ret_ii (T.out.trans E.out.1.symm) E.out.2.symm, Dr.refl _⟩
  · rw [decide_eq_true t2] at o4
    have T : Hid (wrap64 (n - 1) = sv x / K) := Lib.hid (by rw [t1, show sv x / (K : Int) + 1 - 1 = sv x / K by omega, wrap_fit hfit])
    clear t1 t2 hfit
    go_enter Try.func20, Try.ntmps20
    go_wp2
    go_ret2
    exact ⟨ret_ii (T.out.trans E.out.1.symm) E.out.2.symm, Dr.refl _⟩

theorem refSeconds_any (x : Nat) (w : World) :
    Calls Try.prog 20 #[.float .f64 x] w fun e w' => e = .returned (.tuple #[.int .i64 (secV x), .int .i64 (secE x)]) ∧ Dr w w' := by
  cases h : finB x with
  | true => exact refSeconds_fin x w h
  | false => rw [(sec_not h).1, (sec_not h).2]; exact refSeconds_not x w h

set_option maxHeartbeats 400000 in
theorem refFloat_any (n : Int) (w : World) (hn : fitB n = true) :
    Calls Try.prog 22 #[.int .i64 n] w fun e w' => e = .returned (.tuple #[.float .f64 (fi n), .bool (justB n)]) ∧ w = w' := by
  obtain ⟨m, e, m1, m2⟩ := fi_is hn
  have o := ge_order (fin_nan (fi_fin hn)) nan_hi
  rw [e, sv_hi, ← floatOfInt_fi] at o
  simp only [mulK_le] at o
  by_cases c : 9223372036854775808 ≤ m
  · have J := Lib.hid (just_far hn e c)
    rw [decide_eq_true c] at o
    clear hn e m1 m2 c
    go_enter Try.func22, Try.ntmps22
    go_wp2
    go_ret2
    exact ⟨ret_fb rfl J.out.symm, rfl⟩
  · have mf : fitB m = true := fitB_true.2 (by omega)
    have J := Lib.hid (just_near hn e mf)
    have hc := fun w => run_convert_float_int (P := Try.prog) w 28 2 .f64 .i64 (floatOfInt .f64 n) m (by rw [Try.underlying28]; rfl) Try.underlying2 (whole_int (fi_fin hn) (by rw [floatOfInt_fi, e, tdivK]) mf)
    rw [decide_eq_false c] at o
    clear hn e m1 m2 c mf
    go_enter Try.func22, Try.ntmps22
    go_wp2
    go_ret2
    exact ⟨ret_fb rfl J.out.symm, rfl⟩

theorem rank_any (x : Nat) (w : World) : Calls Try.prog 31 #[.float .f64 x] w fun e w' => e = .returned (.int .i64 (if nanB x then 1 else 0)) ∧ w = w' := by
  have o := nan_order x
  cases h : nanB x <;> rw [h] at o
  · go_enter Try.func31, Try.ntmps31
    go_wp2
    go_ret
    exact ⟨rfl, rfl⟩
  · go_enter Try.func31, Try.ntmps31
    go_wp2
    go_ret
    exact ⟨rfl, rfl⟩
theorem rank_yes (x : Nat) (w : World) (h : nanB x = true) : Calls Try.prog 31 #[.float .f64 x] w fun e w' => e = .returned (.int .i64 1) ∧ w = w' := by
  have := rank_any x w; rw [h] at this; exact this
theorem rank_no (x : Nat) (w : World) (h : nanB x = false) : Calls Try.prog 31 #[.float .f64 x] w fun e w' => e = .returned (.int .i64 0) ∧ w = w' := by
  have := rank_any x w; rw [h] at this; exact this

set_option maxHeartbeats 400000 in
theorem refOrder_nan (a b : Nat) (w : World) (h : nanB a = true ∨ nanB b = true) :
    Calls Try.prog 24 #[.float .f64 a, .float .f64 b] w fun e w' => e = .returned (.int .i64 (cmp3 (key a) (key b))) ∧ w = w' := by
  cases ha : nanB a <;> cases hb : nanB b
  · simp_all
  · have E := Lib.hid (cmp3_lt (show key a < key b by rw [key_nan hb]; exact key_num ha))
    have HA := Lib.hid ha; have HB := Lib.hid hb
    clear h ha hb
    go_enter Try.func24, Try.ntmps24
    go_wp2_with fail
    refine (rank_no _ _ HA.out).mono ?_; rintro e w' ⟨rfl, rfl⟩
    go_wp2_with fail
    refine (rank_yes _ _ HB.out).mono ?_; rintro e w' ⟨rfl, rfl⟩
    go_wp2
    go_ret
    exact ⟨ret_i E.out.symm, rfl⟩
  · have E := Lib.hid (cmp3_gt (show key b < key a by rw [key_nan ha]; exact key_num hb))
    have HA := Lib.hid ha; have HB := Lib.hid hb
    clear h ha hb
    go_enter Try.func24, Try.ntmps24
    go_wp2_with fail
    refine (rank_yes _ _ HA.out).mono ?_; rintro e w' ⟨rfl, rfl⟩
    go_wp2_with fail
    refine (rank_no _ _ HB.out).mono ?_; rintro e w' ⟨rfl, rfl⟩
    go_wp2
    go_ret
    exact ⟨ret_i E.out.symm, rfl⟩
  · have E := Lib.hid (cmp3_eq (show key a = key b by rw [key_nan ha, key_nan hb]))
    have HA := Lib.hid ha; have HB := Lib.hid hb
    clear h ha hb
    go_enter Try.func24, Try.ntmps24
    go_wp2_with fail
    refine (rank_yes _ _ HA.out).mono ?_; rintro e w' ⟨rfl, rfl⟩
    go_wp2_with fail
    refine (rank_yes _ _ HB.out).mono ?_; rintro e w' ⟨rfl, rfl⟩
    go_wp2
    go_ret
    exact ⟨ret_i E.out.symm, rfl⟩

set_option maxHeartbeats 400000 in
theorem refOrder_noughts (a b : Nat) (w : World) (ha : a = 0 ∨ a = 9223372036854775808) (hb : b = 0 ∨ b = 9223372036854775808) :
    Calls Try.prog 24 #[.float .f64 a, .float .f64 b] w fun e w' => e = .returned (.int .i64 (cmp3 (key a) (key b))) ∧ w = w' := by
  have d1 := fun w => run_float_arith (P := Try.prog) w .quo 28 .f64 _ _ _ div_one_0
  have d2 := fun w => run_float_arith (P := Try.prog) w .quo 28 .f64 _ _ _ div_one_m0
  have l1 := lt_inf_0
  have l2 := lt_minf_0
  have n1 := nan_0
  have n2 : nanB 9223372036854775808 = false := by decide
  have N1 := Lib.hid n1; have N2 := Lib.hid n2; clear n1 n2
  have e00 : FloatKind.f64.format.order 0 0 = some .eq := by decide +kernel
  have e10 : FloatKind.f64.format.order 9223372036854775808 0 = some .eq := by decide +kernel
  have e01 : FloatKind.f64.format.order 0 9223372036854775808 = some .eq := by decide +kernel
  have e11 : FloatKind.f64.format.order 9223372036854775808 9223372036854775808 = some .eq := by decide +kernel
  rcases ha with rfl | rfl <;> rcases hb with rfl | rfl
  · have E : Hid (cmp3 (key 0) (key 0) = 0) := Lib.hid (by decide)
    go_enter Try.func24, Try.ntmps24
    go_wp2_with (go_at_call 31; refine (rank_no _ _ (by first | exact N1.out | exact N2.out)).mono ?_; rintro e w' ⟨rfl, rfl⟩)
    go_ret
    exact ⟨ret_i E.out.symm, rfl⟩
  · have E : Hid (cmp3 (key 0) (key 9223372036854775808) = 1) := Lib.hid (by decide)
    go_enter Try.func24, Try.ntmps24
    go_wp2_with (go_at_call 31; refine (rank_no _ _ (by first | exact N1.out | exact N2.out)).mono ?_; rintro e w' ⟨rfl, rfl⟩)
    go_ret
    exact ⟨ret_i E.out.symm, rfl⟩
  · have E : Hid (cmp3 (key 9223372036854775808) (key 0) = -1) := Lib.hid (by decide)
    go_enter Try.func24, Try.ntmps24
    go_wp2_with (go_at_call 31; refine (rank_no _ _ (by first | exact N1.out | exact N2.out)).mono ?_; rintro e w' ⟨rfl, rfl⟩)
    go_ret
    exact ⟨ret_i E.out.symm, rfl⟩
  · have E : Hid (cmp3 (key 9223372036854775808) (key 9223372036854775808) = 0) := Lib.hid (by decide)
    go_enter Try.func24, Try.ntmps24
    go_wp2_with (go_at_call 31; refine (rank_no _ _ (by first | exact N1.out | exact N2.out)).mono ?_; rintro e w' ⟨rfl, rfl⟩)
    go_ret
    exact ⟨ret_i E.out.symm, rfl⟩

set_option maxHeartbeats 400000 in
theorem refOrder_num (a b : Nat) (w : World) (ha : nanB a = false) (hb : nanB b = false) (la : a < 18446744073709551616) (lb : b < 18446744073709551616) :
    Calls Try.prog 24 #[.float .f64 a, .float .f64 b] w fun e w' => e = .returned (.int .i64 (cmp3 (key a) (key b))) ∧ w = w' := by
  by_cases hz : sv a = 0 ∧ sv b = 0
  · exact refOrder_noughts a b w (zero_words la hz.1) (zero_words lb hz.2)
  clear la lb
  have HA := Lib.hid ha; have HB := Lib.hid hb
  have o1 := lt_order ha hb
  have o2 := gt_order ha hb
  have o3 := eqo_order ha nan_0
  have o4 := eqo_order hb nan_0
  rw [sv_zero] at o3 o4
  rcases Int.lt_trichotomy (sv a) (sv b) with c | c | c
  · have E := Lib.hid (cmp3_lt (key_lt ha hb c))
    rw [decide_eq_true c] at o1
    clear o2 o3 o4 c hz ha hb
    go_enter Try.func24, Try.ntmps24
    go_wp2_with (go_at_call 31; refine (rank_no _ _ (by first | exact HA.out | exact HB.out)).mono ?_; rintro e w' ⟨rfl, rfl⟩)
    go_ret
    exact ⟨ret_i E.out.symm, rfl⟩
  · rw [decide_eq_false (by omega)] at o1 o2 o3 o4
    have E := Lib.hid (cmp3_eq (key_eq ha hb c (by omega)))
    clear c hz ha hb
    go_enter Try.func24, Try.ntmps24
    go_wp2_with (go_at_call 31; refine (rank_no _ _ (by first | exact HA.out | exact HB.out)).mono ?_; rintro e w' ⟨rfl, rfl⟩)
    go_ret
    exact ⟨ret_i E.out.symm, rfl⟩
  · have E := Lib.hid (cmp3_gt (key_lt hb ha c))
    rw [decide_eq_false (by omega)] at o1
    rw [decide_eq_true c] at o2
    clear o3 o4 c hz ha hb
    go_enter Try.func24, Try.ntmps24
    go_wp2_with (go_at_call 31; refine (rank_no _ _ (by first | exact HA.out | exact HB.out)).mono ?_; rintro e w' ⟨rfl, rfl⟩)
    go_ret
    exact ⟨ret_i E.out.symm, rfl⟩

theorem refOrder_any (a b : Nat) (w : World) (la : a < 18446744073709551616) (lb : b < 18446744073709551616) :
    Calls Try.prog 24 #[.float .f64 a, .float .f64 b] w fun e w' => e = .returned (.int .i64 (cmp3 (key a) (key b))) ∧ w = w' := by
  cases ha : nanB a <;> cases hb : nanB b
  · exact refOrder_num a b w ha hb la lb
  · exact refOrder_nan a b w (.inr hb)
  · exact refOrder_nan a b w (.inl ha)
  · exact refOrder_nan a b w (.inl ha)

end Go.Proofs.Ytnomejaklpfmbaa
