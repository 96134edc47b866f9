/-
  What the calls of package number on floats do, and the document's own answers beside them: each in the same plain words.
-/
import Derived.Test.YtnomejaklpfmbaaLcNum
import Derived.Test.YtnomejaklpfmbaaLcFlo
import Derived.Laws.Externs
namespace Go.Proofs.Ytnomejaklpfmbaa
open Go.ChangeShapes Go.WideShapes Go.ChangeAt Go.RowKit Lc

theorem fbits_run (x : Nat) (w : World) : (callFunc 35 #[.float .f64 x]).run Try.prog w = .ok (.value (.int .u64 x)) w := by kernel_rfl
theorem ffrom_run (x : Int) (w : World) : (callFunc 36 #[.int .u64 x]).run Try.prog w = .ok (.value (.float .f64 x.toNat)) w := by kernel_rfl

attribute [local irreducible] FloatKind.decode FloatKind.encode in
theorem floor_entry (x : Nat) (s : Bool) (m : Nat) (p : Int) (h : FloatKind.f64.decode x = .number s m p) : Extern.MathFloor.toIntegral "math.archFloor" .down #[.float .f64 x] = pure (.float .f64 (FloatKind.f64.encode ((FloatKind.f64.decode x).integral .down))) := by
  conv => lhs; whnf
  rw [h]
theorem archFloor_run (x : Nat) (w : World) (h : finB x = true) : (callFunc 33 #[.float .f64 x]).run Try.prog w = .ok (.value (.float .f64 (flW x))) w := by
  have e : Extern.MathFloor.toIntegral "math.archFloor" .down #[.float .f64 x] = pure (.float .f64 (flW x)) := by
    obtain ⟨m, p, hr, -⟩ := read_fin (fin_iff.1 h)
    rw [floor_entry x _ m p hr, ← floor_bits h]; rfl
  rw [run_callFunc_extern (e := Extern.MathFloor.toIntegral "math.archFloor" .down) Try.func33 (by kernel_rfl) (by kernel_rfl) (by kernel_rfl) (by kernel_rfl), e]
  rfl

theorem ret_f {a b : Nat} (h : a = b) : Ending.returned (.float .f64 a) = .returned (.float .f64 b) := by rw [h]

theorem isNaN_any (x : Nat) (w : World) : Calls Try.prog 26 #[.float .f64 x] w fun e w' => e = .returned (.bool (nanB x)) ∧ w = w' := by
  go_enter Try.func26, Try.ntmps26
  go_wp2
  go_ret
  exact ⟨ret_b (nan_order x), rfl⟩
theorem abs_any (x : Nat) (w : World) (h : x < 18446744073709551616) : Calls Try.prog 32 #[.float .f64 x] w fun e w' => e = .returned (.float .f64 (rung x)) ∧ w = w' := by
  have f1 := fbits_run x
  have f2 := ffrom_run
  have H := Lib.hid h; clear h
  go_enter Try.func32, Try.ntmps32
  go_wp2
  go_ret
  exact ⟨ret_f (abs_bits H.out), rfl⟩
theorem isInf_any (x : Nat) (w : World) (h : x < 18446744073709551616) : Calls Try.prog 27 #[.float .f64 x, .int .i64 0] w fun e w' => e = .returned (.bool (infB x)) ∧ w = w' := by
  have H := Lib.hid h; clear h
  go_enter Try.func27, Try.ntmps27
  go_wp2_with (go_at_call 32; refine (abs_any x _ H.out).mono ?_; rintro e w' ⟨rfl, rfl⟩)
  go_ret
  exact ⟨ret_b inf_order, rfl⟩
theorem signbit_any (x : Nat) (w : World) (h : x < 18446744073709551616) : Calls Try.prog 30 #[.float .f64 x] w fun e w' => e = .returned (.bool (ng x)) ∧ w = w' := by
  have f1 := fbits_run x
  have H := Lib.hid h; clear h
  go_enter Try.func30, Try.ntmps30
  go_wp2
  go_ret
  exact ⟨ret_b (sign_bits H.out), rfl⟩
theorem floor_any (x : Nat) (w : World) (h : finB x = true) : Calls Try.prog 28 #[.float .f64 x] w fun e w' => e = .returned (.float .f64 (flW x)) ∧ w = w' := by
  have f1 := fun w => archFloor_run x w h
  clear h
  go_enter Try.func28, Try.ntmps28
  go_wp2
  go_ret
  exact ⟨rfl, rfl⟩

set_option maxHeartbeats 400000 in
theorem seconds_not (x : Nat) (w : World) (hx : x < 18446744073709551616) (hf : finB x = false) :
    Calls Try.prog 19 #[.float .f64 x] w fun e w' => e = .returned (.tuple #[.int .i64 0, .int .i64 3]) ∧ w = w' := by
  have k := kinds_of x
  have HX := Lib.hid hx; clear hx
  rw [hf] at k; clear hf
  cases hn : nanB x with
  | true =>
    clear k
    go_enter Try.func19, Try.ntmps19
    go_wp2_with (go_at_call 26; refine (isNaN_any x _).mono ?_; rintro e w' ⟨rfl, rfl⟩)
    go_ret2
    exact ⟨rfl, rfl⟩
  | false =>
    have hi : infB x = true := by cases c : infB x <;> simp_all
    clear k
    go_enter Try.func19, Try.ntmps19
    go_wp2_with (first | (go_at_call 26; refine (isNaN_any x _).mono ?_; rintro e w' ⟨rfl, rfl⟩) | (go_at_call 27; refine (isInf_any x _ HX.out).mono ?_; rintro e w' ⟨rfl, rfl⟩))
    go_ret2
    exact ⟨rfl, rfl⟩

set_option maxHeartbeats 400000 in
theorem seconds_fin (x : Nat) (w : World) (hx : x < 18446744073709551616) (hf : finB x = true) :
    Calls Try.prog 19 #[.float .f64 x] w fun e w' => e = .returned (.tuple #[.int .i64 (secV x), .int .i64 (secE x)]) ∧ w = w' := by
  have HX := Lib.hid hx; clear hx
  have hn := fin_nan hf
  have hi := fin_inf hf
  have l := floor_lo hf
  have h := floor_hi hf
  have HF := Lib.hid hf
  by_cases c1 : sv x / K < -9223372036854775808
  · have e := sec_far hf (fitB_false.2 (by omega))
    have E := Lib.hid e
    rw [decide_eq_true c1] at l
    clear e h c1 hf
    go_enter Try.func19, Try.ntmps19
    go_wp2_with (first | (go_at_call 26; refine (isNaN_any x _).mono ?_; rintro e w' ⟨rfl, rfl⟩) | (go_at_call 27; refine (isInf_any x _ HX.out).mono ?_; rintro e w' ⟨rfl, rfl⟩) | (go_at_call 28; refine (floor_any x _ HF.out).mono ?_; rintro e w' ⟨rfl, rfl⟩))
    go_ret2
    exact ⟨ret_ii E.out.1.symm E.out.2.symm, rfl⟩
  by_cases c2 : 9223372036854775808 ≤ sv x / K
  · have e := sec_far hf (fitB_false.2 (by omega))
    have E := Lib.hid e
    rw [decide_eq_false c1] at l
    rw [decide_eq_true c2] at h
    clear e c1 c2 hf
    go_enter Try.func19, Try.ntmps19
    go_wp2_with (first | (go_at_call 26; refine (isNaN_any x _).mono ?_; rintro e w' ⟨rfl, rfl⟩) | (go_at_call 27; refine (isInf_any x _ HX.out).mono ?_; rintro e w' ⟨rfl, rfl⟩) | (go_at_call 28; refine (floor_any x _ HF.out).mono ?_; rintro e w' ⟨rfl, rfl⟩))
    go_ret2
    exact ⟨ret_ii E.out.1.symm E.out.2.symm, rfl⟩
  have hfit : fitB (sv x / K) = true := fitB_true.2 (by omega)
  have e := sec_yes hf hfit
  have E := Lib.hid e
  have hc := fun w => run_convert_float_int (P := Try.prog) w 28 2 .f64 .i64 (flW x) (sv x / K) (by rw [Try.underlying28]; rfl) Try.underlying2 (whole_int (flW_sv hf).1 (by rw [(flW_sv hf).2.2, tdivK]) hfit)
  rw [decide_eq_false c1] at l
  rw [decide_eq_false c2] at h
  clear e c1 c2 hf hfit
  go_enter Try.func19, Try.ntmps19
  go_wp2_with (first | (go_at_call 26; refine (isNaN_any x _).mono ?_; rintro e w' ⟨rfl, rfl⟩) | (go_at_call 27; refine (isInf_any x _ HX.out).mono ?_; rintro e w' ⟨rfl, rfl⟩) | (go_at_call 28; refine (floor_any x _ HF.out).mono ?_; rintro e w' ⟨rfl, rfl⟩))
  go_ret2
  exact ⟨ret_ii E.out.1.symm E.out.2.symm, rfl⟩

theorem seconds_any (x : Nat) (w : World) (hx : x < 18446744073709551616) :
    Calls Try.prog 19 #[.float .f64 x] w fun e w' => e = .returned (.tuple #[.int .i64 (secV x), .int .i64 (secE x)]) ∧ w = w' := by
  cases h : finB x with
  | true => exact seconds_fin x w hx h
  | false => rw [(sec_not h).1, (sec_not h).2]; exact seconds_not x w hx h

theorem ret_fb {a b : Nat} {c d : Bool} (h : a = b) (g : c = d) : Ending.returned (.tuple #[.float .f64 a, .bool c]) = .returned (.tuple #[.float .f64 b, .bool d]) := by rw [h, g]

set_option maxHeartbeats 400000 in
theorem float_any (n : Int) (w : World) (hn : fitB n = true) :
    Calls Try.prog 21 #[.int .i64 n] w fun e w' => e = .returned (.tuple #[.float .f64 (fi n), .bool (justB n)]) ∧ w = w' := by
  have H := Lib.hid (fi_lt hn); clear hn
  cases hj : (secE (fi n) == 0) with
  | true =>
    have J : Hid (justB n = (secV (fi n) == n)) := Lib.hid (by rw [justB, hj]; rfl)
    have hj' : (secE (floatOfInt .f64 n) == 0) = true := hj
    clear hj
    go_enter Try.func21, Try.ntmps21
    go_wp2_with (go_at_call 19; refine (seconds_any (floatOfInt .f64 n) _ H.out).mono ?_; rintro e w' ⟨rfl, rfl⟩)
    go_ret2
    exact ⟨ret_fb rfl J.out.symm, rfl⟩
  | false =>
    have J : Hid (justB n = false) := Lib.hid (by rw [justB, hj]; rfl)
    have hj' : (secE (floatOfInt .f64 n) == 0) = false := hj
    clear hj
    go_enter Try.func21, Try.ntmps21
    go_wp2_with (go_at_call 19; refine (seconds_any (floatOfInt .f64 n) _ H.out).mono ?_; rintro e w' ⟨rfl, rfl⟩)
    go_ret2
    exact ⟨ret_fb rfl J.out.symm, rfl⟩

theorem place_any (x : Nat) (w : World) (hx : x < 18446744073709551616) :
    Calls Try.prog 29 #[.float .f64 x] w fun e w' => e = .returned (.int .i64 (placeV (ng x))) ∧ w = w' := by
  have H := Lib.hid hx; clear hx
  cases h : ng x
  · go_enter Try.func29, Try.ntmps29
    go_wp2_with (go_at_call 30; refine (signbit_any x _ H.out).mono ?_; rintro e w' ⟨rfl, rfl⟩)
    go_ret
    exact ⟨rfl, rfl⟩
  · go_enter Try.func29, Try.ntmps29
    go_wp2_with (go_at_call 30; refine (signbit_any x _ H.out).mono ?_; rintro e w' ⟨rfl, rfl⟩)
    go_ret
    exact ⟨rfl, rfl⟩

set_option maxHeartbeats 400000 in
theorem order_nan (a b : Nat) (w : World) (h : nanB a = true ∨ nanB b = true) :
    Calls Try.prog 23 #[.float .f64 a, .float .f64 b] w fun e w' => e = .returned (.int .i64 (cmp3 (key a) (key b))) ∧ w = w' := by
  cases ha : nanB a <;> cases hb : nanB b
  · simp_all
  · have E := Lib.hid (cmp3_lt (show key a < key b by rw [key_nan hb]; exact key_num ha))
    clear h
    go_enter Try.func23, Try.ntmps23
    go_wp2_with (go_at_call 26; refine (isNaN_any _ _).mono ?_; rintro e w' ⟨rfl, rfl⟩)
    go_ret
    exact ⟨ret_i E.out.symm, rfl⟩
  · have E := Lib.hid (cmp3_gt (show key b < key a by rw [key_nan ha]; exact key_num hb))
    have o := nan_left (y := b) ha
    clear h
    go_enter Try.func23, Try.ntmps23
    go_wp2_with (go_at_call 26; refine (isNaN_any _ _).mono ?_; rintro e w' ⟨rfl, rfl⟩)
    go_ret
    exact ⟨ret_i E.out.symm, rfl⟩
  · have E := Lib.hid (cmp3_eq (show key a = key b by rw [key_nan ha, key_nan hb]))
    clear h
    go_enter Try.func23, Try.ntmps23
    go_wp2_with (go_at_call 26; refine (isNaN_any _ _).mono ?_; rintro e w' ⟨rfl, rfl⟩)
    go_ret
    exact ⟨ret_i E.out.symm, rfl⟩

set_option maxHeartbeats 400000 in
theorem order_num_any (a b : Nat) (w : World) (ha : nanB a = false) (hb : nanB b = false) (la : a < 18446744073709551616) (lb : b < 18446744073709551616) :
    Calls Try.prog 23 #[.float .f64 a, .float .f64 b] w fun e w' => e = .returned (.int .i64 (cmp3 (key a) (key b))) ∧ w = w' := by
  have LA := Lib.hid la; have LB := Lib.hid lb; clear la lb
  have o1 := lt_order ha hb
  have o2 := gt_order ha hb
  have o3 := eqo_order ha nan_0
  rw [sv_zero] at o3
  rcases Int.lt_trichotomy (sv a) (sv b) with c | c | c
  · have E := Lib.hid (cmp3_lt (key_lt ha hb c))
    rw [decide_eq_true c] at o1
    clear o2 o3 c
    go_enter Try.func23, Try.ntmps23
    go_wp2_with (go_at_call 26; refine (isNaN_any _ _).mono ?_; rintro e w' ⟨rfl, rfl⟩)
    go_ret
    exact ⟨ret_i E.out.symm, rfl⟩
  · rw [decide_eq_false (by omega)] at o1 o2
    by_cases z : sv a = 0
    · have E := Lib.hid (place_cmp ha hb z (by omega))
      rw [decide_eq_true z] at o3
      clear c z
      go_enter Try.func23, Try.ntmps23
      go_wp2_with (first | (go_at_call 26; refine (isNaN_any _ _).mono ?_; rintro e w' ⟨rfl, rfl⟩) | (go_at_call 29; refine (place_any _ _ (by first | exact LA.out | exact LB.out)).mono ?_; rintro e w' ⟨rfl, rfl⟩))
      go_ret
      exact ⟨ret_i ((place_wrap _ _).trans E.out), rfl⟩
    · have E := Lib.hid (cmp3_eq (key_eq ha hb c z))
      rw [decide_eq_false z] at o3
      clear c z
      go_enter Try.func23, Try.ntmps23
      go_wp2_with (go_at_call 26; refine (isNaN_any _ _).mono ?_; rintro e w' ⟨rfl, rfl⟩)
      go_ret
      exact ⟨ret_i E.out.symm, rfl⟩
  · have E := Lib.hid (cmp3_gt (key_lt hb ha c))
    rw [decide_eq_false (by omega)] at o1
    rw [decide_eq_true c] at o2
    clear o3 c
    go_enter Try.func23, Try.ntmps23
    go_wp2_with (go_at_call 26; refine (isNaN_any _ _).mono ?_; rintro e w' ⟨rfl, rfl⟩)
    go_ret
    exact ⟨ret_i E.out.symm, rfl⟩

theorem order_any (a b : Nat) (w : World) (la : a < 18446744073709551616) (lb : b < 18446744073709551616) :
    Calls Try.prog 23 #[.float .f64 a, .float .f64 b] w fun e w' => e = .returned (.int .i64 (cmp3 (key a) (key b))) ∧ w = w' := by
  cases ha : nanB a <;> cases hb : nanB b
  · exact order_num_any a b w ha hb la lb
  · exact order_nan a b w (.inr hb)
  · exact order_nan a b w (.inl ha)
  · exact order_nan a b w (.inl ha)

end Go.Proofs.Ytnomejaklpfmbaa
