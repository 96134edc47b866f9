/-
  That what must be in any case is: the law's own opening look answers true.
-/
import Derived.Test.YtnomejaklpfmbaaLcNumF
namespace Go.Proofs.Ytnomejaklpfmbaa
open Go.ChangeShapes Go.WideShapes Go.ChangeAt Go.RowKit Lc

theorem mul_inf : floatBits .mul .f64 9214871658872686752 4621819117588971520 = some 9218868437227405312 := by decide +kernel
theorem sub_inf : floatBits .sub .f64 9218868437227405312 9218868437227405312 = none := by decide +kernel

theorem sh_add (w : World) : Calls Try.prog 13 #[.int .i64 4611686018427387904, .int .i64 4611686018427387904] w fun e w' => e = .returned (.tuple #[.int .i64 0, .bool false]) ∧ w = w' :=
  add_any 4611686018427387904 4611686018427387904 w (by decide) (by decide)
theorem sh_mul (w : World) : Calls Try.prog 15 #[.int .i64 (-4294967296), .int .i64 2147483648] w fun e w' => e = .returned (.tuple #[.int .i64 (-9223372036854775808), .bool true]) ∧ w = w' :=
  mul_any (-4294967296) 2147483648 w (by decide) (by decide)
theorem sh_div (w : World) : Calls Try.prog 17 #[.int .i64 (-7), .int .i64 2] w fun e w' => e = .returned (.tuple #[.int .i64 (-4), .int .i64 1, .bool true]) ∧ Dr w w' :=
  div_yes (-7) 2 w (by decide) (by decide) (by decide)
theorem sh_sec1 (w : World) : Calls Try.prog 19 #[.float .f64 13826050856027422720] w fun e w' => e = .returned (.tuple #[.int .i64 (-1), .int .i64 0]) ∧ w = w' := by
  have := seconds_any 13826050856027422720 w (by decide)
  rw [show secV 13826050856027422720 = -1 by decide +kernel, show secE 13826050856027422720 = 0 by decide +kernel] at this
  exact this
theorem sh_sec2 (z : Nat) (w : World) (h : nanB z = true) (l : z < 18446744073709551616) : Calls Try.prog 19 #[.float .f64 z] w fun e w' => e = .returned (.tuple #[.int .i64 0, .int .i64 3]) ∧ w = w' :=
  seconds_not z w l (by rw [kinds_of, h]; rfl)
theorem sh_sec3 (w : World) : Calls Try.prog 19 #[.float .f64 9094988921128908188] w fun e w' => e = .returned (.tuple #[.int .i64 0, .int .i64 2]) ∧ w = w' := by
  have := seconds_any 9094988921128908188 w (by decide)
  rw [show secV 9094988921128908188 = 0 by decide +kernel, show secE 9094988921128908188 = 2 by decide +kernel] at this
  exact this
theorem sh_float (w : World) : Calls Try.prog 21 #[.int .i64 9007199254740993] w fun e w' => e = .returned (.tuple #[.float .f64 4845873199050653696, .bool false]) ∧ w = w' := by
  have := float_any 9007199254740993 w (by decide)
  rw [show fi 9007199254740993 = 4845873199050653696 by decide +kernel, show justB 9007199254740993 = false by decide +kernel] at this
  exact this
theorem sh_order (w : World) : Calls Try.prog 23 #[.float .f64 18442240474082181120, .float .f64 0] w fun e w' => e = .returned (.int .i64 (-1)) ∧ w = w' := by
  have := order_any 18442240474082181120 0 w (by decide) (by decide)
  rw [show cmp3 (key 18442240474082181120) (key 0) = -1 by decide +kernel] at this
  exact this

set_option maxHeartbeats 1000000 in
set_option maxRecDepth 100000 in
theorem shown_any (w : World) : Calls Try.prog 12 #[] w fun e w' => e = .returned (.bool true) ∧ Dr w w' := by
  have m1 := fun w => run_float_arith (P := Try.prog) w .mul 28 .f64 _ _ _ mul_inf
  have e1 : (FloatKind.f64.format.order 4845873199050653696 4845873199050653696 == some Ordering.eq) = true := by decide +kernel
  have u1 : ∀ w : World, (Op.unary UnOp.neg (Value.float FloatKind.f64 9218868437227405312)).run Try.prog w = .ok (.float .f64 18442240474082181120) w := fun _ => by kernel_rfl
  go_enter Try.func12, Try.ntmps12
  go_wp2_with fail
  refine (sh_add _).mono ?_; rintro e w' ⟨rfl, rfl⟩
  go_wp2_with fail
  refine (sh_mul _).mono ?_; rintro e w' ⟨rfl, rfl⟩
  go_wp2_with fail
  refine (sh_div _).mono ?_; rintro e w' ⟨rfl, n, rfl⟩
  obtain ⟨z, z1, z2, z3⟩ := nan_run (P := Try.prog) .sub 28 9218868437227405312 9218868437227405312 (w.drewN n) (.inr (.inl rfl)) sub_inf
  have Z1 := Lib.hid z1; have Z2 := Lib.hid z2; clear z1 z2
  go_wp2_with fail
  refine (sh_sec1 _).mono ?_; rintro e w' ⟨rfl, rfl⟩
  go_wp2_with fail
  refine (sh_sec2 z _ Z1.out Z2.out).mono ?_; rintro e w' ⟨rfl, rfl⟩
  go_wp2_with fail
  refine (sh_sec3 _).mono ?_; rintro e w' ⟨rfl, rfl⟩
  go_wp2_with fail
  refine (sh_float _).mono ?_; rintro e w' ⟨rfl, rfl⟩
  go_wp2_with fail
  refine (sh_order _).mono ?_; rintro e w' ⟨rfl, rfl⟩
  go_wp2
  go_ret
  exact ⟨rfl, Dr.drewN _ _⟩
end Go.Proofs.Ytnomejaklpfmbaa
