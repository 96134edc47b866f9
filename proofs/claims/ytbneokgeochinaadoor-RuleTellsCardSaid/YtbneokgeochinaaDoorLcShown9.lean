/-
  What must be in any case (layer 9): shown.
-/
import Derived.Test.YtbneokgeochinaaDoorLcRuG
namespace Go.Proofs.YtbneokgeochinaaDoor
open Go.ChangeShapes Go.WideShapes Go.ChangeAt Go.RowKit Go.Sort Lc

/-- The example's rule. -/
def S9 : Ru := ⟨⟨-18000, false, [69, 83, 84]⟩, ⟨-14400, true, [69, 68, 84]⟩, true, ⟨3, 3, 2, 0, 7200⟩, ⟨3, 11, 1, 0, 7200⟩⟩
theorem s9_1 : tuS S9 2007 = 1173596400 ∧ tuN S9 2007 = 1194156000 ∧ tuE S9 2007 = 0 := by decide +kernel
theorem s9_2 : AtS S9 1173596400 S9.dst 0 := .inr (.inr (.inr ⟨by decide +kernel, rfl, 2007, 3, 11, by decide +kernel, by decide +kernel, by decide +kernel, rfl⟩))
theorem s9_3 : AtS S9 1173596399 S9.std 0 := .inr (.inr (.inr ⟨by decide +kernel, rfl, 2007, 3, 11, by decide +kernel, by decide +kernel, by decide +kernel, rfl⟩))
theorem s9_4 : AtS ru0 0 kd0 1 := .inl ⟨by decide +kernel, rfl, rfl⟩
theorem s9_5 : okY 2000 ⟨1, 60, 0, 0, 0⟩ = true ∧ dayC 2000 ⟨1, 60, 0, 0, 0⟩ = 11017 := by decide +kernel
set_option maxRecDepth 100000 in
set_option maxHeartbeats 4000000 in
theorem shown_any (w : World) (T : Tab w) : Calls Tryd.prog 11 #[] w fun e w' => e = .returned (.bool true) ∧ Up w w' := by
  have rw0 : rA S9 = #[.int .i64 (-18000), .bool false, .string ⟨#[69, 83, 84]⟩, .int .i64 (-14400), .bool true, .string ⟨#[69, 68, 84]⟩, .bool true, .int .i64 3, .int .i64 3, .int .i64 2, .int .i64 0, .int .i64 7200, .int .i64 3, .int .i64 11, .int .i64 1, .int .i64 0, .int .i64 7200] := rfl
  have t := Lib.hid T
  clear T
  have C1 : ∀ w, Tab w → Calls Tryd.prog 14 #[.agg (rA S9), .int .i64 2007] w fun e w' => e = .returned (.tuple #[.int .i64 1173596400, .int .i64 1194156000, .int .i64 0]) ∧ Up w w' := fun w T => by
    have := turnsP_any S9 2007 w T (by decide) (by decide)
    rw [s9_1.1, s9_1.2.1, s9_1.2.2] at this; exact this
  have C2 : ∀ w, Tab w → Calls Tryd.prog 16 #[.agg (rA S9), .int .i64 1173596400] w fun e w' => e = .returned (.tuple #[.agg #[.int .i64 (-14400), .bool true, .string ⟨#[69, 68, 84]⟩], .int .i64 0]) ∧ Up w w' := fun w T => at_of s9_2 w T (by decide) (by decide) (by decide)
  have C3 : ∀ w, Tab w → Calls Tryd.prog 16 #[.agg (rA S9), .int .i64 1173596399] w fun e w' => e = .returned (.tuple #[.agg #[.int .i64 (-18000), .bool false, .string ⟨#[69, 83, 84]⟩], .int .i64 0]) ∧ Up w w' := fun w T => at_of s9_3 w T (by decide) (by decide) (by decide)
  have C4 : ∀ w, Tab w → Calls Tryd.prog 16 #[.agg #[.int .i64 0, .bool false, .string ⟨#[]⟩, .int .i64 0, .bool false, .string ⟨#[]⟩, .bool false, .int .i64 0, .int .i64 0, .int .i64 0, .int .i64 0, .int .i64 0, .int .i64 0, .int .i64 0, .int .i64 0, .int .i64 0, .int .i64 0], .int .i64 0] w fun e w' => e = .returned (.tuple #[.agg #[.int .i64 0, .bool false, .string ⟨#[]⟩], .int .i64 1]) ∧ Up w w' := fun w T => at_of s9_4 w T (by decide) (by decide) (by decide)
  have C5 : ∀ w, Tab w → Calls Tryd.prog 12 #[.int .i64 2000, .agg #[.int .i64 1, .int .i64 60, .int .i64 0, .int .i64 0, .int .i64 0]] w fun e w' => e = .returned (.tuple #[.int .i64 11017, .int .i64 0]) ∧ Up w w' := fun w T => by
    have := day_any 2000 ⟨1, 60, 0, 0, 0⟩ w T
    rw [s9_5.1, if_pos rfl, if_pos rfl, s9_5.2] at this; exact this
  have B0 := Lib.hid (Bk.new w (rA S9) 27 (by decide))
  have U0 := Lib.hid (Up.alloc w (.cells (rA S9) 27))
  go_enter Tryd.func11, Tryd.ntmps11
  go_upto_region 2 with (fail)
  rw [← rw0]
  generalize w.alloc _ = W0 at *
  refine wp_region_lit ?_
  refine wpList_ld rfl 1 w.heap.size S9 _ rfl B0.out rfl ?_
  go_wp2_with fail
  refine (C1 _ (t.out.up U0.out)).mono ?_; rintro e w1 ⟨rfl, u1⟩
  have B1 := Lib.hid (B0.out.up u1)
  have U1 := Lib.hid (U0.out.trans u1)
  clear u1 B0 U0
  go_upto_region 3 with (fail)
  refine wp_region_lit ?_
  refine wpList_ld rfl 1 w.heap.size S9 _ rfl B1.out rfl ?_
  go_wp2_with fail
  refine (C2 _ (t.out.up U1.out)).mono ?_; rintro e w2 ⟨rfl, u2⟩
  have K2 := Bk.new w2 #[.int .i64 (-14400), .bool true, .string ⟨#[69, 68, 84]⟩] 23 (by decide)
  have u2' := u2.trans (Up.alloc w2 (.cells #[.int .i64 (-14400), .bool true, .string ⟨#[69, 68, 84]⟩] 23))
  have B2 := Lib.hid (B1.out.up u2')
  have U2 := Lib.hid (U1.out.trans u2')
  have KK2 := Lib.hid K2
  clear u2 u2' B1 U1 K2
  go_upto_region 4 with (fail)
  generalize w2.alloc _ = W2 at *
  refine wp_region_lit ?_
  refine wpList_ld rfl 1 w.heap.size S9 _ rfl B2.out rfl ?_
  go_wp2_with fail
  refine (C3 _ (t.out.up U2.out)).mono ?_; rintro e w3 ⟨rfl, u3⟩
  have K3 := Bk.new w3 #[.int .i64 (-18000), .bool false, .string ⟨#[69, 83, 84]⟩] 23 (by decide)
  have u3' := u3.trans (Up.alloc w3 (.cells #[.int .i64 (-18000), .bool false, .string ⟨#[69, 83, 84]⟩] 23))
  have U3 := Lib.hid (U2.out.trans u3')
  have KL2 := Lib.hid (KK2.out.up u3')
  have KK3 := Lib.hid K3
  clear u3 u3' B2 U2 K3 KK2
  go_upto_region 5 with (fail)
  generalize w3.alloc _ = W3 at *
  go_wp2_with fail
  refine (C4 _ (t.out.up U3.out)).mono ?_; rintro e w4 ⟨rfl, u4⟩
  have u4' := u4.trans (Up.alloc w4 (.cells #[.int .i64 0, .bool false, .string ⟨#[]⟩] 23))
  have U4 := Lib.hid (U3.out.trans u4')
  have KM2 := Lib.hid (KL2.out.up u4')
  have KM3 := Lib.hid (KK3.out.up u4')
  clear u4 u4' U3 KL2 KK3
  go_upto_region 6 with (fail)
  generalize w4.alloc _ = W4 at *
  go_wp2_with fail
  refine (C5 _ (t.out.up U4.out)).mono ?_; rintro e w5 ⟨rfl, u5⟩
  have U5 := Lib.hid (U4.out.trans u5)
  have q2 : w5.cell? ⟨w2.heap.size, 2, none⟩ = some (.string ⟨#[69, 68, 84]⟩) := (KM2.out.up u5).cell 2
  have q3 : w5.cell? ⟨w3.heap.size, 2, none⟩ = some (.string ⟨#[69, 83, 84]⟩) := (KM3.out.up u5).cell 2
  clear u5 U4 KM2 KM3 C1 C2 C3 C4 C5
  go_wp2_with fail
  go_ret
  exact ⟨rfl, U5.out⟩
end Go.Proofs.YtbneokgeochinaaDoor
