/-
  What must be in any case (layer 8): shown.
-/
import Derived.Test.YtalpbbgkallohaaDoorLcPa
import Derived.Test.YtalpbbgkallohaaDoorLcWrP
namespace Go.Proofs.YtalpbbgkallohaaDoor
open Go.ChangeShapes Go.WideShapes Go.ChangeAt Go.RowKit Lc

/-- The rules of the examples. -/
def R1 : Ru := ⟨⟨-18000, false, [69, 83, 84]⟩, ⟨-14400, true, [69, 68, 84]⟩, true, ⟨3, 3, 2, 0, 7200⟩, ⟨3, 11, 1, 0, 7200⟩⟩
def R2 : Ru := ⟨⟨12600, false, [43, 48, 51, 51, 48]⟩, kd0, false, ch0, ch0⟩
def T1 : List UInt8 := [69, 83, 84, 53, 69, 68, 84, 44, 77, 51, 46, 50, 46, 48, 44, 77, 49, 49, 46, 49, 46, 48]
def T2 : List UInt8 := [60, 43, 48, 51, 51, 48, 62, 45, 51, 58, 51, 48]
def T3 : List UInt8 := [69, 83, 84, 53, 69, 68, 84]
theorem sh_1 : wholeP false T1 = some R1 := by decide +kernel
theorem sh_2 : wholeP false T2 = some R2 := by decide +kernel
theorem sh_3 : wholeP false T3 = none := by decide +kernel
theorem sh_r : rightB R1 false = true := by decide +kernel
theorem sh_w : rightB R1 true = true := by decide +kernel
theorem sh_0 : rightB ru0 true = false := by decide +kernel
theorem sh_t : ruleT R1 = T1 := by
  have d : ∀ n : Int, 0 ≤ n → n < 10 → dec n = [UInt8.ofNat (48 + n.toNat)] := fun n h0 h => dec_1 h0 h
  have d5 : dec 5 = [53] := d 5 (by decide) (by decide)
  have d3 : dec 3 = [51] := d 3 (by decide) (by decide)
  have d2 : dec 2 = [50] := d 2 (by decide) (by decide)
  have d0 : dec 0 = [48] := d 0 (by decide) (by decide)
  have d1 : dec 1 = [49] := d 1 (by decide) (by decide)
  have d11 : dec 11 = [49, 49] := by unfold dec; rw [show (11 : Int).toNat = 11 from rfl, Lib.decDigits_two (by decide) (by decide)]; rfl
  have n1 : nameT R1.std.name = [69, 83, 84] := by decide +kernel
  have n2 : nameT R1.dst.name = [69, 68, 84] := by decide +kernel
  unfold ruleT restT
  rw [n1, n2]
  simp [R1, clockT, clockU, changeT, dayT, timeT, d5, d3, d2, d0, d1, d11, T1]

theorem cell_of {w : World} {k : Nat} {cs : Array Value} {T : TypeId} (h : Bk w k cs T) (j : Nat) (v : Value) (e : cs[j]? = some v) : w.cell? ⟨k, j, none⟩ = some v := (h.cell j).trans e
set_option maxRecDepth 100000 in
set_option maxHeartbeats 4000000 in
theorem shown_any (w : World) (T : Tabs w) : Calls Tryd.prog 13 #[] w fun e w' => e = .returned (.bool true) ∧ Up w w' := by
  have P1 : ∀ w, Calls Tryd.prog 18 #[.string ⟨#[69, 83, 84, 53, 69, 68, 84, 44, 77, 51, 46, 50, 46, 48, 44, 77, 49, 49, 46, 49, 46, 48]⟩, .bool false] w fun e w' => e = .returned (.tuple #[.agg (rA R1), .int .i64 0]) ∧ Up w w' := fun w => by
    have := parse_any T1 false w (by decide)
    unfold parR parE at this
    rw [sh_1] at this; exact this
  have P2 : ∀ w, Calls Tryd.prog 18 #[.string ⟨#[60, 43, 48, 51, 51, 48, 62, 45, 51, 58, 51, 48]⟩, .bool false] w fun e w' => e = .returned (.tuple #[.agg (rA R2), .int .i64 0]) ∧ Up w w' := fun w => by
    have := parse_any T2 false w (by decide)
    unfold parR parE at this
    rw [sh_2] at this; exact this
  have P3 : ∀ w, Calls Tryd.prog 18 #[.string ⟨#[69, 83, 84, 53, 69, 68, 84]⟩, .bool false] w fun e w' => e = .returned (.tuple #[.agg (rA ru0), .int .i64 4]) ∧ Up w w' := fun w => by
    have := parse_any T3 false w (by decide)
    unfold parR parE at this
    rw [sh_3] at this
    exact this
  have Q1 : ∀ w, Tabs w → Calls Tryd.prog 15 #[.agg (rA R1), .bool false] w fun e w' => e = .returned (.tuple #[.string ⟨#[69, 83, 84, 53, 69, 68, 84, 44, 77, 51, 46, 50, 46, 48, 44, 77, 49, 49, 46, 49, 46, 48]⟩, .int .i64 0]) ∧ Up w w' := fun w T => by
    have := print_any R1 false w T (by decide) (by decide)
    unfold prT prE at this
    rw [sh_r, sh_t] at this; exact this
  have Q0 : ∀ w, Tabs w → Calls Tryd.prog 15 #[.agg (rA ru0), .bool true] w fun e w' => e = .returned (.tuple #[.string ⟨#[]⟩, .int .i64 1]) ∧ Up w w' := fun w T => by
    have := print_any ru0 true w T (by decide) (by decide)
    unfold prT prE at this
    rw [sh_0] at this; exact this
  have RR : ∀ w, Calls Tryd.prog 16 #[.agg (rA R1), .bool true] w fun e w' => e = .returned (.bool true) ∧ Up w w' := fun w => by
    have := right_any R1 true w (by decide) (by decide)
    rw [sh_w] at this; exact this
  rw [ru0_lit] at P3 Q0
  have rs : ∀ r, (rA r).size = 17 := fun r => rfl
  have t := Lib.hid T
  clear T
  go_enter Tryd.func13, Tryd.ntmps13
  go_wp2_with fail
  refine (P1 _).mono ?_; rintro e w1 ⟨rfl, u1⟩
  have z1 := Bk.new w1 (rA ru0) 27 (by decide)
  have ST := st_cells (r := R1) z1
  have b1 := putR_bk (r := R1) z1
  have v1 := u1.trans (putR_up (r := R1) (Up.alloc w1 (.cells (rA ru0) 27)) (Nat.le_refl _))
  rw [ru0_lit] at ST b1 v1
  clear z1
  generalize PutR _ w1.heap.size R1 = w2 at *
  go_upto_region 2 with (fail)
  refine wp_region_lit ?_
  refine wpList_ld rfl 1 w1.heap.size R1 _ rfl b1 rfl ?_
  clear ST
  go_wp2_with fail
  refine (Q1 _ (Tabs.up t.out v1)).mono ?_; rintro e w3 ⟨rfl, u3⟩
  have b3 := b1.up u3
  have v3 := v1.trans u3
  clear b1 v1 u3
  go_wp2_with fail
  refine (P2 _).mono ?_; rintro e w4 ⟨rfl, u4⟩
  have z1 := Bk.new w4 (rA ru0) 27 (by decide)
  have ST := st_cells (r := R2) z1
  have u5 := u4.trans (putR_up (r := R2) (Up.alloc w4 (.cells (rA ru0) 27)) (Nat.le_refl _))
  have b5 := putR_bk (r := R2) z1
  rw [ru0_lit] at ST u5 b5
  clear z1
  generalize PutR _ w4.heap.size R2 = w5 at *
  have c5 := b3.up u5
  have v5 := v3.trans u5
  go_upto_region 4 with (fail)
  clear ST b3 v3 u5
  go_wp2_with fail
  refine (P3 _).mono ?_; rintro e w6 ⟨rfl, u6⟩
  have u7 := u6.trans (Up.alloc w6 (.cells (rA ru0) 27))
  have b7 := b5.up u7
  have c7 := c5.up u7
  have v7 := v5.trans u7
  clear b5 c5 v5 u6
  have UV := Lib.hid v7
  have BB := Lib.hid b7
  have CC := Lib.hid c7
  rw [ru0_lit] at UV BB CC
  clear b7 c7 v7 u7
  go_wp2_with fail
  refine (Q0 _ (Tabs.up t.out UV.out)).mono ?_; rintro e w8 ⟨rfl, u8⟩
  obtain ⟨⟨q0, q1, q2⟩, ⟨q3, q4, q5⟩, q6, ⟨q7, q8, q9, q10, q11⟩, q12, q13, q14, q15, q16⟩ := Rb.bk (CC.out.up u8)
  obtain ⟨⟨p0, p1, p2⟩, ⟨p3, p4, p5⟩, p6, ⟨p7, p8, p9, p10, p11⟩, p12, p13, p14, p15, p16⟩ := Rb.bk (BB.out.up u8)
  have U8 := Lib.hid (UV.out.trans u8)
  clear u8 UV BB CC t P1 P2 P3 Q1 Q0
  simp only [R1, R2, kd0, ch0] at q0 q1 q2 q3 q4 q5 q6 q7 q8 q9 q10 q11 q12 q13 q14 q15 q16 p0 p6
  clear p1 p2 p3 p4 p5 p7 p8 p9 p10 p11 p12 p13 p14 p15 p16
  unfold rA R1 at RR
  simp only at RR
  go_wp2_with fail
  refine (RR _).mono ?_; rintro e w9 ⟨rfl, u9⟩
  go_wp2_with fail
  go_ret
  exact ⟨rfl, U8.out.trans u9⟩
end Go.Proofs.YtalpbbgkallohaaDoor
