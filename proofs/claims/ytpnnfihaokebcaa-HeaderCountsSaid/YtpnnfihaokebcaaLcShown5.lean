/-
  That what must be in any case of headers is: the law's own opening look answers true.
-/
import Derived.Test.YtpnnfihaokebcaaLcHdrS
namespace Go.Proofs.Ytpnnfihaokebcaa
open Go.ChangeShapes Go.WideShapes Go.ChangeAt Go.RowKit Lc

theorem rd_decode (A : Option Addr) (x : List UInt8) (n c : Nat) (w : World) (v u s l t y d : Int) (hn : x.length = n) (hc : n ≤ c) (hcm : c ≤ maxLen) (hr : Rd w A x) (h : IsB x v u s l t y d) (r : rightH v u s l t y d = true) :
    Calls Try.prog 17 #[.slice A n c] w fun e w' => e = .returned (.tuple #[hv v u s l t y d, .int .i64 0]) ∧ Up w w' := by
  subst hn
  have C := decode_any A x c w hc hcm hr
  rw [(isB_read h r).2.1, (isB_read h r).2.2] at C
  exact C
theorem short4 (A : Option Addr) (c : Nat) (w : World) : Calls Try.prog 17 #[.slice A 4 c] w fun e w' => e = .returned (.tuple #[hv 0 0 0 0 0 0 0, .int .i64 5]) ∧ Up w w' :=
  decode_short A [84, 90, 105, 102] c w (by decide)

set_option maxHeartbeats 2000000 in
set_option maxRecDepth 100000 in
theorem shown_any (w : World) : Calls Try.prog 9 #[] w fun e w' => e = .returned (.bool true) ∧ Up w w' := by
  have C1 := Lib.hid fun w => encode_yes 2 0 0 0 3 1 4 w (by decide)
  have C2 := Lib.hid fun w => encode_no 0 0 0 0 0 0 0 w (by decide)
  have C3 := Lib.hid fun w => body_any 1 0 0 0 0 1 1 4 w (by decide) (by decide) (by decide) (by decide) (by decide) (by decide) (by decide)
  go_enter Try.func9, Try.ntmps9
  go_wp2_with fail
  refine (C1.out _).mono ?_; rintro e w1 ⟨a, rfl, ho, u1⟩
  obtain ⟨A, c, rfl, hc, hcm, hr, _⟩ := ho.form
  rw [encB_len] at hc ⊢
  have R1 := Lib.hid hr; have U1 := Lib.hid u1
  clear ho hr u1
  go_wp2_with (at_builtin; refine wpList_append_bytes _ rfl _ _ rfl w1.heap.size _ [] rfl (Ow.empty w1 _ (Nat.le_refl _)) A (encB 2 0 0 0 3 1 4) 44 c rfl (encB_len _ _ _ _ _ _ _) (R1.out.up (Up.alloc _ _)) (by rw [encB_len]; decide) (by simp) ?_)
  intro v2 w2 ho2 hg2 hat2
  replace ho2 : Ow w2 w1.heap.size v2 (encB 2 0 0 0 3 1 4) := by simpa using ho2
  have U2 : Hid (Up w w2) := U1.out.trans ((Up.alloc w1 _).grown hg2 (by intro k hk; simp [Value.ownBlock] at hk; omega))
  have S2 : Hid (w1.heap.size ≤ w2.heap.size) := by have := hg2.size; simp at this; unfold Hid; omega
  have O2 := Lib.hid ho2
  clear ho2 hg2 hat2
  go_wp2_with (at_builtin; refine wpList_append_bytes _ rfl _ _ rfl w1.heap.size _ (encB 2 0 0 0 3 1 4) rfl (O2.out.up (Up.alloc _ _)) (some ⟨w2.heap.size, 0, none⟩) [9] 1 1 rfl rfl (Rd.one w2 _ _ _ ?e1) ?e2 ?e3 ?_)
  case e1 => decide
  case e2 => rw [encB_len]; decide
  case e3 => have := S2.out; simp; omega
  intro v3 w3 ho3 hg3 hat3
  have U3 : Hid (Up w w3) := by
    have u : Up w (w2.alloc (.cells #[.int .u8 9] 5)) := U2.out.alloc' _
    refine u.grown hg3 fun k hk => ?_
    have := O2.out.block k hk
    have := U1.out.size
    omega
  obtain ⟨A3, c3, rfl, hc3, hcm3, hr3, _⟩ := ho3.form
  rw [List.length_append, encB_len] at hc3 ⊢
  have R3 := Lib.hid hr3
  clear ho3 hg3 hat3 hr3 O2 S2 U2 R1 U1
  go_wp2_with fail
  refine (rd_decode A3 _ 45 c3 w3 2 0 0 0 3 1 4 (by rw [List.length_append, encB_len]; rfl) hc3 hcm3 R3.out (isB_enc _ _ _ _ _ _ _ _) (by decide)).mono ?_
  rintro e w4 ⟨rfl, u4⟩
  have U4 := Lib.hid (U3.out.trans u4)
  clear u4 U3 R3
  have kc := convert_const (w4.alloc (.cells #[.int .i64 2, .int .i64 0, .int .i64 0, .int .i64 0, .int .i64 3, .int .i64 1, .int .i64 4] 23)) #[.int .u8 84, .int .u8 90, .int .u8 105, .int .u8 102] 4 4
  rw [World.size_alloc] at kc
  go_wp2_with fail
  refine (short4 _ _ _).mono ?_; rintro e w5 ⟨rfl, u5⟩
  have B5 := Lib.hid (((HBox.new w4 2 0 0 0 3 1 4 23).up (Up.alloc _ _)).up u5)
  have U5 := Lib.hid (((U4.out.alloc' (.cells #[.int .i64 2, .int .i64 0, .int .i64 0, .int .i64 0, .int .i64 3, .int .i64 1, .int .i64 4] 23)).alloc' _).trans u5)
  clear kc u5 U4
  go_wp2_with fail
  refine (C2.out _).mono ?_; rintro e w6 ⟨rfl, u6⟩
  have B6 := Lib.hid ((B5.out.up (Up.alloc _ _)).up u6)
  have U6 := Lib.hid ((U5.out.alloc' _).trans u6)
  clear u6 B5 U5
  obtain ⟨a0, a1, a2, a3, a4, a5, a6⟩ := B6.out
  go_wp2_with fail
  refine (C3.out _).mono ?_; rintro e w7 ⟨rfl, u7⟩
  rw [show bodyI 0 0 0 0 1 1 4 = 7 by decide]
  have U7 := Lib.hid (U6.out.trans u7)
  clear u7
  go_wp2_with fail
  go_ret
  exact ⟨rfl, U7.out⟩
end Go.Proofs.Ytpnnfihaokebcaa
