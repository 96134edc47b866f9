/-
  PosixTimes is proved: for every time the statement answers true: what times are right in the wide form, and in the narrow one. Conditions: the tied card's own (the listed variables as the text of the program lays them).
-/
import Derived.Test.YtalpbbgkallohaaDoorLcSh8
import Derived.Test.YtalpbbgkallohaaDoorLcPs8
import Derived.Test.YtalpbbgkallohaaDoorLcOpR
import Derived.Test.YtalpbbgkallohaaDoorLcLd8
import Derived.Test.YtalpbbgkallohaaDoorTie
import Derived.Test.YtalpbbgkallohaaDoorCards
import Derived.WalkKit
import Derived.ProofKit
import Derived.OpenShut
import Derived.LaidMore
import Derived.Stop.Joined
import Derived.SevenTiedAt
namespace Go.Proofs.YtalpbbgkallohaaDoor.posixTimes
open Go.ChangeShapes Go.WideShapes Go.ChangeAt Go.RowKit Lc
set_option linter.unusedVariables false

theorem own : ownKnob Tryd.prog.godebug = none := by kernel_rfl

/-- The rule of the statement. -/
def rT (t : Int) : Ru := ⟨⟨0, false, [65, 65, 65]⟩, ⟨0, true, [66, 66, 66]⟩, true, ⟨2, 5, 0, 0, t⟩, ⟨2, 5, 0, 0, t⟩⟩
theorem rT_right (t : Int) (wide : Bool) : rightB (rT t) wide = timeB t wide := by
  have h1 : kindB ⟨0, false, [65, 65, 65]⟩ false = true := by decide
  have h2 : kindB ⟨0, true, [66, 66, 66]⟩ true = true := by decide
  have h3 : dayB ⟨2, 5, 0, 0, t⟩ = true := rfl
  unfold rightB rT changeB
  simp only [h1, h2, h3, if_true, Bool.true_and, Bool.and_self]
theorem tNo {t : Int} (h : t < -604799 ∨ 604799 < t) : prE (rT t) true = 1 ∧ [] = prT (rT t) true ∧ rightB (rT t) true = false ∧ rightB (rT t) false = false := by
  have e1 : rightB (rT t) true = false := by rw [rT_right]; unfold timeB inB; simp; omega
  have e2 : rightB (rT t) false = false := by rw [rT_right]; unfold timeB inB; simp; omega
  exact ⟨by unfold prE; rw [e1]; rfl, by unfold prT; rw [e1]; rfl, e1, e2⟩
theorem tWide {t : Int} (h1 : -604799 ≤ t) (h2 : t ≤ 604799) : prE (rT t) true = 0 ∧ rightB (rT t) true = true ∧ parE true (prT (rT t) true) = 0 ∧ rT t = parR true (prT (rT t) true) := by
  have e1 : rightB (rT t) true = true := by rw [rT_right]; unfold timeB inB; simp; omega
  have e2 : prT (rT t) true = ruleT (rT t) := by unfold prT; rw [e1]; rfl
  have e3 := whole_told e1
  rw [e2]
  exact ⟨by unfold prE; rw [e1]; rfl, e1, by unfold parE; rw [e3]; rfl, by unfold parR; rw [e3]; rfl⟩
theorem tNar {t : Int} (h1 : 0 ≤ t) (h2 : t ≤ 89999) : rightB (rT t) false = true ∧ parE false (prT (rT t) true) = 0 := by
  have e1 : rightB (rT t) false = true := by rw [rT_right]; unfold timeB inB; simp; omega
  have e2 : prT (rT t) true = ruleT (rT t) := by unfold prT; rw [right_wide e1]; rfl
  rw [e2]
  exact ⟨e1, by unfold parE; rw [whole_told e1]; rfl⟩
theorem tNot {t : Int} (h : t < 0 ∨ 89999 < t) (h1 : -604799 ≤ t) (h2 : t ≤ 604799) : rightB (rT t) false = false ∧ parE false (prT (rT t) true) = 4 := by
  have e0 : rightB (rT t) false = false := by rw [rT_right]; unfold timeB inB; simp; omega
  have e1 : rightB (rT t) true = true := by rw [rT_right]; unfold timeB inB; simp; omega
  have e2 : prT (rT t) true = ruleT (rT t) := by unfold prT; rw [e1]; rfl
  rw [e2]
  refine ⟨e0, ?_⟩
  unfold parE
  cases q : wholeP false (ruleT (rT t)) with
  | none => rfl
  | some r =>
    have q2 := whole_wide q
    rw [whole_told e1] at q2
    cases q2
    rw [whole_right q] at e0; cases e0
set_option maxHeartbeats 16000000 in
set_option maxRecDepth 100000 in
theorem armA1 (a0 : Int) (w0 : (Lit.int .i64 a0).wf = true) (w : World) (T : Tabs w) (c1 : a0 < -604799) :
    Calls Tryd.prog 10 #[.int .i64 a0] w fun e w' => e = .returned (.bool true) ∧ Up w w' := by
  have SH := Lib.hid (fun w T => shown_any w T)
  have TT := Lib.hid T
  clear T
  have PN := Lib.hid (fun w T => print_any (rT a0) true w T (by show (3 : Nat) ≤ maxLen; unfold maxLen; omega) (by show (3 : Nat) ≤ maxLen; unfold maxLen; omega))
  have R1 := Lib.hid (fun w => right_any (rT a0) true w (by show (3 : Nat) ≤ maxLen; unfold maxLen; omega) (by show (3 : Nat) ≤ maxLen; unfold maxLen; omega))
  have R2 := Lib.hid (fun w => right_any (rT a0) false w (by show (3 : Nat) ≤ maxLen; unfold maxLen; omega) (by show (3 : Nat) ≤ maxLen; unfold maxLen; omega))
  have tl : (prT (rT a0) true).length ≤ 100 := by
    unfold prT
    cases h : rightB (rT a0) true
    · simp
    · rw [if_pos rfl]; exact rule_100 h
  have QA := Lib.hid (fun w => parse_any (prT (rT a0) true) true w (by omega))
  have QB := Lib.hid (fun w => parse_any (prT (rT a0) true) false w (by omega))
  have QE : ∀ (r : Ru) w, (binOp .eql 27 (.agg (rA r)) (.agg (rA r))).run Tryd.prog w = .ok (.bool true) w := fun r w => by have := ru_eql r r w; rw [decide_eq_true rfl] at this; exact this
  have rs : ∀ r, (rA r).size = 17 := fun r => rfl
  have X1 := @tNo a0
  have X2 := @tWide a0
  have X3 := @tNar a0
  have X4 := @tNot a0
  clear tl
  have hRA : Hid (#[.int .i64 0, .bool false, .string ⟨#[65, 65, 65]⟩, .int .i64 0, .bool true, .string ⟨#[66, 66, 66]⟩, .bool true, .int .i64 2, .int .i64 5, .int .i64 0, .int .i64 0, .int .i64 a0, .int .i64 2, .int .i64 5, .int .i64 0, .int .i64 0, .int .i64 a0] = rA (rT a0)) := Lib.hid rfl
  generalize rT a0 = X at *
  generalize parR true (prT X true) = k1 at *
  generalize parE true (prT X true) = f1 at *
  generalize parR false (prT X true) = k2 at *
  generalize parE false (prT X true) = g1 at *
  generalize prT X true = t1 at *
  generalize prE X true = e1 at *
  generalize rightB X true = b1 at *
  generalize rightB X false = b2 at *
  have tx0 : tx [] = (⟨#[]⟩ : ByteArray) := rfl
  obtain ⟨rfl, rfl, rfl, rfl⟩ := X1 (.inl c1)
  clear X1 X2 X3 X4
  have p0 : decide (-604799 ≤ a0) = false := by simp; omega
  go_enter Tryd.func10, Tryd.ntmps10
  go_wp2_with fail
  refine (SH.out _ TT.out).mono ?_; rintro e w1 ⟨rfl, u1⟩
  clear SH
  go_upto_region 6 with (fail)
  obtain ⟨W, hW⟩ : ∃ W, W = (w1.alloc (.cells #[.int .i64 2, .int .i64 5, .int .i64 0, .int .i64 0, .int .i64 a0] 25)).alloc (.cells #[.int .i64 0, .bool false, .string ⟨#[65, 65, 65]⟩, .int .i64 0, .bool true, .string ⟨#[66, 66, 66]⟩, .bool true, .int .i64 2, .int .i64 5, .int .i64 0, .int .i64 0, .int .i64 a0, .int .i64 2, .int .i64 5, .int .i64 0, .int .i64 0, .int .i64 a0] 27) := ⟨_, rfl⟩
  rw [← hW]
  rw [hRA.out] at hW
  have B1 : Hid (Bk W (w1.heap.size + 1) (rA X) 27) := Lib.hid (by rw [hW]; have := Bk.new (w1.alloc (.cells #[.int .i64 2, .int .i64 5, .int .i64 0, .int .i64 0, .int .i64 a0] 25)) (rA X) 27 (by decide); rw [World.size_alloc] at this; exact this)
  have U1 : Hid (Up w W) := Lib.hid (by rw [hW]; exact (u1.alloc' _).alloc' _)
  clear hW u1
  refine wp_region_lit ?_
  refine wpList_ld rfl 5 (w1.heap.size + 1) X _ rfl B1.out rfl ?_
  go_wp2_with fail
  refine (PN.out _ (Tabs.up TT.out U1.out)).mono ?_; rintro e w2 ⟨rfl, u1⟩
  have B2 := Lib.hid (B1.out.up u1)
  have U2 := Lib.hid (U1.out.trans u1)
  clear u1 B1 U1 PN
  go_wp2_with fail
  refine (QA.out _).mono ?_; rintro e w3 ⟨rfl, u1⟩
  have z1 := Bk.new w3 (rA ru0) 27 (by decide)
  have ST := st_cells (r := k1) z1
  have b4 := putR_bk (r := k1) z1
  have v1 := u1.trans (putR_up (r := k1) (Up.alloc w3 (.cells (rA ru0) 27)) (Nat.le_refl _))
  rw [ru0_lit] at ST b4 v1
  clear z1
  have b4 := Lib.hid b4
  have v4 := Lib.hid v1
  clear v1 u1
  generalize hP : PutR _ w3.heap.size k1 = w4 at *
  clear hP
  have U4 := Lib.hid (U2.out.trans v4.out)
  have B4 := Lib.hid (B2.out.up v4.out)
  clear U2 v4 B2
  go_wp2_with fail
  clear ST
  refine (QB.out _).mono ?_; rintro e w5 ⟨rfl, u1⟩
  have z1 := Bk.new w5 (rA ru0) 27 (by decide)
  have ST := st_cells (r := k2) z1
  have b6 := putR_bk (r := k2) z1
  have v1 := u1.trans (putR_up (r := k2) (Up.alloc w5 (.cells (rA ru0) 27)) (Nat.le_refl _))
  rw [ru0_lit] at ST b6 v1
  clear z1
  have b6 := Lib.hid b6
  have v6 := Lib.hid v1
  clear v1 u1
  generalize hP : PutR _ w5.heap.size k2 = w6 at *
  clear hP
  have U6 := Lib.hid (U4.out.trans v6.out)
  have B6 := Lib.hid (B4.out.up v6.out)
  have D6 := Lib.hid (b4.out.up v6.out)
  clear v6 U4 B4 b4 b6
  go_upto_region 9 with (fail)
  clear ST
  refine wp_region_lit ?_
  refine wpList_ld rfl 5 (w1.heap.size + 1) X _ rfl B6.out rfl ?_
  refine wpList_step (fun KK hK => ?_)
  go_simp
  refine (R1.out _).mono ?_; rintro e w7 ⟨rfl, u7⟩
  have U7 := Lib.hid (U6.out.trans u7)
  have B7 := Lib.hid (B6.out.up u7)
  have D7 := Lib.hid (D6.out.up u7)
  clear u7 B6 U6 D6
  refine hK _ _ ?_
  clear hK KK
  refine wpList_step (fun KK hK => ?_)
  go_simp
  refine hK _ _ ?_
  clear hK KK
  refine wpList_step (fun KK hK => ?_)
  go_simp
  refine hK _ _ ?_
  clear hK KK
  refine wpList_step (fun KK hK => ?_)
  go_simp
  refine hK _ _ ?_
  clear hK KK
  refine wpList_ldg (by go_simp) 5 (w1.heap.size + 1) X _ rfl B7.out rfl ?_
  go_wp2_with fail
  refine (R2.out _).mono ?_; rintro e w8 ⟨rfl, u8⟩
  have U8 := Lib.hid (U7.out.trans u8)
  have B8 := Lib.hid (B7.out.up u8)
  have D8 := Lib.hid (D7.out.up u8)
  clear u8 B7 U7 D7
  go_wp2_with fail
  go_ret
  exact ⟨rfl, U8.out⟩
set_option maxHeartbeats 16000000 in
set_option maxRecDepth 100000 in
theorem armA2 (a0 : Int) (w0 : (Lit.int .i64 a0).wf = true) (w : World) (T : Tabs w) (c1 : 604799 < a0) :
    Calls Tryd.prog 10 #[.int .i64 a0] w fun e w' => e = .returned (.bool true) ∧ Up w w' := by
  have SH := Lib.hid (fun w T => shown_any w T)
  have TT := Lib.hid T
  clear T
  have PN := Lib.hid (fun w T => print_any (rT a0) true w T (by show (3 : Nat) ≤ maxLen; unfold maxLen; omega) (by show (3 : Nat) ≤ maxLen; unfold maxLen; omega))
  have R1 := Lib.hid (fun w => right_any (rT a0) true w (by show (3 : Nat) ≤ maxLen; unfold maxLen; omega) (by show (3 : Nat) ≤ maxLen; unfold maxLen; omega))
  have R2 := Lib.hid (fun w => right_any (rT a0) false w (by show (3 : Nat) ≤ maxLen; unfold maxLen; omega) (by show (3 : Nat) ≤ maxLen; unfold maxLen; omega))
  have tl : (prT (rT a0) true).length ≤ 100 := by
    unfold prT
    cases h : rightB (rT a0) true
    · simp
    · rw [if_pos rfl]; exact rule_100 h
  have QA := Lib.hid (fun w => parse_any (prT (rT a0) true) true w (by omega))
  have QB := Lib.hid (fun w => parse_any (prT (rT a0) true) false w (by omega))
  have QE : ∀ (r : Ru) w, (binOp .eql 27 (.agg (rA r)) (.agg (rA r))).run Tryd.prog w = .ok (.bool true) w := fun r w => by have := ru_eql r r w; rw [decide_eq_true rfl] at this; exact this
  have rs : ∀ r, (rA r).size = 17 := fun r => rfl
  have X1 := @tNo a0
  have X2 := @tWide a0
  have X3 := @tNar a0
  have X4 := @tNot a0
  clear tl
  have hRA : Hid (#[.int .i64 0, .bool false, .string ⟨#[65, 65, 65]⟩, .int .i64 0, .bool true, .string ⟨#[66, 66, 66]⟩, .bool true, .int .i64 2, .int .i64 5, .int .i64 0, .int .i64 0, .int .i64 a0, .int .i64 2, .int .i64 5, .int .i64 0, .int .i64 0, .int .i64 a0] = rA (rT a0)) := Lib.hid rfl
  generalize rT a0 = X at *
  generalize parR true (prT X true) = k1 at *
  generalize parE true (prT X true) = f1 at *
  generalize parR false (prT X true) = k2 at *
  generalize parE false (prT X true) = g1 at *
  generalize prT X true = t1 at *
  generalize prE X true = e1 at *
  generalize rightB X true = b1 at *
  generalize rightB X false = b2 at *
  have tx0 : tx [] = (⟨#[]⟩ : ByteArray) := rfl
  obtain ⟨rfl, rfl, rfl, rfl⟩ := X1 (.inr c1)
  clear X1 X2 X3 X4
  have p0 : -604799 ≤ a0 := by omega
  have p1 : decide (a0 ≤ 604799) = false := by simp; omega
  have p2 : 0 ≤ a0 := by omega
  have p3 : decide (a0 ≤ 89999) = false := by simp; omega
  clear c1
  go_enter Tryd.func10, Tryd.ntmps10
  go_wp2_with fail
  refine (SH.out _ TT.out).mono ?_; rintro e w1 ⟨rfl, u1⟩
  clear SH
  go_upto_region 6 with (fail)
  obtain ⟨W, hW⟩ : ∃ W, W = (w1.alloc (.cells #[.int .i64 2, .int .i64 5, .int .i64 0, .int .i64 0, .int .i64 a0] 25)).alloc (.cells #[.int .i64 0, .bool false, .string ⟨#[65, 65, 65]⟩, .int .i64 0, .bool true, .string ⟨#[66, 66, 66]⟩, .bool true, .int .i64 2, .int .i64 5, .int .i64 0, .int .i64 0, .int .i64 a0, .int .i64 2, .int .i64 5, .int .i64 0, .int .i64 0, .int .i64 a0] 27) := ⟨_, rfl⟩
  rw [← hW]
  rw [hRA.out] at hW
  have B1 : Hid (Bk W (w1.heap.size + 1) (rA X) 27) := Lib.hid (by rw [hW]; have := Bk.new (w1.alloc (.cells #[.int .i64 2, .int .i64 5, .int .i64 0, .int .i64 0, .int .i64 a0] 25)) (rA X) 27 (by decide); rw [World.size_alloc] at this; exact this)
  have U1 : Hid (Up w W) := Lib.hid (by rw [hW]; exact (u1.alloc' _).alloc' _)
  clear hW u1
  refine wp_region_lit ?_
  refine wpList_ld rfl 5 (w1.heap.size + 1) X _ rfl B1.out rfl ?_
  go_wp2_with fail
  refine (PN.out _ (Tabs.up TT.out U1.out)).mono ?_; rintro e w2 ⟨rfl, u1⟩
  have B2 := Lib.hid (B1.out.up u1)
  have U2 := Lib.hid (U1.out.trans u1)
  clear u1 B1 U1 PN
  go_wp2_with fail
  refine (QA.out _).mono ?_; rintro e w3 ⟨rfl, u1⟩
  have z1 := Bk.new w3 (rA ru0) 27 (by decide)
  have ST := st_cells (r := k1) z1
  have b4 := putR_bk (r := k1) z1
  have v1 := u1.trans (putR_up (r := k1) (Up.alloc w3 (.cells (rA ru0) 27)) (Nat.le_refl _))
  rw [ru0_lit] at ST b4 v1
  clear z1
  have b4 := Lib.hid b4
  have v4 := Lib.hid v1
  clear v1 u1
  generalize hP : PutR _ w3.heap.size k1 = w4 at *
  clear hP
  have U4 := Lib.hid (U2.out.trans v4.out)
  have B4 := Lib.hid (B2.out.up v4.out)
  clear U2 v4 B2
  go_wp2_with fail
  clear ST
  refine (QB.out _).mono ?_; rintro e w5 ⟨rfl, u1⟩
  have z1 := Bk.new w5 (rA ru0) 27 (by decide)
  have ST := st_cells (r := k2) z1
  have b6 := putR_bk (r := k2) z1
  have v1 := u1.trans (putR_up (r := k2) (Up.alloc w5 (.cells (rA ru0) 27)) (Nat.le_refl _))
  rw [ru0_lit] at ST b6 v1
  clear z1
  have b6 := Lib.hid b6
  have v6 := Lib.hid v1
  clear v1 u1
  generalize hP : PutR _ w5.heap.size k2 = w6 at *
  clear hP
  have U6 := Lib.hid (U4.out.trans v6.out)
  have B6 := Lib.hid (B4.out.up v6.out)
  have D6 := Lib.hid (b4.out.up v6.out)
  clear v6 U4 B4 b4 b6
  go_upto_region 9 with (fail)
  clear ST
  refine wp_region_lit ?_
  refine wpList_ld rfl 5 (w1.heap.size + 1) X _ rfl B6.out rfl ?_
  refine wpList_step (fun KK hK => ?_)
  go_simp
  refine (R1.out _).mono ?_; rintro e w7 ⟨rfl, u7⟩
  have U7 := Lib.hid (U6.out.trans u7)
  have B7 := Lib.hid (B6.out.up u7)
  have D7 := Lib.hid (D6.out.up u7)
  clear u7 B6 U6 D6
  refine hK _ _ ?_
  clear hK KK
  refine wpList_step (fun KK hK => ?_)
  go_simp
  refine hK _ _ ?_
  clear hK KK
  refine wpList_step (fun KK hK => ?_)
  go_simp
  refine hK _ _ ?_
  clear hK KK
  refine wpList_step (fun KK hK => ?_)
  go_simp
  refine hK _ _ ?_
  clear hK KK
  refine wpList_ldg (by go_simp) 5 (w1.heap.size + 1) X _ rfl B7.out rfl ?_
  go_wp2_with fail
  refine (R2.out _).mono ?_; rintro e w8 ⟨rfl, u8⟩
  have U8 := Lib.hid (U7.out.trans u8)
  have B8 := Lib.hid (B7.out.up u8)
  have D8 := Lib.hid (D7.out.up u8)
  clear u8 B7 U7 D7
  go_wp2_with fail
  go_ret
  exact ⟨rfl, U8.out⟩
set_option maxHeartbeats 16000000 in
set_option maxRecDepth 100000 in
theorem armB1 (a0 : Int) (w0 : (Lit.int .i64 a0).wf = true) (w : World) (T : Tabs w) (c1 : -604799 ≤ a0 ∧ a0 < 0) :
    Calls Tryd.prog 10 #[.int .i64 a0] w fun e w' => e = .returned (.bool true) ∧ Up w w' := by
  have SH := Lib.hid (fun w T => shown_any w T)
  have TT := Lib.hid T
  clear T
  have PN := Lib.hid (fun w T => print_any (rT a0) true w T (by show (3 : Nat) ≤ maxLen; unfold maxLen; omega) (by show (3 : Nat) ≤ maxLen; unfold maxLen; omega))
  have R1 := Lib.hid (fun w => right_any (rT a0) true w (by show (3 : Nat) ≤ maxLen; unfold maxLen; omega) (by show (3 : Nat) ≤ maxLen; unfold maxLen; omega))
  have R2 := Lib.hid (fun w => right_any (rT a0) false w (by show (3 : Nat) ≤ maxLen; unfold maxLen; omega) (by show (3 : Nat) ≤ maxLen; unfold maxLen; omega))
  have tl : (prT (rT a0) true).length ≤ 100 := by
    unfold prT
    cases h : rightB (rT a0) true
    · simp
    · rw [if_pos rfl]; exact rule_100 h
  have QA := Lib.hid (fun w => parse_any (prT (rT a0) true) true w (by omega))
  have QB := Lib.hid (fun w => parse_any (prT (rT a0) true) false w (by omega))
  have QE : ∀ (r : Ru) w, (binOp .eql 27 (.agg (rA r)) (.agg (rA r))).run Tryd.prog w = .ok (.bool true) w := fun r w => by have := ru_eql r r w; rw [decide_eq_true rfl] at this; exact this
  have rs : ∀ r, (rA r).size = 17 := fun r => rfl
  have X1 := @tNo a0
  have X2 := @tWide a0
  have X3 := @tNar a0
  have X4 := @tNot a0
  clear tl
  have hRA : Hid (#[.int .i64 0, .bool false, .string ⟨#[65, 65, 65]⟩, .int .i64 0, .bool true, .string ⟨#[66, 66, 66]⟩, .bool true, .int .i64 2, .int .i64 5, .int .i64 0, .int .i64 0, .int .i64 a0, .int .i64 2, .int .i64 5, .int .i64 0, .int .i64 0, .int .i64 a0] = rA (rT a0)) := Lib.hid rfl
  generalize rT a0 = X at *
  generalize parR true (prT X true) = k1 at *
  generalize parE true (prT X true) = f1 at *
  generalize parR false (prT X true) = k2 at *
  generalize parE false (prT X true) = g1 at *
  generalize prT X true = t1 at *
  generalize prE X true = e1 at *
  generalize rightB X true = b1 at *
  generalize rightB X false = b2 at *
  obtain ⟨rfl, rfl, rfl, rfl⟩ := X2 (by omega) (by omega)
  obtain ⟨rfl, rfl⟩ := X4 (.inl c1.2) (by omega) (by omega)
  clear X1 X2 X3 X4
  have p0 : -604799 ≤ a0 := by omega
  have p1 : a0 ≤ 604799 := by omega
  have p2 : ¬ 0 ≤ a0 := by omega
  clear c1
  go_enter Tryd.func10, Tryd.ntmps10
  go_wp2_with fail
  refine (SH.out _ TT.out).mono ?_; rintro e w1 ⟨rfl, u1⟩
  clear SH
  go_upto_region 6 with (fail)
  obtain ⟨W, hW⟩ : ∃ W, W = (w1.alloc (.cells #[.int .i64 2, .int .i64 5, .int .i64 0, .int .i64 0, .int .i64 a0] 25)).alloc (.cells #[.int .i64 0, .bool false, .string ⟨#[65, 65, 65]⟩, .int .i64 0, .bool true, .string ⟨#[66, 66, 66]⟩, .bool true, .int .i64 2, .int .i64 5, .int .i64 0, .int .i64 0, .int .i64 a0, .int .i64 2, .int .i64 5, .int .i64 0, .int .i64 0, .int .i64 a0] 27) := ⟨_, rfl⟩
  rw [← hW]
  rw [hRA.out] at hW
  have B1 : Hid (Bk W (w1.heap.size + 1) (rA X) 27) := Lib.hid (by rw [hW]; have := Bk.new (w1.alloc (.cells #[.int .i64 2, .int .i64 5, .int .i64 0, .int .i64 0, .int .i64 a0] 25)) (rA X) 27 (by decide); rw [World.size_alloc] at this; exact this)
  have U1 : Hid (Up w W) := Lib.hid (by rw [hW]; exact (u1.alloc' _).alloc' _)
  clear hW u1
  refine wp_region_lit ?_
  refine wpList_ld rfl 5 (w1.heap.size + 1) X _ rfl B1.out rfl ?_
  go_wp2_with fail
  refine (PN.out _ (Tabs.up TT.out U1.out)).mono ?_; rintro e w2 ⟨rfl, u1⟩
  have B2 := Lib.hid (B1.out.up u1)
  have U2 := Lib.hid (U1.out.trans u1)
  clear u1 B1 U1 PN
  go_wp2_with fail
  refine (QA.out _).mono ?_; rintro e w3 ⟨rfl, u1⟩
  have z1 := Bk.new w3 (rA ru0) 27 (by decide)
  have ST := st_cells (r := X) z1
  have b4 := putR_bk (r := X) z1
  have v1 := u1.trans (putR_up (r := X) (Up.alloc w3 (.cells (rA ru0) 27)) (Nat.le_refl _))
  rw [ru0_lit] at ST b4 v1
  clear z1
  have b4 := Lib.hid b4
  have v4 := Lib.hid v1
  clear v1 u1
  generalize hP : PutR _ w3.heap.size X = w4 at *
  clear hP
  have U4 := Lib.hid (U2.out.trans v4.out)
  have B4 := Lib.hid (B2.out.up v4.out)
  clear U2 v4 B2
  go_wp2_with fail
  clear ST
  refine (QB.out _).mono ?_; rintro e w5 ⟨rfl, u1⟩
  have z1 := Bk.new w5 (rA ru0) 27 (by decide)
  have ST := st_cells (r := k2) z1
  have b6 := putR_bk (r := k2) z1
  have v1 := u1.trans (putR_up (r := k2) (Up.alloc w5 (.cells (rA ru0) 27)) (Nat.le_refl _))
  rw [ru0_lit] at ST b6 v1
  clear z1
  have b6 := Lib.hid b6
  have v6 := Lib.hid v1
  clear v1 u1
  generalize hP : PutR _ w5.heap.size k2 = w6 at *
  clear hP
  have U6 := Lib.hid (U4.out.trans v6.out)
  have B6 := Lib.hid (B4.out.up v6.out)
  have D6 := Lib.hid (b4.out.up v6.out)
  clear v6 U4 B4 b4 b6
  go_upto_region 9 with (fail)
  clear ST
  refine wp_region_lit ?_
  refine wpList_ld rfl 5 (w1.heap.size + 1) X _ rfl B6.out rfl ?_
  refine wpList_step (fun KK hK => ?_)
  go_simp
  refine (R1.out _).mono ?_; rintro e w7 ⟨rfl, u7⟩
  have U7 := Lib.hid (U6.out.trans u7)
  have B7 := Lib.hid (B6.out.up u7)
  have D7 := Lib.hid (D6.out.up u7)
  clear u7 B6 U6 D6
  refine hK _ _ ?_
  clear hK KK
  refine wpList_step (fun KK hK => ?_)
  go_simp
  refine hK _ _ ?_
  clear hK KK
  refine wpList_step (fun KK hK => ?_)
  go_simp
  refine hK _ _ ?_
  clear hK KK
  refine wpList_step (fun KK hK => ?_)
  go_simp
  refine hK _ _ ?_
  clear hK KK
  refine wpList_ldg (by go_simp) 5 (w1.heap.size + 1) X _ rfl B7.out rfl ?_
  go_wp2_with fail
  refine (R2.out _).mono ?_; rintro e w8 ⟨rfl, u8⟩
  have U8 := Lib.hid (U7.out.trans u8)
  have B8 := Lib.hid (B7.out.up u8)
  have D8 := Lib.hid (D7.out.up u8)
  clear u8 B7 U7 D7
  go_upto_region 13 with (fail)
  refine wp_region_lit ?_
  refine wpList_step (fun KK hK => ?_)
  go_simp
  refine hK _ _ ?_
  clear hK KK
  refine wpList_step (fun KK hK => ?_)
  go_simp
  refine hK _ _ ?_
  clear hK KK
  refine wpList_step (fun KK hK => ?_)
  go_simp
  refine hK _ _ ?_
  clear hK KK
  refine wpList_step (fun KK hK => ?_)
  go_simp
  refine hK _ _ ?_
  clear hK KK
  refine wpList_step (fun KK hK => ?_)
  go_simp
  refine hK _ _ ?_
  clear hK KK
  refine wpList_step (fun KK hK => ?_)
  go_simp
  refine hK _ _ ?_
  clear hK KK
  refine wpList_ldg (by go_simp) 10 w3.heap.size X _ rfl D8.out rfl ?_
  refine wpList_ldg (by go_simp) 5 (w1.heap.size + 1) X _ rfl B8.out rfl ?_
  go_wp2_with fail
  go_ret
  exact ⟨rfl, U8.out⟩
set_option maxHeartbeats 16000000 in
set_option maxRecDepth 100000 in
theorem armB2 (a0 : Int) (w0 : (Lit.int .i64 a0).wf = true) (w : World) (T : Tabs w) (c1 : 89999 < a0 ∧ a0 ≤ 604799) :
    Calls Tryd.prog 10 #[.int .i64 a0] w fun e w' => e = .returned (.bool true) ∧ Up w w' := by
  have SH := Lib.hid (fun w T => shown_any w T)
  have TT := Lib.hid T
  clear T
  have PN := Lib.hid (fun w T => print_any (rT a0) true w T (by show (3 : Nat) ≤ maxLen; unfold maxLen; omega) (by show (3 : Nat) ≤ maxLen; unfold maxLen; omega))
  have R1 := Lib.hid (fun w => right_any (rT a0) true w (by show (3 : Nat) ≤ maxLen; unfold maxLen; omega) (by show (3 : Nat) ≤ maxLen; unfold maxLen; omega))
  have R2 := Lib.hid (fun w => right_any (rT a0) false w (by show (3 : Nat) ≤ maxLen; unfold maxLen; omega) (by show (3 : Nat) ≤ maxLen; unfold maxLen; omega))
  have tl : (prT (rT a0) true).length ≤ 100 := by
    unfold prT
    cases h : rightB (rT a0) true
    · simp
    · rw [if_pos rfl]; exact rule_100 h
  have QA := Lib.hid (fun w => parse_any (prT (rT a0) true) true w (by omega))
  have QB := Lib.hid (fun w => parse_any (prT (rT a0) true) false w (by omega))
  have QE : ∀ (r : Ru) w, (binOp .eql 27 (.agg (rA r)) (.agg (rA r))).run Tryd.prog w = .ok (.bool true) w := fun r w => by have := ru_eql r r w; rw [decide_eq_true rfl] at this; exact this
  have rs : ∀ r, (rA r).size = 17 := fun r => rfl
  have X1 := @tNo a0
  have X2 := @tWide a0
  have X3 := @tNar a0
  have X4 := @tNot a0
  clear tl
  have hRA : Hid (#[.int .i64 0, .bool false, .string ⟨#[65, 65, 65]⟩, .int .i64 0, .bool true, .string ⟨#[66, 66, 66]⟩, .bool true, .int .i64 2, .int .i64 5, .int .i64 0, .int .i64 0, .int .i64 a0, .int .i64 2, .int .i64 5, .int .i64 0, .int .i64 0, .int .i64 a0] = rA (rT a0)) := Lib.hid rfl
  generalize rT a0 = X at *
  generalize parR true (prT X true) = k1 at *
  generalize parE true (prT X true) = f1 at *
  generalize parR false (prT X true) = k2 at *
  generalize parE false (prT X true) = g1 at *
  generalize prT X true = t1 at *
  generalize prE X true = e1 at *
  generalize rightB X true = b1 at *
  generalize rightB X false = b2 at *
  obtain ⟨rfl, rfl, rfl, rfl⟩ := X2 (by omega) (by omega)
  obtain ⟨rfl, rfl⟩ := X4 (.inr c1.1) (by omega) (by omega)
  clear X1 X2 X3 X4
  have p0 : -604799 ≤ a0 := by omega
  have p1 : a0 ≤ 604799 := by omega
  have p2 : 0 ≤ a0 := by omega
  have p3 : decide (a0 ≤ 89999) = false := by simp; omega
  clear c1
  go_enter Tryd.func10, Tryd.ntmps10
  go_wp2_with fail
  refine (SH.out _ TT.out).mono ?_; rintro e w1 ⟨rfl, u1⟩
  clear SH
  go_upto_region 6 with (fail)
  obtain ⟨W, hW⟩ : ∃ W, W = (w1.alloc (.cells #[.int .i64 2, .int .i64 5, .int .i64 0, .int .i64 0, .int .i64 a0] 25)).alloc (.cells #[.int .i64 0, .bool false, .string ⟨#[65, 65, 65]⟩, .int .i64 0, .bool true, .string ⟨#[66, 66, 66]⟩, .bool true, .int .i64 2, .int .i64 5, .int .i64 0, .int .i64 0, .int .i64 a0, .int .i64 2, .int .i64 5, .int .i64 0, .int .i64 0, .int .i64 a0] 27) := ⟨_, rfl⟩
  rw [← hW]
  rw [hRA.out] at hW
  have B1 : Hid (Bk W (w1.heap.size + 1) (rA X) 27) := Lib.hid (by rw [hW]; have := Bk.new (w1.alloc (.cells #[.int .i64 2, .int .i64 5, .int .i64 0, .int .i64 0, .int .i64 a0] 25)) (rA X) 27 (by decide); rw [World.size_alloc] at this; exact this)
  have U1 : Hid (Up w W) := Lib.hid (by rw [hW]; exact (u1.alloc' _).alloc' _)
  clear hW u1
  refine wp_region_lit ?_
  refine wpList_ld rfl 5 (w1.heap.size + 1) X _ rfl B1.out rfl ?_
  go_wp2_with fail
  refine (PN.out _ (Tabs.up TT.out U1.out)).mono ?_; rintro e w2 ⟨rfl, u1⟩
  have B2 := Lib.hid (B1.out.up u1)
  have U2 := Lib.hid (U1.out.trans u1)
  clear u1 B1 U1 PN
  go_wp2_with fail
  refine (QA.out _).mono ?_; rintro e w3 ⟨rfl, u1⟩
  have z1 := Bk.new w3 (rA ru0) 27 (by decide)
  have ST := st_cells (r := X) z1
  have b4 := putR_bk (r := X) z1
  have v1 := u1.trans (putR_up (r := X) (Up.alloc w3 (.cells (rA ru0) 27)) (Nat.le_refl _))
  rw [ru0_lit] at ST b4 v1
  clear z1
  have b4 := Lib.hid b4
  have v4 := Lib.hid v1
  clear v1 u1
  generalize hP : PutR _ w3.heap.size X = w4 at *
  clear hP
  have U4 := Lib.hid (U2.out.trans v4.out)
  have B4 := Lib.hid (B2.out.up v4.out)
  clear U2 v4 B2
  go_wp2_with fail
  clear ST
  refine (QB.out _).mono ?_; rintro e w5 ⟨rfl, u1⟩
  have z1 := Bk.new w5 (rA ru0) 27 (by decide)
  have ST := st_cells (r := k2) z1
  have b6 := putR_bk (r := k2) z1
  have v1 := u1.trans (putR_up (r := k2) (Up.alloc w5 (.cells (rA ru0) 27)) (Nat.le_refl _))
  rw [ru0_lit] at ST b6 v1
  clear z1
  have b6 := Lib.hid b6
  have v6 := Lib.hid v1
  clear v1 u1
  generalize hP : PutR _ w5.heap.size k2 = w6 at *
  clear hP
  have U6 := Lib.hid (U4.out.trans v6.out)
  have B6 := Lib.hid (B4.out.up v6.out)
  have D6 := Lib.hid (b4.out.up v6.out)
  clear v6 U4 B4 b4 b6
  go_upto_region 9 with (fail)
  clear ST
  refine wp_region_lit ?_
  refine wpList_ld rfl 5 (w1.heap.size + 1) X _ rfl B6.out rfl ?_
  refine wpList_step (fun KK hK => ?_)
  go_simp
  refine (R1.out _).mono ?_; rintro e w7 ⟨rfl, u7⟩
  have U7 := Lib.hid (U6.out.trans u7)
  have B7 := Lib.hid (B6.out.up u7)
  have D7 := Lib.hid (D6.out.up u7)
  clear u7 B6 U6 D6
  refine hK _ _ ?_
  clear hK KK
  refine wpList_step (fun KK hK => ?_)
  go_simp
  refine hK _ _ ?_
  clear hK KK
  refine wpList_step (fun KK hK => ?_)
  go_simp
  refine hK _ _ ?_
  clear hK KK
  refine wpList_step (fun KK hK => ?_)
  go_simp
  refine hK _ _ ?_
  clear hK KK
  refine wpList_ldg (by go_simp) 5 (w1.heap.size + 1) X _ rfl B7.out rfl ?_
  go_wp2_with fail
  refine (R2.out _).mono ?_; rintro e w8 ⟨rfl, u8⟩
  have U8 := Lib.hid (U7.out.trans u8)
  have B8 := Lib.hid (B7.out.up u8)
  have D8 := Lib.hid (D7.out.up u8)
  clear u8 B7 U7 D7
  go_upto_region 13 with (fail)
  refine wp_region_lit ?_
  refine wpList_step (fun KK hK => ?_)
  go_simp
  refine hK _ _ ?_
  clear hK KK
  refine wpList_step (fun KK hK => ?_)
  go_simp
  refine hK _ _ ?_
  clear hK KK
  refine wpList_step (fun KK hK => ?_)
  go_simp
  refine hK _ _ ?_
  clear hK KK
  refine wpList_step (fun KK hK => ?_)
  go_simp
  refine hK _ _ ?_
  clear hK KK
  refine wpList_step (fun KK hK => ?_)
  go_simp
  refine hK _ _ ?_
  clear hK KK
  refine wpList_step (fun KK hK => ?_)
  go_simp
  refine hK _ _ ?_
  clear hK KK
  refine wpList_ldg (by go_simp) 10 w3.heap.size X _ rfl D8.out rfl ?_
  refine wpList_ldg (by go_simp) 5 (w1.heap.size + 1) X _ rfl B8.out rfl ?_
  go_wp2_with fail
  go_ret
  exact ⟨rfl, U8.out⟩
set_option maxHeartbeats 16000000 in
set_option maxRecDepth 100000 in
theorem armC (a0 : Int) (w0 : (Lit.int .i64 a0).wf = true) (w : World) (T : Tabs w) (c1 : 0 ≤ a0 ∧ a0 ≤ 89999) :
    Calls Tryd.prog 10 #[.int .i64 a0] w fun e w' => e = .returned (.bool true) ∧ Up w w' := by
  have SH := Lib.hid (fun w T => shown_any w T)
  have TT := Lib.hid T
  clear T
  have PN := Lib.hid (fun w T => print_any (rT a0) true w T (by show (3 : Nat) ≤ maxLen; unfold maxLen; omega) (by show (3 : Nat) ≤ maxLen; unfold maxLen; omega))
  have R1 := Lib.hid (fun w => right_any (rT a0) true w (by show (3 : Nat) ≤ maxLen; unfold maxLen; omega) (by show (3 : Nat) ≤ maxLen; unfold maxLen; omega))
  have R2 := Lib.hid (fun w => right_any (rT a0) false w (by show (3 : Nat) ≤ maxLen; unfold maxLen; omega) (by show (3 : Nat) ≤ maxLen; unfold maxLen; omega))
  have tl : (prT (rT a0) true).length ≤ 100 := by
    unfold prT
    cases h : rightB (rT a0) true
    · simp
    · rw [if_pos rfl]; exact rule_100 h
  have QA := Lib.hid (fun w => parse_any (prT (rT a0) true) true w (by omega))
  have QB := Lib.hid (fun w => parse_any (prT (rT a0) true) false w (by omega))
  have QE : ∀ (r : Ru) w, (binOp .eql 27 (.agg (rA r)) (.agg (rA r))).run Tryd.prog w = .ok (.bool true) w := fun r w => by have := ru_eql r r w; rw [decide_eq_true rfl] at this; exact this
  have rs : ∀ r, (rA r).size = 17 := fun r => rfl
  have X1 := @tNo a0
  have X2 := @tWide a0
  have X3 := @tNar a0
  have X4 := @tNot a0
  clear tl
  have hRA : Hid (#[.int .i64 0, .bool false, .string ⟨#[65, 65, 65]⟩, .int .i64 0, .bool true, .string ⟨#[66, 66, 66]⟩, .bool true, .int .i64 2, .int .i64 5, .int .i64 0, .int .i64 0, .int .i64 a0, .int .i64 2, .int .i64 5, .int .i64 0, .int .i64 0, .int .i64 a0] = rA (rT a0)) := Lib.hid rfl
  generalize rT a0 = X at *
  generalize parR true (prT X true) = k1 at *
  generalize parE true (prT X true) = f1 at *
  generalize parR false (prT X true) = k2 at *
  generalize parE false (prT X true) = g1 at *
  generalize prT X true = t1 at *
  generalize prE X true = e1 at *
  generalize rightB X true = b1 at *
  generalize rightB X false = b2 at *
  obtain ⟨rfl, rfl, rfl, rfl⟩ := X2 (by omega) (by omega)
  obtain ⟨rfl, rfl⟩ := X3 (by omega) (by omega)
  clear X1 X2 X3 X4
  have p0 : -604799 ≤ a0 := by omega
  have p1 : a0 ≤ 604799 := by omega
  have p2 : 0 ≤ a0 := by omega
  have p3 : a0 ≤ 89999 := by omega
  clear c1
  go_enter Tryd.func10, Tryd.ntmps10
  go_wp2_with fail
  refine (SH.out _ TT.out).mono ?_; rintro e w1 ⟨rfl, u1⟩
  clear SH
  go_upto_region 6 with (fail)
  obtain ⟨W, hW⟩ : ∃ W, W = (w1.alloc (.cells #[.int .i64 2, .int .i64 5, .int .i64 0, .int .i64 0, .int .i64 a0] 25)).alloc (.cells #[.int .i64 0, .bool false, .string ⟨#[65, 65, 65]⟩, .int .i64 0, .bool true, .string ⟨#[66, 66, 66]⟩, .bool true, .int .i64 2, .int .i64 5, .int .i64 0, .int .i64 0, .int .i64 a0, .int .i64 2, .int .i64 5, .int .i64 0, .int .i64 0, .int .i64 a0] 27) := ⟨_, rfl⟩
  rw [← hW]
  rw [hRA.out] at hW
  have B1 : Hid (Bk W (w1.heap.size + 1) (rA X) 27) := Lib.hid (by rw [hW]; have := Bk.new (w1.alloc (.cells #[.int .i64 2, .int .i64 5, .int .i64 0, .int .i64 0, .int .i64 a0] 25)) (rA X) 27 (by decide); rw [World.size_alloc] at this; exact this)
  have U1 : Hid (Up w W) := Lib.hid (by rw [hW]; exact (u1.alloc' _).alloc' _)
  clear hW u1
  refine wp_region_lit ?_
  refine wpList_ld rfl 5 (w1.heap.size + 1) X _ rfl B1.out rfl ?_
  go_wp2_with fail
  refine (PN.out _ (Tabs.up TT.out U1.out)).mono ?_; rintro e w2 ⟨rfl, u1⟩
  have B2 := Lib.hid (B1.out.up u1)
  have U2 := Lib.hid (U1.out.trans u1)
  clear u1 B1 U1 PN
  go_wp2_with fail
  refine (QA.out _).mono ?_; rintro e w3 ⟨rfl, u1⟩
  have z1 := Bk.new w3 (rA ru0) 27 (by decide)
  have ST := st_cells (r := X) z1
  have b4 := putR_bk (r := X) z1
  have v1 := u1.trans (putR_up (r := X) (Up.alloc w3 (.cells (rA ru0) 27)) (Nat.le_refl _))
  rw [ru0_lit] at ST b4 v1
  clear z1
  have b4 := Lib.hid b4
  have v4 := Lib.hid v1
  clear v1 u1
  generalize hP : PutR _ w3.heap.size X = w4 at *
  clear hP
  have U4 := Lib.hid (U2.out.trans v4.out)
  have B4 := Lib.hid (B2.out.up v4.out)
  clear U2 v4 B2
  go_wp2_with fail
  clear ST
  refine (QB.out _).mono ?_; rintro e w5 ⟨rfl, u1⟩
  have z1 := Bk.new w5 (rA ru0) 27 (by decide)
  have ST := st_cells (r := k2) z1
  have b6 := putR_bk (r := k2) z1
  have v1 := u1.trans (putR_up (r := k2) (Up.alloc w5 (.cells (rA ru0) 27)) (Nat.le_refl _))
  rw [ru0_lit] at ST b6 v1
  clear z1
  have b6 := Lib.hid b6
  have v6 := Lib.hid v1
  clear v1 u1
  generalize hP : PutR _ w5.heap.size k2 = w6 at *
  clear hP
  have U6 := Lib.hid (U4.out.trans v6.out)
  have B6 := Lib.hid (B4.out.up v6.out)
  have D6 := Lib.hid (b4.out.up v6.out)
  clear v6 U4 B4 b4 b6
  go_upto_region 9 with (fail)
  clear ST
  refine wp_region_lit ?_
  refine wpList_ld rfl 5 (w1.heap.size + 1) X _ rfl B6.out rfl ?_
  refine wpList_step (fun KK hK => ?_)
  go_simp
  refine (R1.out _).mono ?_; rintro e w7 ⟨rfl, u7⟩
  have U7 := Lib.hid (U6.out.trans u7)
  have B7 := Lib.hid (B6.out.up u7)
  have D7 := Lib.hid (D6.out.up u7)
  clear u7 B6 U6 D6
  refine hK _ _ ?_
  clear hK KK
  refine wpList_step (fun KK hK => ?_)
  go_simp
  refine hK _ _ ?_
  clear hK KK
  refine wpList_step (fun KK hK => ?_)
  go_simp
  refine hK _ _ ?_
  clear hK KK
  refine wpList_step (fun KK hK => ?_)
  go_simp
  refine hK _ _ ?_
  clear hK KK
  refine wpList_ldg (by go_simp) 5 (w1.heap.size + 1) X _ rfl B7.out rfl ?_
  go_wp2_with fail
  refine (R2.out _).mono ?_; rintro e w8 ⟨rfl, u8⟩
  have U8 := Lib.hid (U7.out.trans u8)
  have B8 := Lib.hid (B7.out.up u8)
  have D8 := Lib.hid (D7.out.up u8)
  clear u8 B7 U7 D7
  go_upto_region 13 with (fail)
  refine wp_region_lit ?_
  refine wpList_step (fun KK hK => ?_)
  go_simp
  refine hK _ _ ?_
  clear hK KK
  refine wpList_step (fun KK hK => ?_)
  go_simp
  refine hK _ _ ?_
  clear hK KK
  refine wpList_step (fun KK hK => ?_)
  go_simp
  refine hK _ _ ?_
  clear hK KK
  refine wpList_step (fun KK hK => ?_)
  go_simp
  refine hK _ _ ?_
  clear hK KK
  refine wpList_step (fun KK hK => ?_)
  go_simp
  refine hK _ _ ?_
  clear hK KK
  refine wpList_step (fun KK hK => ?_)
  go_simp
  refine hK _ _ ?_
  clear hK KK
  refine wpList_ldg (by go_simp) 10 w3.heap.size X _ rfl D8.out rfl ?_
  refine wpList_ldg (by go_simp) 5 (w1.heap.size + 1) X _ rfl B8.out rfl ?_
  go_wp2_with fail
  go_ret
  exact ⟨rfl, U8.out⟩

theorem walk (a0 : Int) (w0 : (Lit.int .i64 a0).wf = true) (w : World) (T : Tabs w) :
    Calls Tryd.prog 10 #[.int .i64 a0] w fun e w' => e = .returned (.bool true) ∧ Up w w' := by

  by_cases c1 : a0 < -604799
  · exact armA1 a0 w0 w T c1
  by_cases c2 : 604799 < a0
  · exact armA2 a0 w0 w T c2
  by_cases c3 : a0 < 0
  · exact armB1 a0 w0 w T ⟨by omega, c3⟩
  by_cases c4 : 89999 < a0
  · exact armB2 a0 w0 w T ⟨c4, by omega⟩
  exact armC a0 w0 w T ⟨by omega, by omega⟩

theorem readable : ∀ t ∈ Tryd.f10.params.toList, Tryd.prog.readableRec t = true ∧ t < Tryd.prog.types.size := by
  rw [Tryd.params10]
  intro t ht
  have hall : ([3].all fun u => Tryd.prog.readableRec u && decide (u < Tryd.prog.types.size)) = true := by kernel_rfl
  have := List.all_eq_true.1 hall t (by simpa using ht)
  simpa using this

set_option maxRecDepth 100000 in
theorem lifted (os : Os) (started : os.Started) (H : Type) (enc : TypeId × Value → H) :
    ReturnsInHanded {} Tryd.checked os 10 .any (fun w args => (Rows.posixTimesSpec.pre enc Tryd.prog Tryd.f10 [] false w args ∧ laidMetH Tryd.prog laidE w) ∧ sizedMet enc Tryd.prog Tryd.f10 (OpenSpec.ofChange Rows.posixTimesSpec) false w args) (Rows.posixTimesSpec.post enc Tryd.prog Tryd.f10 false true false false) := by
  refine returnsInHanded_of_change_and (C := Tryd.checked) (X := fun w _ => laidMetH Tryd.prog laidE w) (fun _ _ _ hh h => h.of_heap hh) own started (by kernel_rfl) Tryd.func10
    (ChangeSpec.witness_shaped (enc := enc) (C := Tryd.checked) (os := os) (X := fun w _ => laidMetH Tryd.prog laidE w) false (World.doorLaid Tryd.prog 400 os) #[.int .i64 0] 8 rfl (World.shaped_of_RefB (by kernel_rfl) (by kernel_rfl)) (by kernel_rfl) (by kernel_rfl) (by kernel_rfl) (door_metE os _)) ?_
  intro W base args ds gs before hval0 hW _ _ hL _
  have hval : ∀ (j : Nat) t v, Tryd.f10.params[j]? = some t → args[j]? = some v → Value.okWide Tryd.prog W .any base t v := hval0
  have hW' := hW
  obtain ⟨p, q, hA0, hV, rfl, hfz, hnd⟩ := hW
  have hA : DataW.TrodAll enc Tryd.prog W 0 (fun _ => true) true Tryd.f10.params.toList args.toList ds p := hA0
  rw [Tryd.params10] at hA hval
  obtain ⟨v0, vs0, d0, ds0, p0, q0, hargs, rfl, rfl, h0, r0⟩ := trodAll_cons hA
  obtain ⟨rfl, rfl, rfl⟩ := trodAll_nil r0
  obtain rfl : args = #[v0] := by cases args; simp_all
  obtain ⟨rfl, rfl⟩ := trodVars_none hV
  obtain ⟨a0, rfl, rfl, rfl, w0⟩ := open_int Tryd.underlying3 (hval 0 3 v0 rfl rfl) h0
  clear hA0 hval0
  refine (walk a0 w0 W (tabs_of_laid hL)).mono fun e W' ⟨he, hg⟩ => ?_
  subst he
  exact ⟨_, rfl, post_up laidOut readable rfl hW' (fun _ _ _ => (trodAll_cons_mk (shut_bool Tryd.underlying4 _) trodAll_mk0)) rfl rfl
    hg (ok_one (by kernel_rfl) rfl (okWide_bool_mk Tryd.underlying4 _))⟩

theorem over : Rows.posixTimesRow.holds Tryd.pinned (OpenSpec.ofChange Rows.posixTimesSpec) :=
  OpenClaim.holds_of_wide 10 Tryd.f10 rfl rfl rfl rfl rfl rfl rfl ⟨rfl, rfl, rfl, rfl, rfl⟩ rfl rfl rfl rfl rfl (by kernel_rfl) Tryd.func10 (by kernel_rfl)
    (of_decide_eq_true (by kernel_rfl)) (by unfold Func.isWrapper; first | (rw [if_pos (by decide +kernel)]; kernel_rfl) | (rw [if_neg (by decide +kernel)]; exact ⟨rfl, rfl⟩))
    (fun os started H enc _ => lifted os started H enc)

set_option maxRecDepth 100000 in
theorem proved : Rows.PosixTimesCardSaid :=
  Claim7.holds_tied_plain_at .later [] [.data, .data, .data] true _ true
    over (fun _ h => by cases h) (by kernel_rfl) (fun _ h => by cases h) posixTimes_row_tie rfl ⟨rfl, rfl⟩ (by kernel_rfl) rfl
    (fun f fn hf hfn => by
      obtain rfl : f = 10 := Option.some.inj ((show Tryd.prog.funcNamed "longcase/longcaselaw08.PosixTimes" = some 10 by kernel_rfl).symm.trans hf) |>.symm
      obtain rfl : fn = Tryd.f10 := (Option.some.inj (Tryd.func10.symm.trans hfn)).symm
      exact ⟨by kernel_rfl, fun j t ht => by
        rw [Tryd.params10] at ht
        have hm : t ∈ [3] := by simpa using Array.mem_of_getElem? ht
        have hall : ([3].all fun u => !Tryd.prog.wantsStandIn u) = true := by kernel_rfl
        exact (show Tryd.prog.wantsStandIn t = false by simpa using List.all_eq_true.1 hall t hm)⟩)
    (by kernel_rfl)
end Go.Proofs.YtalpbbgkallohaaDoor.posixTimes
