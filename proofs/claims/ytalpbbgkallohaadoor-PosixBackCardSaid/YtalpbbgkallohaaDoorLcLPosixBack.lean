/-
  PosixBack is proved: for every rule, text and form the statement answers true: what was told is read as it was and has at most a hundred bytes; a text that is read is told as one that is read as the same. Conditions: the tied card's own (the listed variables as the text of the program lays them).
-/
import Derived.Test.YtalpbbgkallohaaDoorLcSh8
import Derived.Test.YtalpbbgkallohaaDoorLcPs8
import Derived.Test.YtalpbbgkallohaaDoorLcOpR
import Derived.Test.YtalpbbgkallohaaDoorLcLd8
import Derived.Test.YtalpbbgkallohaaDoorTie
import Derived.Test.YtalpbbgkallohaaDoorCards
import Derived.WalkKit
import Derived.ProofKit
import Derived.OpenShut
import Derived.LaidMore
import Derived.Stop.Joined
import Derived.SevenTiedAt
namespace Go.Proofs.YtalpbbgkallohaaDoor.posixBack
open Go.ChangeShapes Go.WideShapes Go.ChangeAt Go.RowKit Lc
set_option linter.unusedVariables false

theorem own : ownKnob Tryd.prog.godebug = none := by kernel_rfl

theorem pBack (r : Ru) (wide : Bool) : (prE r wide = 0 ∧ parE wide (prT r wide) = 0 ∧ r = parR wide (prT r wide) ∧ (prT r wide).length ≤ 100) ∨ prE r wide = 1 := by
  cases h : rightB r wide
  · right; unfold prE; rw [h]; rfl
  · left
    have e1 : prE r wide = 0 := by unfold prE; rw [h]; rfl
    have e2 : prT r wide = ruleT r := by unfold prT; rw [h]; rfl
    have e3 : wholeP wide (ruleT r) = some r := whole_told h
    rw [e1, e2]
    refine ⟨rfl, ?_, ?_, rule_100 h⟩
    · unfold parE; rw [e3]; rfl
    · unfold parR; rw [e3]; rfl
/-- What is read is told, and read again as the same. -/
theorem qBack (l : List UInt8) (wide : Bool) : (parE wide l = 0 ∧ prE (parR wide l) wide = 0 ∧ parE wide (prT (parR wide l) wide) = 0 ∧ parR wide l = parR wide (prT (parR wide l) wide) ∧ (prT (parR wide l) wide).length ≤ 100 ∧ (parR wide l).std.name.length ≤ 20 ∧ (parR wide l).dst.name.length ≤ 20) ∨ (parE wide l = 4 ∧ ru0 = parR wide l) := by
  cases h : wholeP wide l with
  | none => exact .inr ⟨by unfold parE; rw [h]; rfl, by unfold parR; rw [h]; rfl⟩
  | some r =>
    have hr := whole_right h
    have nm : r.std.name.length ≤ 20 ∧ r.dst.name.length ≤ 20 := by
      unfold rightB at hr
      rw [Bool.and_eq_true] at hr
      refine ⟨(nameB_parts (kindB_parts hr.1).2.1).2.1, ?_⟩
      have h2 := hr.2
      cases hb : r.both
      · rw [hb] at h2
        simp only [Bool.false_eq_true, if_false, Bool.and_eq_true, beq_iff_eq] at h2
        rw [h2.1.1]; decide
      · rw [hb] at h2
        simp only [if_true, Bool.and_eq_true] at h2
        exact (nameB_parts (kindB_parts h2.1.1).2.1).2.1
    have p1 : parE wide l = 0 := by unfold parE; rw [h]; rfl
    have p2 : parR wide l = r := by unfold parR; rw [h]; rfl
    rw [p1, p2]
    rcases pBack r wide with ⟨a, b, c, d⟩ | e
    · exact .inl ⟨rfl, a, b, c, d, nm⟩
    · unfold prE at e; rw [hr] at e; cases e

set_option maxHeartbeats 8000000 in
set_option maxRecDepth 100000 in
theorem walk (x0 : Ru) (l1 : List UInt8) (a2 : Bool) (fo0 : fitB x0.std.off = true) (fd0 : fitB x0.dst.off = true) (ns0 : x0.std.name.length ≤ maxLen) (nd0 : x0.dst.name.length ≤ maxLen) (ft0 : fitB x0.st.tm = true) (fe0 : fitB x0.en.tm = true) (s1 : l1.length ≤ maxLen)  (w : World) (T : Tabs w) :
    Calls Tryd.prog 5 #[.agg (rA x0), .string (tx l1), .bool a2] w fun e w' => e = .returned (.bool true) ∧ Up w w' := by
  have SH := Lib.hid (fun w T => shown_any w T)
  have B0 := Lib.hid (Bk.new w (rA x0) 27 (by decide))
  have U0 := Lib.hid (Up.alloc w (.cells (rA x0) 27))
  have TT := Lib.hid T
  clear T
  have PN := Lib.hid (fun w T => print_any x0 a2 w T ns0 nd0)
  have HC := pBack x0 a2
  have sz := tx_size l1
  unfold maxLen at *
  obtain ⟨p, hp⟩ : ∃ p : Nat, min (l1.length : Int) 200 = (p : Int) := ⟨min l1.length 200, by omega⟩
  have hp2 : p ≤ 200 := by omega
  have hp3 : (p : Int) ≤ (l1.length : Int) := by omega
  have ex := tx_take l1 p
  have kl : (l1.take p).length ≤ 100000 := by rw [List.length_take]; omega
  generalize l1.take p = k1 at *
  have QN := Lib.hid (fun w => parse_any k1 a2 w kl)
  have HD := qBack k1 a2
  have QX := Lib.hid (fun (h : (prT x0 a2).length ≤ 100) w => parse_any (prT x0 a2) a2 w (by omega))
  have PY := Lib.hid (fun (h : (parR a2 k1).std.name.length ≤ 20 ∧ (parR a2 k1).dst.name.length ≤ 20) w T => print_any (parR a2 k1) a2 w T (by unfold maxLen; omega) (by unfold maxLen; omega))
  have QY := Lib.hid (fun (h : (prT (parR a2 k1) a2).length ≤ 100) w => parse_any (prT (parR a2 k1) a2) a2 w (by omega))
  have QE : ∀ (r : Ru) w, (binOp .eql 27 (.agg (rA r)) (.agg (rA r))).run Tryd.prog w = .ok (.bool true) w := fun r w => by have := ru_eql r r w; rw [decide_eq_true rfl] at this; exact this
  have QF : ∀ (r : Ru) w, (binOp .neq 27 (.agg (rA r)) (.agg (rA r))).run Tryd.prog w = .ok (.bool false) w := fun r w => by have := ru_neq r r w; rw [decide_eq_true rfl] at this; exact this
  have rs : ∀ r, (rA r).size = 17 := fun r => rfl
  have sz1 := tx_size (prT x0 a2)
  generalize parR a2 (prT x0 a2) = r1 at *
  generalize parE a2 (prT x0 a2) = f1 at *
  generalize prT x0 a2 = t1 at *
  generalize prE x0 a2 = e1 at *
  generalize parR a2 k1 = r2 at *
  generalize parE a2 k1 = g2 at *
  generalize parR a2 (prT r2 a2) = r3 at *
  generalize parE a2 (prT r2 a2) = g3 at *
  generalize prT r2 a2 = t3 at *
  generalize prE r2 a2 = e3 at *
  rcases HC with ⟨rfl, rfl, rfl, hl1⟩ | rfl
  · rcases HD with ⟨rfl, rfl, rfl, rfl, hl3, hn⟩ | ⟨rfl, hz⟩
    · go_enter Tryd.func5, Tryd.ntmps5
      go_wp2_with fail
      refine (SH.out _ (Tabs.up TT.out U0.out)).mono ?_; rintro e w1 ⟨rfl, u1⟩
      have B1 := Lib.hid (B0.out.up u1)
      have U1 := Lib.hid (U0.out.trans u1)
      clear u1 B0 U0 SH
      go_upto_region 3 with (fail)
      refine wp_region_lit ?_
      refine wpList_ld rfl 3 w.heap.size x0 _ rfl B1.out rfl ?_
      go_wp2_with fail
      refine (PN.out _ (Tabs.up TT.out U1.out)).mono ?_; rintro e w2 ⟨rfl, u1⟩
      have B2 := Lib.hid (B1.out.up u1)
      have U2 := Lib.hid (U1.out.trans u1)
      clear u1 B1 U1 PN
      go_wp2_with fail
      refine ((QX.out hl1) _).mono ?_; rintro e w3 ⟨rfl, u1⟩
      have z1 := Bk.new w3 (rA ru0) 27 (by decide)
      have ST := st_cells (r := x0) z1
      have b4 := putR_bk (r := x0) z1
      have v1 := u1.trans (putR_up (r := x0) (Up.alloc w3 (.cells (rA ru0) 27)) (Nat.le_refl _))
      rw [ru0_lit] at ST b4 v1
      clear z1
      have b4 := Lib.hid b4
      have v4 := Lib.hid v1
      clear v1 u1
      generalize hP : PutR _ w3.heap.size x0 = w4 at *
      clear hP
      have U4 := Lib.hid (U2.out.trans v4.out)
      have B4 := Lib.hid (B2.out.up v4.out)
      clear U2 v4 B2
      go_upto_region 6 with (fail)
      clear ST
      refine wp_region_lit ?_
      refine wpList_step (fun K hK => ?_)
      go_simp
      refine hK _ _ ?_
      clear hK K
      refine wpList_step (fun K hK => ?_)
      go_simp
      refine hK _ _ ?_
      clear hK K
      refine wpList_step (fun K hK => ?_)
      go_simp
      refine hK _ _ ?_
      clear hK K
      refine wpList_ldg (by go_simp) 10 w3.heap.size x0 _ rfl b4.out rfl ?_
      refine wpList_ldg (by go_simp) 3 w.heap.size x0 _ rfl B4.out rfl ?_
      go_wp2_with fail
      clear B4 b4 QX
      refine (QN.out _).mono ?_; rintro e w5 ⟨rfl, u1⟩
      have z1 := Bk.new w5 (rA ru0) 27 (by decide)
      have ST := st_cells (r := r2) z1
      have b6 := putR_bk (r := r2) z1
      have v1 := u1.trans (putR_up (r := r2) (Up.alloc w5 (.cells (rA ru0) 27)) (Nat.le_refl _))
      rw [ru0_lit] at ST b6 v1
      clear z1
      have b6 := Lib.hid b6
      have v6 := Lib.hid v1
      clear v1 u1
      generalize hP : PutR _ w5.heap.size r2 = w6 at *
      clear hP
      have U6 := Lib.hid (U4.out.trans v6.out)
      clear v6
      go_upto_region 11 with (fail)
      clear ST
      refine wp_region_lit ?_
      refine wpList_ld rfl 12 w5.heap.size r2 _ rfl b6.out rfl ?_
      go_wp2_with fail
      refine (PY.out hn _ (Tabs.up TT.out U6.out)).mono ?_; rintro e w7 ⟨rfl, u1⟩
      have b7 := Lib.hid (b6.out.up u1)
      have U7 := Lib.hid (U6.out.trans u1)
      clear u1 b6 U6 PY
      go_wp2_with fail
      refine ((QY.out hl3) _).mono ?_; rintro e w8 ⟨rfl, u1⟩
      have z1 := Bk.new w8 (rA ru0) 27 (by decide)
      have ST := st_cells (r := r2) z1
      have b9 := putR_bk (r := r2) z1
      have v1 := u1.trans (putR_up (r := r2) (Up.alloc w8 (.cells (rA ru0) 27)) (Nat.le_refl _))
      rw [ru0_lit] at ST b9 v1
      clear z1
      have b9 := Lib.hid b9
      have v9 := Lib.hid v1
      clear v1 u1
      generalize hP : PutR _ w8.heap.size r2 = w9 at *
      clear hP
      have U9 := Lib.hid (U7.out.trans v9.out)
      have B9 := Lib.hid (b7.out.up v9.out)
      clear v9 U7 b7
      go_upto_region 13 with (fail)
      clear ST
      refine wp_region_lit ?_
      refine wpList_step (fun K hK => ?_)
      go_simp
      refine hK _ _ ?_
      clear hK K
      refine wpList_step (fun K hK => ?_)
      go_simp
      refine hK _ _ ?_
      clear hK K
      refine wpList_step (fun K hK => ?_)
      go_simp
      refine hK _ _ ?_
      clear hK K
      refine wpList_step (fun K hK => ?_)
      go_simp
      refine hK _ _ ?_
      clear hK K
      refine wpList_step (fun K hK => ?_)
      go_simp
      refine hK _ _ ?_
      clear hK K
      refine wpList_step (fun K hK => ?_)
      go_simp
      refine hK _ _ ?_
      clear hK K
      refine wpList_step (fun K hK => ?_)
      go_simp
      refine hK _ _ ?_
      clear hK K
      refine wpList_step (fun K hK => ?_)
      go_simp
      refine hK _ _ ?_
      clear hK K
      refine wpList_step (fun K hK => ?_)
      go_simp
      refine hK _ _ ?_
      clear hK K
      refine wpList_step (fun K hK => ?_)
      go_simp
      refine hK _ _ ?_
      clear hK K
      refine wpList_ldg (by go_simp) 16 w8.heap.size r2 _ rfl b9.out rfl ?_
      refine wpList_ldg (by go_simp) 12 w5.heap.size r2 _ rfl B9.out rfl ?_
      go_wp2_with fail
      go_ret
      exact ⟨rfl, U9.out⟩
    · have QZ : ∀ w, (binOp .eql 27 (.agg (rA r2)) (.agg #[.int .i64 0, .bool false, .string ⟨#[]⟩, .int .i64 0, .bool false, .string ⟨#[]⟩, .bool false, .int .i64 0, .int .i64 0, .int .i64 0, .int .i64 0, .int .i64 0, .int .i64 0, .int .i64 0, .int .i64 0, .int .i64 0, .int .i64 0])).run Tryd.prog w = .ok (.bool true) w := fun w => by have := QE ru0 w; rw [← hz]; exact this
      clear hz QE
      go_enter Tryd.func5, Tryd.ntmps5
      go_wp2_with fail
      refine (SH.out _ (Tabs.up TT.out U0.out)).mono ?_; rintro e w1 ⟨rfl, u1⟩
      have B1 := Lib.hid (B0.out.up u1)
      have U1 := Lib.hid (U0.out.trans u1)
      clear u1 B0 U0 SH
      go_upto_region 3 with (fail)
      refine wp_region_lit ?_
      refine wpList_ld rfl 3 w.heap.size x0 _ rfl B1.out rfl ?_
      go_wp2_with fail
      refine (PN.out _ (Tabs.up TT.out U1.out)).mono ?_; rintro e w2 ⟨rfl, u1⟩
      have B2 := Lib.hid (B1.out.up u1)
      have U2 := Lib.hid (U1.out.trans u1)
      clear u1 B1 U1 PN
      go_wp2_with fail
      refine ((QX.out hl1) _).mono ?_; rintro e w3 ⟨rfl, u1⟩
      have z1 := Bk.new w3 (rA ru0) 27 (by decide)
      have ST := st_cells (r := x0) z1
      have b4 := putR_bk (r := x0) z1
      have v1 := u1.trans (putR_up (r := x0) (Up.alloc w3 (.cells (rA ru0) 27)) (Nat.le_refl _))
      rw [ru0_lit] at ST b4 v1
      clear z1
      have b4 := Lib.hid b4
      have v4 := Lib.hid v1
      clear v1 u1
      generalize hP : PutR _ w3.heap.size x0 = w4 at *
      clear hP
      have U4 := Lib.hid (U2.out.trans v4.out)
      have B4 := Lib.hid (B2.out.up v4.out)
      clear U2 v4 B2
      go_upto_region 6 with (fail)
      clear ST
      refine wp_region_lit ?_
      refine wpList_step (fun K hK => ?_)
      go_simp
      refine hK _ _ ?_
      clear hK K
      refine wpList_step (fun K hK => ?_)
      go_simp
      refine hK _ _ ?_
      clear hK K
      refine wpList_step (fun K hK => ?_)
      go_simp
      refine hK _ _ ?_
      clear hK K
      refine wpList_ldg (by go_simp) 10 w3.heap.size x0 _ rfl b4.out rfl ?_
      refine wpList_ldg (by go_simp) 3 w.heap.size x0 _ rfl B4.out rfl ?_
      go_wp2_with fail
      clear B4 b4 QX
      refine (QN.out _).mono ?_; rintro e w5 ⟨rfl, u1⟩
      have z1 := Bk.new w5 (rA ru0) 27 (by decide)
      have ST := st_cells (r := r2) z1
      have b6 := putR_bk (r := r2) z1
      have v1 := u1.trans (putR_up (r := r2) (Up.alloc w5 (.cells (rA ru0) 27)) (Nat.le_refl _))
      rw [ru0_lit] at ST b6 v1
      clear z1
      have b6 := Lib.hid b6
      have v6 := Lib.hid v1
      clear v1 u1
      generalize hP : PutR _ w5.heap.size r2 = w6 at *
      clear hP
      have U6 := Lib.hid (U4.out.trans v6.out)
      clear v6
      go_upto_region 10 with (fail)
      clear ST
      refine wp_region_lit ?_
      refine wpList_step (fun K hK => ?_)
      go_simp
      refine hK _ _ ?_
      clear hK K
      refine wpList_step (fun K hK => ?_)
      go_simp
      refine hK _ _ ?_
      clear hK K
      refine wpList_step (fun K hK => ?_)
      go_simp
      refine hK _ _ ?_
      clear hK K
      refine wpList_step (fun K hK => ?_)
      go_simp
      refine hK _ _ ?_
      clear hK K
      refine wpList_step (fun K hK => ?_)
      go_simp
      refine hK _ _ ?_
      clear hK K
      refine wpList_step (fun K hK => ?_)
      go_simp
      refine hK _ _ ?_
      clear hK K
      refine wpList_ldg (by go_simp) 12 w5.heap.size r2 _ rfl b6.out rfl ?_
      go_wp2_with fail
      go_ret
      exact ⟨rfl, U6.out⟩
  · rcases HD with ⟨rfl, rfl, rfl, rfl, hl3, hn⟩ | ⟨rfl, hz⟩
    · go_enter Tryd.func5, Tryd.ntmps5
      go_wp2_with fail
      refine (SH.out _ (Tabs.up TT.out U0.out)).mono ?_; rintro e w1 ⟨rfl, u1⟩
      have B1 := Lib.hid (B0.out.up u1)
      have U1 := Lib.hid (U0.out.trans u1)
      clear u1 B0 U0 SH
      go_upto_region 3 with (fail)
      refine wp_region_lit ?_
      refine wpList_ld rfl 3 w.heap.size x0 _ rfl B1.out rfl ?_
      go_wp2_with fail
      refine (PN.out _ (Tabs.up TT.out U1.out)).mono ?_; rintro e w2 ⟨rfl, u1⟩
      have B2 := Lib.hid (B1.out.up u1)
      have U2 := Lib.hid (U1.out.trans u1)
      clear u1 B1 U1 PN
      go_wp2_with fail
      refine (QN.out _).mono ?_; rintro e w5 ⟨rfl, u1⟩
      have z1 := Bk.new w5 (rA ru0) 27 (by decide)
      have ST := st_cells (r := r2) z1
      have b6 := putR_bk (r := r2) z1
      have v1 := u1.trans (putR_up (r := r2) (Up.alloc w5 (.cells (rA ru0) 27)) (Nat.le_refl _))
      rw [ru0_lit] at ST b6 v1
      clear z1
      have b6 := Lib.hid b6
      have v6 := Lib.hid v1
      clear v1 u1
      generalize hP : PutR _ w5.heap.size r2 = w6 at *
      clear hP
      have U6 := Lib.hid (U2.out.trans v6.out)
      clear v6
      go_upto_region 11 with (fail)
      clear ST
      refine wp_region_lit ?_
      refine wpList_ld rfl 12 w5.heap.size r2 _ rfl b6.out rfl ?_
      go_wp2_with fail
      refine (PY.out hn _ (Tabs.up TT.out U6.out)).mono ?_; rintro e w7 ⟨rfl, u1⟩
      have b7 := Lib.hid (b6.out.up u1)
      have U7 := Lib.hid (U6.out.trans u1)
      clear u1 b6 U6 PY
      go_wp2_with fail
      refine ((QY.out hl3) _).mono ?_; rintro e w8 ⟨rfl, u1⟩
      have z1 := Bk.new w8 (rA ru0) 27 (by decide)
      have ST := st_cells (r := r2) z1
      have b9 := putR_bk (r := r2) z1
      have v1 := u1.trans (putR_up (r := r2) (Up.alloc w8 (.cells (rA ru0) 27)) (Nat.le_refl _))
      rw [ru0_lit] at ST b9 v1
      clear z1
      have b9 := Lib.hid b9
      have v9 := Lib.hid v1
      clear v1 u1
      generalize hP : PutR _ w8.heap.size r2 = w9 at *
      clear hP
      have U9 := Lib.hid (U7.out.trans v9.out)
      have B9 := Lib.hid (b7.out.up v9.out)
      clear v9 U7 b7
      go_upto_region 13 with (fail)
      clear ST
      refine wp_region_lit ?_
      refine wpList_step (fun K hK => ?_)
      go_simp
      refine hK _ _ ?_
      clear hK K
      refine wpList_step (fun K hK => ?_)
      go_simp
      refine hK _ _ ?_
      clear hK K
      refine wpList_step (fun K hK => ?_)
      go_simp
      refine hK _ _ ?_
      clear hK K
      refine wpList_step (fun K hK => ?_)
      go_simp
      refine hK _ _ ?_
      clear hK K
      refine wpList_step (fun K hK => ?_)
      go_simp
      refine hK _ _ ?_
      clear hK K
      refine wpList_step (fun K hK => ?_)
      go_simp
      refine hK _ _ ?_
      clear hK K
      refine wpList_step (fun K hK => ?_)
      go_simp
      refine hK _ _ ?_
      clear hK K
      refine wpList_step (fun K hK => ?_)
      go_simp
      refine hK _ _ ?_
      clear hK K
      refine wpList_step (fun K hK => ?_)
      go_simp
      refine hK _ _ ?_
      clear hK K
      refine wpList_step (fun K hK => ?_)
      go_simp
      refine hK _ _ ?_
      clear hK K
      refine wpList_ldg (by go_simp) 16 w8.heap.size r2 _ rfl b9.out rfl ?_
      refine wpList_ldg (by go_simp) 12 w5.heap.size r2 _ rfl B9.out rfl ?_
      go_wp2_with fail
      go_ret
      exact ⟨rfl, U9.out⟩
    · have QZ : ∀ w, (binOp .eql 27 (.agg (rA r2)) (.agg #[.int .i64 0, .bool false, .string ⟨#[]⟩, .int .i64 0, .bool false, .string ⟨#[]⟩, .bool false, .int .i64 0, .int .i64 0, .int .i64 0, .int .i64 0, .int .i64 0, .int .i64 0, .int .i64 0, .int .i64 0, .int .i64 0, .int .i64 0])).run Tryd.prog w = .ok (.bool true) w := fun w => by have := QE ru0 w; rw [← hz]; exact this
      clear hz QE
      go_enter Tryd.func5, Tryd.ntmps5
      go_wp2_with fail
      refine (SH.out _ (Tabs.up TT.out U0.out)).mono ?_; rintro e w1 ⟨rfl, u1⟩
      have B1 := Lib.hid (B0.out.up u1)
      have U1 := Lib.hid (U0.out.trans u1)
      clear u1 B0 U0 SH
      go_upto_region 3 with (fail)
      refine wp_region_lit ?_
      refine wpList_ld rfl 3 w.heap.size x0 _ rfl B1.out rfl ?_
      go_wp2_with fail
      refine (PN.out _ (Tabs.up TT.out U1.out)).mono ?_; rintro e w2 ⟨rfl, u1⟩
      have B2 := Lib.hid (B1.out.up u1)
      have U2 := Lib.hid (U1.out.trans u1)
      clear u1 B1 U1 PN
      go_wp2_with fail
      refine (QN.out _).mono ?_; rintro e w5 ⟨rfl, u1⟩
      have z1 := Bk.new w5 (rA ru0) 27 (by decide)
      have ST := st_cells (r := r2) z1
      have b6 := putR_bk (r := r2) z1
      have v1 := u1.trans (putR_up (r := r2) (Up.alloc w5 (.cells (rA ru0) 27)) (Nat.le_refl _))
      rw [ru0_lit] at ST b6 v1
      clear z1
      have b6 := Lib.hid b6
      have v6 := Lib.hid v1
      clear v1 u1
      generalize hP : PutR _ w5.heap.size r2 = w6 at *
      clear hP
      have U6 := Lib.hid (U2.out.trans v6.out)
      clear v6
      go_upto_region 10 with (fail)
      clear ST
      refine wp_region_lit ?_
      refine wpList_step (fun K hK => ?_)
      go_simp
      refine hK _ _ ?_
      clear hK K
      refine wpList_step (fun K hK => ?_)
      go_simp
      refine hK _ _ ?_
      clear hK K
      refine wpList_step (fun K hK => ?_)
      go_simp
      refine hK _ _ ?_
      clear hK K
      refine wpList_step (fun K hK => ?_)
      go_simp
      refine hK _ _ ?_
      clear hK K
      refine wpList_step (fun K hK => ?_)
      go_simp
      refine hK _ _ ?_
      clear hK K
      refine wpList_step (fun K hK => ?_)
      go_simp
      refine hK _ _ ?_
      clear hK K
      refine wpList_ldg (by go_simp) 12 w5.heap.size r2 _ rfl b6.out rfl ?_
      go_wp2_with fail
      go_ret
      exact ⟨rfl, U6.out⟩

theorem readable : ∀ t ∈ Tryd.f5.params.toList, Tryd.prog.readableRec t = true ∧ t < Tryd.prog.types.size := by
  rw [Tryd.params5]
  intro t ht
  have hall : ([27, 9, 4].all fun u => Tryd.prog.readableRec u && decide (u < Tryd.prog.types.size)) = true := by kernel_rfl
  have := List.all_eq_true.1 hall t (by simpa using ht)
  simpa using this

set_option maxRecDepth 100000 in
theorem lifted (os : Os) (started : os.Started) (H : Type) (enc : TypeId × Value → H) :
    ReturnsInHanded {} Tryd.checked os 5 .any (fun w args => (Rows.posixBackSpec.pre enc Tryd.prog Tryd.f5 [] false w args ∧ laidMetH Tryd.prog laidE w) ∧ sizedMet enc Tryd.prog Tryd.f5 (OpenSpec.ofChange Rows.posixBackSpec) false w args) (Rows.posixBackSpec.post enc Tryd.prog Tryd.f5 false true false false) := by
  refine returnsInHanded_of_change_and (C := Tryd.checked) (X := fun w _ => laidMetH Tryd.prog laidE w) (fun _ _ _ hh h => h.of_heap hh) own started (by kernel_rfl) Tryd.func5
    (ChangeSpec.witness_shaped (enc := enc) (C := Tryd.checked) (os := os) (X := fun w _ => laidMetH Tryd.prog laidE w) false (World.doorLaid Tryd.prog 400 os) #[.agg #[.int .i64 0, .bool false, .string ⟨#[]⟩, .int .i64 0, .bool false, .string ⟨#[]⟩, .bool false, .int .i64 0, .int .i64 0, .int .i64 0, .int .i64 0, .int .i64 0, .int .i64 0, .int .i64 0, .int .i64 0, .int .i64 0, .int .i64 0], .string ⟨#[]⟩, .bool false] 8 rfl (World.shaped_of_RefB (by kernel_rfl) (by kernel_rfl)) (by kernel_rfl) (by kernel_rfl) (by kernel_rfl) (door_metE os _)) ?_
  intro W base args ds gs before hval0 hW _ _ hL _
  have hval : ∀ (j : Nat) t v, Tryd.f5.params[j]? = some t → args[j]? = some v → Value.okWide Tryd.prog W .any base t v := hval0
  have hW' := hW
  obtain ⟨p, q, hA0, hV, rfl, hfz, hnd⟩ := hW
  have hA : DataW.TrodAll enc Tryd.prog W 0 (fun _ => true) true Tryd.f5.params.toList args.toList ds p := hA0
  rw [Tryd.params5] at hA hval
  obtain ⟨v0, vs0, d0, ds0, p0, q0, hargs, rfl, rfl, h0, r0⟩ := trodAll_cons hA
  obtain ⟨v1, vs1, d1, ds1, p1, q1, rfl, rfl, rfl, h1, r1⟩ := trodAll_cons r0
  obtain ⟨v2, vs2, d2, ds2, p2, q2, rfl, rfl, rfl, h2, r2⟩ := trodAll_cons r1
  obtain ⟨rfl, rfl, rfl⟩ := trodAll_nil r2
  obtain rfl : args = #[v0, v1, v2] := by cases args; simp_all
  obtain ⟨rfl, rfl⟩ := trodVars_none hV
  obtain ⟨x0, rfl, fo0, fd0, ns0, nd0, ft0, fe0⟩ := open_rul (hval 0 27 v0 rfl rfl) h0
  obtain ⟨a1, rfl, rfl, rfl, z1⟩ := Go.ChangeMaps.open_string Tryd.underlying9 (hval 1 9 v1 rfl rfl) h1
  obtain ⟨l1, rfl⟩ : ∃ l, a1 = tx l := ⟨_, tx_of a1⟩
  have s1 : l1.length ≤ maxLen := by rw [tx_size] at z1; exact z1
  obtain ⟨a2, rfl, rfl, rfl⟩ := open_bool Tryd.underlying4 (hval 2 4 v2 rfl rfl) h2
  clear hA0 hval0
  refine (walk x0 l1 a2 fo0 fd0 ns0 nd0 ft0 fe0 s1  W (tabs_of_laid hL)).mono fun e W' ⟨he, hg⟩ => ?_
  subst he
  exact ⟨_, rfl, post_up laidOut readable rfl hW' (fun _ _ _ => (trodAll_cons_mk (shut_bool Tryd.underlying4 _) trodAll_mk0)) rfl rfl
    hg (ok_one (by kernel_rfl) rfl (okWide_bool_mk Tryd.underlying4 _))⟩

theorem over : Rows.posixBackRow.holds Tryd.pinned (OpenSpec.ofChange Rows.posixBackSpec) :=
  OpenClaim.holds_of_wide 5 Tryd.f5 rfl rfl rfl rfl rfl rfl rfl ⟨rfl, rfl, rfl, rfl, rfl⟩ rfl rfl rfl rfl rfl (by kernel_rfl) Tryd.func5 (by kernel_rfl)
    (of_decide_eq_true (by kernel_rfl)) (by unfold Func.isWrapper; first | (rw [if_pos (by decide +kernel)]; kernel_rfl) | (rw [if_neg (by decide +kernel)]; exact ⟨rfl, rfl⟩))
    (fun os started H enc _ => lifted os started H enc)

set_option maxRecDepth 100000 in
theorem proved : Rows.PosixBackCardSaid :=
  Claim7.holds_tied_plain_at .later [] [.data, .data, .data] true _ true
    over (fun _ h => by cases h) (by kernel_rfl) (fun _ h => by cases h) posixBack_row_tie rfl ⟨rfl, rfl⟩ (by kernel_rfl) rfl
    (fun f fn hf hfn => by
      obtain rfl : f = 5 := Option.some.inj ((show Tryd.prog.funcNamed "longcase/longcaselaw08.PosixBack" = some 5 by kernel_rfl).symm.trans hf) |>.symm
      obtain rfl : fn = Tryd.f5 := (Option.some.inj (Tryd.func5.symm.trans hfn)).symm
      exact ⟨by kernel_rfl, fun j t ht => by
        rw [Tryd.params5] at ht
        have hm : t ∈ [27, 9, 4] := by simpa using Array.mem_of_getElem? ht
        have hall : ([27, 9, 4].all fun u => !Tryd.prog.wantsStandIn u) = true := by kernel_rfl
        exact (show Tryd.prog.wantsStandIn t = false by simpa using List.all_eq_true.1 hall t hm)⟩)
    (by kernel_rfl)
end Go.Proofs.YtalpbbgkallohaaDoor.posixBack
