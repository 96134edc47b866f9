/-
  PosixOffsets is proved: for every offset and sign the statement answers true: an offset is told turned round, and read by other ways to write it. Conditions: the tied card's own (the listed variables as the text of the program lays them).
-/
import Derived.Test.YtalpbbgkallohaaDoorLcSh8
import Derived.Test.YtalpbbgkallohaaDoorLcPs8
import Derived.Test.YtalpbbgkallohaaDoorLcOpR
import Derived.Test.YtalpbbgkallohaaDoorLcLd8
import Derived.Test.YtalpbbgkallohaaDoorTie
import Derived.Test.YtalpbbgkallohaaDoorCards
import Derived.WalkKit
import Derived.ProofKit
import Derived.OpenShut
import Derived.LaidMore
import Derived.Stop.Joined
import Derived.SevenTiedAt
namespace Go.Proofs.YtalpbbgkallohaaDoor.posixOffsets
open Go.ChangeShapes Go.WideShapes Go.ChangeAt Go.RowKit Lc
set_option linter.unusedVariables false

theorem own : ownKnob Tryd.prog.godebug = none := by kernel_rfl

theorem conv_2 (w : World) (a b : Int) : (convert 46 9 (.slice (some ⟨w.heap.size, 0, none⟩) 2 2)).run Tryd.prog (w.alloc (.cells #[.int .u8 a, .int .u8 b] 5)) = .ok (.string (tx [UInt8.ofNat a.toNat, UInt8.ofNat b.toNat])) (w.alloc (.cells #[.int .u8 a, .int .u8 b] 5)) := by
  have h := run_convert_bytes_arg (P := Tryd.prog) (w.alloc (.cells #[.int .u8 a, .int .u8 b] 5)) 46 5 Tryd.underlying46 Tryd.underlying5 w.heap.size 0 2 2 [a, b] rfl (fun i hi => by
    rcases (show i = 0 ∨ i = 1 by omega) with rfl | rfl <;> simp) 9 Tryd.underlying9
  rw [h]; rfl
theorem two_is {n : Int} (h0 : 0 ≤ n) (h1 : n < 100) : [UInt8.ofNat (48 + n / 10).toNat, UInt8.ofNat (48 + n % 10).toNat] = two n := by
  unfold two
  by_cases c : n < 10
  · rw [if_pos c, dec_1 h0 c, show (48 + n / 10).toNat = 48 by omega, show (48 + n % 10).toNat = 48 + n.toNat by omega]; rfl
  · rw [if_neg c]
    have e := Lib.decDigits_two (i := n.toNat) (by omega) (by omega)
    unfold dec
    rw [e, show (48 + n / 10).toNat = 48 + n.toNat / 10 by omega, show (48 + n % 10).toNat = 48 + n.toNat % 10 by omega]; rfl
set_option maxRecDepth 100000 in
set_option maxHeartbeats 2000000 in
theorem pair_any (n : Int) (w : World) (h0 : 0 ≤ n) (h1 : n < 100) : Calls Tryd.prog 20 #[.int .i64 n] w fun e w' => e = .returned (.string (tx (two n))) ∧ Up w w' := by
  have CV := conv_2 w (48 + n / 10) (48 + n % 10)
  rw [two_is h0 h1] at CV
  have u0 := Lib.hid (Up.alloc w (.cells #[.int .u8 (48 + n / 10), .int .u8 (48 + n % 10)] 5))
  have e1 : n.tdiv 10 = n / 10 := Int.tdiv_eq_ediv_of_nonneg h0
  have e2 : n.tmod 10 = n % 10 := Int.tmod_eq_emod_of_nonneg h0
  go_enter Tryd.func20, Tryd.ntmps20
  go_wp2_with fail
  go_ret
  exact ⟨rfl, u0.out⟩
/-- The rule, and the text, of the statement. -/
def oR (x : Int) : Ru := ⟨⟨x, false, [65, 66, 67]⟩, kd0, false, ch0, ch0⟩
def oC (n : Int) : List UInt8 := two (n / 3600) ++ 58 :: (two (n / 60 % 60) ++ 58 :: two (n % 60))
theorem o_clock {n : Int} (h0 : 0 ≤ n) (h1 : n ≤ 89999) : clockP 2 (oC n) = some (n, []) := by
  have l1 := two_len (n := n / 3600) (by omega) (by omega)
  have p2 := pairP_two (n := n % 60) (t := []) (by omega) (by omega) (NoH.nil _)
  rw [List.append_nil] at p2
  unfold clockP oC
  rw [numP_all (two_all _) (fun z => by rw [z] at l1; cases l1) (by omega) (NoH.cons _ noD58), val_two (by omega)]
  simp only [takeP_yes]
  rw [pairP_two (by omega) (by omega) (NoH.cons _ noD58)]
  simp only [takeP_yes]
  rw [p2]
  simp only
  rw [show n / 3600 * 3600 + n / 60 % 60 * 60 + n % 60 = n by omega]
theorem oC_head {n : Int} {p : UInt8 → Bool} (hp : ∀ c, isDg c = true → p c = false) : NoH p (oC n) := by
  have a := two_all (n / 3600)
  have b : two (n / 3600) ≠ [] := by unfold two; split <;> simp [dec_ne]
  unfold oC
  generalize two (n / 3600) = l at a b
  rcases l with _ | ⟨c, l⟩
  · exact absurd rfl b
  · simp only [List.all_cons, Bool.and_eq_true] at a
    exact NoH.cons _ (hp c a.1)
theorem o_right {x : Int} (h1 : -89999 ≤ x) (h2 : x ≤ 89999) (wide : Bool) : rightB (oR x) wide = true := by
  have n1 : nameB [65, 66, 67] = true := by decide
  unfold rightB oR kindB
  simp [n1, inB_iff.2 ⟨h1, h2⟩]
theorem o_name {t : List UInt8} (h : NoH isL t) : nameP ([65, 66, 67] ++ t) = some ([65, 66, 67], t) := by
  have := nameP_nameT (l := [65, 66, 67]) (t := t) (by decide) h
  rw [show nameT [65, 66, 67] = [65, 66, 67] by decide] at this
  exact this
theorem o_whole {x : Int} {t : List UInt8} (h1 : -89999 ≤ x) (h2 : x ≤ 89999) (h : NoH isL t) (e : offP t = some (x, [])) : wholeP false ([65, 66, 67] ++ t) = some (oR x) := by
  unfold wholeP ruleP
  rw [o_name h]
  simp only [e, if_true]
  have := o_right h1 h2 false
  unfold oR at this
  rw [if_pos ⟨trivial, this⟩]; rfl
theorem o_neg {n : Int} (h0 : 0 ≤ n) (h1 : n ≤ 89999) : wholeP false ([65, 66, 67] ++ 45 :: oC n) = some (oR n) := by
  refine o_whole (by omega) h1 (NoH.cons _ (by decide)) ?_
  unfold offP signedP
  simp only [takeP_yes, o_clock h0 h1, Int.neg_neg]
theorem o_plus {n : Int} (h0 : 0 ≤ n) (h1 : n ≤ 89999) : wholeP false ([65, 66, 67] ++ 43 :: oC n) = some (oR (-n)) := by
  refine o_whole (by omega) (by omega) (NoH.cons _ (by decide)) ?_
  unfold offP signedP
  rw [takeP_no (NoC.cons _ (by decide))]
  simp only [takeP_yes, o_clock h0 h1]
theorem o_bare {n : Int} (h0 : 0 ≤ n) (h1 : n ≤ 89999) : wholeP false ([65, 66, 67] ++ oC n) = some (oR (-n)) := by
  refine o_whole (by omega) (by omega) (oC_head fun _ => dg_noL) ?_
  unfold offP signedP
  rw [takeP_no (oC_head fun _ h => dg_ne h (by decide)), takeP_no (oC_head fun _ h => dg_ne h (by decide))]
  simp only [o_clock h0 h1]
theorem o_tx1 (a b c : List UInt8) (s : List UInt8) : tx s ++ tx a ++ ⟨#[58]⟩ ++ tx b ++ ⟨#[58]⟩ ++ tx c = tx (s ++ (a ++ 58 :: (b ++ 58 :: c))) := by
  rw [show (⟨#[58]⟩ : ByteArray) = tx [58] from rfl]; simp only [tx_append]; simp
/-- What is read of the full text, and told. -/
theorem o_all {x : Int} {f : List UInt8} (h1 : -89999 ≤ x) (h2 : x ≤ 89999) (e : wholeP false f = some (oR x)) :
    prE (oR x) false = 0 ∧ parE false f = 0 ∧ oR x = parR false f ∧ parE true (prT (oR x) false) = 0 ∧ oR x = parR true (prT (oR x) false) ∧ ((prT (oR x) false).length : Int) ≤ (f.length : Int) := by
  have r1 := o_right h1 h2 false
  have r2 := o_right h1 h2 true
  have e2 : prT (oR x) false = ruleT (oR x) := by unfold prT; rw [r1]; rfl
  have e3 := whole_told r2
  rw [e2]
  exact ⟨by unfold prE; rw [r1]; rfl, by unfold parE; rw [e]; rfl, by unfold parR; rw [e]; rfl, by unfold parE; rw [e3]; rfl, by unfold parR; rw [e3]; rfl, by have := whole_len e; omega⟩

set_option maxHeartbeats 16000000 in
set_option maxRecDepth 100000 in
theorem walk (a0 : Int) (a1 : Bool) (w0 : (Lit.int .i64 a0).wf = true)  (w : World) (T : Tabs w) :
    Calls Tryd.prog 7 #[.int .i64 a0, .bool a1] w fun e w' => e = .returned (.bool true) ∧ Up w w' := by
  have SH := Lib.hid (fun w T => shown_any w T)
  have TT := Lib.hid T
  clear T
  obtain ⟨x, hx, x1, x2⟩ : ∃ x : Int, a0.tmod 90000 = x ∧ -89999 ≤ x ∧ x ≤ 89999 := ⟨_, rfl, by have := Int.lt_tmod_of_pos a0 (b := 90000) (by decide); omega, by have := Int.tmod_lt_of_pos a0 (b := 90000) (by decide); omega⟩
  have rs : ∀ r, (rA r).size = 17 := fun r => rfl
  have QE : ∀ (r : Ru) w, (binOp .eql 27 (.agg (rA r)) (.agg (rA r))).run Tryd.prog w = .ok (.bool true) w := fun r w => by have := ru_eql r r w; rw [decide_eq_true rfl] at this; exact this
  have PN := Lib.hid (fun w T => print_any (oR x) false w T (by show (3 : Nat) ≤ maxLen; unfold maxLen; omega) (by show (0 : Nat) ≤ maxLen; omega))
  have pl : (prT (oR x) false).length ≤ 100 := by
    unfold prT; rw [o_right x1 x2]; exact rule_100 (o_right x1 x2 false)
  have QS := Lib.hid (fun w => parse_any (prT (oR x) false) true w (by omega))
  have z1 := tx_size (prT (oR x) false)
  have hRA : Hid (#[.int .i64 x, .bool false, .string ⟨#[65, 66, 67]⟩, .int .i64 0, .bool false, .string ⟨#[]⟩, .bool false, .int .i64 0, .int .i64 0, .int .i64 0, .int .i64 0, .int .i64 0, .int .i64 0, .int .i64 0, .int .i64 0, .int .i64 0, .int .i64 0] = rA (oR x)) := Lib.hid rfl
  by_cases c : 0 < x
  · as_aux_lemma =>
      have h0 : (0 : Int) ≤ x := by omega
      have hn : x ≤ 89999 := by omega
      have W0 := o_neg h0 hn
      have P0 := Lib.hid (fun w => pair_any (x / 3600) w (by omega) (by omega))
      have P1 := Lib.hid (fun w => pair_any (x / 60 % 60) w (by omega) (by omega))
      have P2 := Lib.hid (fun w => pair_any (x % 60) w (by omega) (by omega))
      have t1 : x.tdiv 3600 = x / 3600 := Int.tdiv_eq_ediv_of_nonneg h0
      have t2 : x.tdiv 60 = x / 60 := Int.tdiv_eq_ediv_of_nonneg h0
      have t3 : (x / 60).tmod 60 = x / 60 % 60 := Int.tmod_eq_emod_of_nonneg (by omega)
      have t4 : x.tmod 60 = x % 60 := Int.tmod_eq_emod_of_nonneg h0
      have EX := o_tx1 (two (x / 3600)) (two (x / 60 % 60)) (two (x % 60)) ([65, 66, 67] ++ [45])
      have y0 : (tx (two (x / 3600))).size = 2 := by rw [tx_size]; exact two_len (by omega) (by omega)
      have y1 : (tx (two (x / 60 % 60))).size = 2 := by rw [tx_size]; exact two_len (by omega) (by omega)
      have y2 : (tx (two (x % 60))).size = 2 := by rw [tx_size]; exact two_len (by omega) (by omega)
      have z2 := tx_size (([65, 66, 67] ++ [45]) ++ oC x)
      obtain ⟨g1, g2, g3, g4, g5, g6⟩ := o_all (f := ([65, 66, 67] ++ [45]) ++ oC x) (by omega) (by omega) W0
      have fl : (([65, 66, 67] ++ [45]) ++ oC x).length ≤ 100000 := by
        have := two_len (n := x / 3600) (by omega) (by omega); have := two_len (n := x / 60 % 60) (by omega) (by omega); have := two_len (n := x % 60) (by omega) (by omega)
        unfold oC; simp; omega
      have QF := Lib.hid (fun w => parse_any (([65, 66, 67] ++ [45]) ++ oC x) false w fl)
      rw [show (([65, 66, 67] ++ [45]) ++ (two (x / 3600) ++ 58 :: (two (x / 60 % 60) ++ 58 :: two (x % 60)))) = ([65, 66, 67] ++ [45]) ++ oC x from rfl] at EX
      have yp : (tx ([65, 66, 67] ++ [45])).size = 4 := tx_size _
      have e0 : (⟨#[65, 66, 67]⟩ : ByteArray) ++ ⟨#[45]⟩ = tx ([65, 66, 67] ++ [45]) := tx_append [65, 66, 67] [45]
      have c' : ¬ x ≤ 0 := by omega
      rw [g1] at PN
      rw [g2, ← g3] at QF
      rw [g4, ← g5] at QS
      clear W0 fl pl g1 g2 g3 g4 g5
      generalize ([65, 66, 67] ++ [45]) ++ oC x = fu at *
      generalize tx ([65, 66, 67] ++ [45]) = F0 at *
      generalize tx (two (x / 3600)) = v0 at *
      generalize tx (two (x / 60 % 60)) = v1 at *
      generalize tx (two (x % 60)) = v2 at *
      generalize tx fu = FU at *
      generalize prT (oR x) false = tt at *
      generalize tx tt = S at *
      go_enter Tryd.func7, Tryd.ntmps7
      go_wp2_with fail
      refine (SH.out _ TT.out).mono ?_; rintro e w1 ⟨rfl, u1⟩
      clear SH
      go_wp2_with fail
      obtain ⟨W, hW⟩ : ∃ W, W = w1.alloc (.cells #[.int .i64 x, .bool false, .string ⟨#[65, 66, 67]⟩, .int .i64 0, .bool false, .string ⟨#[]⟩, .bool false, .int .i64 0, .int .i64 0, .int .i64 0, .int .i64 0, .int .i64 0, .int .i64 0, .int .i64 0, .int .i64 0, .int .i64 0, .int .i64 0] 27) := ⟨_, rfl⟩
      rw [← hW]
      rw [hRA.out] at hW
      have B1 : Hid (Bk W w1.heap.size (rA (oR x)) 27) := Lib.hid (by rw [hW]; exact Bk.new w1 (rA (oR x)) 27 (by decide))
      have U1 : Hid (Up w W) := Lib.hid (by rw [hW]; exact u1.alloc' _)
      clear hW u1
      refine (P0.out _).mono ?_; rintro e w2 ⟨rfl, u2⟩
      go_wp2_with fail
      refine (P1.out _).mono ?_; rintro e w3 ⟨rfl, u3⟩
      go_wp2_with fail
      refine (P2.out _).mono ?_; rintro e w4 ⟨rfl, u4⟩
      have B4 := Lib.hid (((B1.out.up u2).up u3).up u4)
      have U4 := Lib.hid (((U1.out.trans u2).trans u3).trans u4)
      clear u2 u3 u4 B1 U1 P0 P1 P2
      go_upto_region 13 with (fail)
      refine wp_region_lit ?_
      refine wpList_ld rfl 6 w1.heap.size (oR x) _ rfl B4.out rfl ?_
      go_wp2_with fail
      refine (PN.out _ (Tabs.up TT.out U4.out)).mono ?_; rintro e w5 ⟨rfl, u1⟩
      have B5 := Lib.hid (B4.out.up u1)
      have U5 := Lib.hid (U4.out.trans u1)
      clear u1 B4 U4 PN
      go_wp2_with fail
      refine (QF.out _).mono ?_; rintro e w6 ⟨rfl, u1⟩
      have z1 := Bk.new w6 (rA ru0) 27 (by decide)
      have ST := st_cells (r := (oR x)) z1
      have b7 := putR_bk (r := (oR x)) z1
      have v1 := u1.trans (putR_up (r := (oR x)) (Up.alloc w6 (.cells (rA ru0) 27)) (Nat.le_refl _))
      rw [ru0_lit] at ST b7 v1
      clear z1
      have b7 := Lib.hid b7
      have v7 := Lib.hid v1
      clear v1 u1
      generalize hP : PutR _ w6.heap.size (oR x) = w7 at *
      clear hP
      have U7 := Lib.hid (U5.out.trans v7.out)
      have B7 := Lib.hid (B5.out.up v7.out)
      clear v7 U5 B5
      go_wp2_with fail
      clear ST
      refine (QS.out _).mono ?_; rintro e w8 ⟨rfl, u1⟩
      have z1 := Bk.new w8 (rA ru0) 27 (by decide)
      have ST := st_cells (r := (oR x)) z1
      have b9 := putR_bk (r := (oR x)) z1
      have v1 := u1.trans (putR_up (r := (oR x)) (Up.alloc w8 (.cells (rA ru0) 27)) (Nat.le_refl _))
      rw [ru0_lit] at ST b9 v1
      clear z1
      have b9 := Lib.hid b9
      have v9 := Lib.hid v1
      clear v1 u1
      generalize hP : PutR _ w8.heap.size (oR x) = w9 at *
      clear hP
      have U9 := Lib.hid (U7.out.trans v9.out)
      have B9 := Lib.hid (B7.out.up v9.out)
      have D9 := Lib.hid (b7.out.up v9.out)
      clear v9 U7 B7 b7
      go_upto_region 16 with (fail)
      clear ST
      refine wp_region_lit ?_
      refine wpList_step (fun K hK => ?_)
      go_simp
      refine hK _ _ ?_
      clear hK K
      refine wpList_step (fun K hK => ?_)
      go_simp
      refine hK _ _ ?_
      clear hK K
      refine wpList_step (fun K hK => ?_)
      go_simp
      refine hK _ _ ?_
      clear hK K
      refine wpList_step (fun K hK => ?_)
      go_simp
      refine hK _ _ ?_
      clear hK K
      refine wpList_step (fun K hK => ?_)
      go_simp
      refine hK _ _ ?_
      clear hK K
      refine wpList_step (fun K hK => ?_)
      go_simp
      refine hK _ _ ?_
      clear hK K
      refine wpList_step (fun K hK => ?_)
      go_simp
      refine hK _ _ ?_
      clear hK K
      refine wpList_step (fun K hK => ?_)
      go_simp
      refine hK _ _ ?_
      clear hK K
      refine wpList_step (fun K hK => ?_)
      go_simp
      refine hK _ _ ?_
      clear hK K
      refine wpList_step (fun K hK => ?_)
      go_simp
      refine hK _ _ ?_
      clear hK K
      refine wpList_step (fun K hK => ?_)
      go_simp
      refine hK _ _ ?_
      clear hK K
      refine wpList_step (fun K hK => ?_)
      go_simp
      refine hK _ _ ?_
      clear hK K
      refine wpList_step (fun K hK => ?_)
      go_simp
      refine hK _ _ ?_
      clear hK K
      refine wpList_step (fun K hK => ?_)
      go_simp
      refine hK _ _ ?_
      clear hK K
      refine wpList_ldg (by go_simp) 12 w6.heap.size (oR x) _ rfl D9.out rfl ?_
      refine wpList_ldg (by go_simp) 6 w1.heap.size (oR x) _ rfl B9.out rfl ?_
      refine wpList_step (fun K hK => ?_)
      go_simp
      refine hK _ _ ?_
      clear hK K
      refine wpList_step (fun K hK => ?_)
      go_simp
      refine hK _ _ ?_
      clear hK K
      refine wpList_step (fun K hK => ?_)
      go_simp
      refine hK _ _ ?_
      clear hK K
      refine wpList_ldg (by go_simp) 14 w8.heap.size (oR x) _ rfl b9.out rfl ?_
      refine wpList_ldg (by go_simp) 6 w1.heap.size (oR x) _ rfl B9.out rfl ?_
      go_wp2_with fail
      go_ret
      exact ⟨ret_b (by simp), U9.out⟩
  obtain ⟨n, rfl⟩ : ∃ n : Int, x = -n := ⟨-x, by omega⟩
  have c1 : 0 ≤ n := by omega
  clear c
  cases a1
  · as_aux_lemma =>
      have h0 : (0 : Int) ≤ n := by omega
      have hn : n ≤ 89999 := by omega
      have W0 := o_bare h0 hn
      have P0 := Lib.hid (fun w => pair_any (n / 3600) w (by omega) (by omega))
      have P1 := Lib.hid (fun w => pair_any (n / 60 % 60) w (by omega) (by omega))
      have P2 := Lib.hid (fun w => pair_any (n % 60) w (by omega) (by omega))
      have t1 : n.tdiv 3600 = n / 3600 := Int.tdiv_eq_ediv_of_nonneg h0
      have t2 : n.tdiv 60 = n / 60 := Int.tdiv_eq_ediv_of_nonneg h0
      have t3 : (n / 60).tmod 60 = n / 60 % 60 := Int.tmod_eq_emod_of_nonneg (by omega)
      have t4 : n.tmod 60 = n % 60 := Int.tmod_eq_emod_of_nonneg h0
      have EX := o_tx1 (two (n / 3600)) (two (n / 60 % 60)) (two (n % 60)) ([65, 66, 67] ++ [])
      have y0 : (tx (two (n / 3600))).size = 2 := by rw [tx_size]; exact two_len (by omega) (by omega)
      have y1 : (tx (two (n / 60 % 60))).size = 2 := by rw [tx_size]; exact two_len (by omega) (by omega)
      have y2 : (tx (two (n % 60))).size = 2 := by rw [tx_size]; exact two_len (by omega) (by omega)
      have z2 := tx_size (([65, 66, 67] ++ []) ++ oC n)
      obtain ⟨g1, g2, g3, g4, g5, g6⟩ := o_all (f := ([65, 66, 67] ++ []) ++ oC n) (by omega) (by omega) W0
      have fl : (([65, 66, 67] ++ []) ++ oC n).length ≤ 100000 := by
        have := two_len (n := n / 3600) (by omega) (by omega); have := two_len (n := n / 60 % 60) (by omega) (by omega); have := two_len (n := n % 60) (by omega) (by omega)
        unfold oC; simp; omega
      have QF := Lib.hid (fun w => parse_any (([65, 66, 67] ++ []) ++ oC n) false w fl)
      rw [show (([65, 66, 67] ++ []) ++ (two (n / 3600) ++ 58 :: (two (n / 60 % 60) ++ 58 :: two (n % 60)))) = ([65, 66, 67] ++ []) ++ oC n from rfl] at EX
      have yp : (tx ([65, 66, 67] ++ [])).size = 3 := tx_size _
      have e0 : (⟨#[65, 66, 67]⟩ : ByteArray) ++ ⟨#[]⟩ = tx ([65, 66, 67] ++ []) := tx_append [65, 66, 67] []
      rw [g1] at PN
      rw [g2, ← g3] at QF
      rw [g4, ← g5] at QS
      clear W0 fl pl g1 g2 g3 g4 g5
      generalize ([65, 66, 67] ++ []) ++ oC n = fu at *
      generalize tx ([65, 66, 67] ++ []) = F0 at *
      generalize tx (two (n / 3600)) = v0 at *
      generalize tx (two (n / 60 % 60)) = v1 at *
      generalize tx (two (n % 60)) = v2 at *
      generalize tx fu = FU at *
      generalize prT (oR (-n)) false = tt at *
      generalize tx tt = S at *
      go_enter Tryd.func7, Tryd.ntmps7
      go_wp2_with fail
      refine (SH.out _ TT.out).mono ?_; rintro e w1 ⟨rfl, u1⟩
      clear SH
      go_wp2_with fail
      obtain ⟨W, hW⟩ : ∃ W, W = w1.alloc (.cells #[.int .i64 (-n), .bool false, .string ⟨#[65, 66, 67]⟩, .int .i64 0, .bool false, .string ⟨#[]⟩, .bool false, .int .i64 0, .int .i64 0, .int .i64 0, .int .i64 0, .int .i64 0, .int .i64 0, .int .i64 0, .int .i64 0, .int .i64 0, .int .i64 0] 27) := ⟨_, rfl⟩
      rw [← hW]
      rw [hRA.out] at hW
      have B1 : Hid (Bk W w1.heap.size (rA (oR (-n))) 27) := Lib.hid (by rw [hW]; exact Bk.new w1 (rA (oR (-n))) 27 (by decide))
      have U1 : Hid (Up w W) := Lib.hid (by rw [hW]; exact u1.alloc' _)
      clear hW u1
      refine (P0.out _).mono ?_; rintro e w2 ⟨rfl, u2⟩
      go_wp2_with fail
      refine (P1.out _).mono ?_; rintro e w3 ⟨rfl, u3⟩
      go_wp2_with fail
      refine (P2.out _).mono ?_; rintro e w4 ⟨rfl, u4⟩
      have B4 := Lib.hid (((B1.out.up u2).up u3).up u4)
      have U4 := Lib.hid (((U1.out.trans u2).trans u3).trans u4)
      clear u2 u3 u4 B1 U1 P0 P1 P2
      go_upto_region 13 with (fail)
      refine wp_region_lit ?_
      refine wpList_ld rfl 6 w1.heap.size (oR (-n)) _ rfl B4.out rfl ?_
      go_wp2_with fail
      refine (PN.out _ (Tabs.up TT.out U4.out)).mono ?_; rintro e w5 ⟨rfl, u1⟩
      have B5 := Lib.hid (B4.out.up u1)
      have U5 := Lib.hid (U4.out.trans u1)
      clear u1 B4 U4 PN
      go_wp2_with fail
      refine (QF.out _).mono ?_; rintro e w6 ⟨rfl, u1⟩
      have z1 := Bk.new w6 (rA ru0) 27 (by decide)
      have ST := st_cells (r := (oR (-n))) z1
      have b7 := putR_bk (r := (oR (-n))) z1
      have v1 := u1.trans (putR_up (r := (oR (-n))) (Up.alloc w6 (.cells (rA ru0) 27)) (Nat.le_refl _))
      rw [ru0_lit] at ST b7 v1
      clear z1
      have b7 := Lib.hid b7
      have v7 := Lib.hid v1
      clear v1 u1
      generalize hP : PutR _ w6.heap.size (oR (-n)) = w7 at *
      clear hP
      have U7 := Lib.hid (U5.out.trans v7.out)
      have B7 := Lib.hid (B5.out.up v7.out)
      clear v7 U5 B5
      go_wp2_with fail
      clear ST
      refine (QS.out _).mono ?_; rintro e w8 ⟨rfl, u1⟩
      have z1 := Bk.new w8 (rA ru0) 27 (by decide)
      have ST := st_cells (r := (oR (-n))) z1
      have b9 := putR_bk (r := (oR (-n))) z1
      have v1 := u1.trans (putR_up (r := (oR (-n))) (Up.alloc w8 (.cells (rA ru0) 27)) (Nat.le_refl _))
      rw [ru0_lit] at ST b9 v1
      clear z1
      have b9 := Lib.hid b9
      have v9 := Lib.hid v1
      clear v1 u1
      generalize hP : PutR _ w8.heap.size (oR (-n)) = w9 at *
      clear hP
      have U9 := Lib.hid (U7.out.trans v9.out)
      have B9 := Lib.hid (B7.out.up v9.out)
      have D9 := Lib.hid (b7.out.up v9.out)
      clear v9 U7 B7 b7
      go_upto_region 16 with (fail)
      clear ST
      refine wp_region_lit ?_
      refine wpList_step (fun K hK => ?_)
      go_simp
      refine hK _ _ ?_
      clear hK K
      refine wpList_step (fun K hK => ?_)
      go_simp
      refine hK _ _ ?_
      clear hK K
      refine wpList_step (fun K hK => ?_)
      go_simp
      refine hK _ _ ?_
      clear hK K
      refine wpList_step (fun K hK => ?_)
      go_simp
      refine hK _ _ ?_
      clear hK K
      refine wpList_step (fun K hK => ?_)
      go_simp
      refine hK _ _ ?_
      clear hK K
      refine wpList_step (fun K hK => ?_)
      go_simp
      refine hK _ _ ?_
      clear hK K
      refine wpList_step (fun K hK => ?_)
      go_simp
      refine hK _ _ ?_
      clear hK K
      refine wpList_step (fun K hK => ?_)
      go_simp
      refine hK _ _ ?_
      clear hK K
      refine wpList_step (fun K hK => ?_)
      go_simp
      refine hK _ _ ?_
      clear hK K
      refine wpList_step (fun K hK => ?_)
      go_simp
      refine hK _ _ ?_
      clear hK K
      refine wpList_step (fun K hK => ?_)
      go_simp
      refine hK _ _ ?_
      clear hK K
      refine wpList_step (fun K hK => ?_)
      go_simp
      refine hK _ _ ?_
      clear hK K
      refine wpList_step (fun K hK => ?_)
      go_simp
      refine hK _ _ ?_
      clear hK K
      refine wpList_step (fun K hK => ?_)
      go_simp
      refine hK _ _ ?_
      clear hK K
      refine wpList_ldg (by go_simp) 12 w6.heap.size (oR (-n)) _ rfl D9.out rfl ?_
      refine wpList_ldg (by go_simp) 6 w1.heap.size (oR (-n)) _ rfl B9.out rfl ?_
      refine wpList_step (fun K hK => ?_)
      go_simp
      refine hK _ _ ?_
      clear hK K
      refine wpList_step (fun K hK => ?_)
      go_simp
      refine hK _ _ ?_
      clear hK K
      refine wpList_step (fun K hK => ?_)
      go_simp
      refine hK _ _ ?_
      clear hK K
      refine wpList_ldg (by go_simp) 14 w8.heap.size (oR (-n)) _ rfl b9.out rfl ?_
      refine wpList_ldg (by go_simp) 6 w1.heap.size (oR (-n)) _ rfl B9.out rfl ?_
      go_wp2_with fail
      go_ret
      exact ⟨ret_b (by simp), U9.out⟩
  · as_aux_lemma =>
      have h0 : (0 : Int) ≤ n := by omega
      have hn : n ≤ 89999 := by omega
      have W0 := o_plus h0 hn
      have P0 := Lib.hid (fun w => pair_any (n / 3600) w (by omega) (by omega))
      have P1 := Lib.hid (fun w => pair_any (n / 60 % 60) w (by omega) (by omega))
      have P2 := Lib.hid (fun w => pair_any (n % 60) w (by omega) (by omega))
      have t1 : n.tdiv 3600 = n / 3600 := Int.tdiv_eq_ediv_of_nonneg h0
      have t2 : n.tdiv 60 = n / 60 := Int.tdiv_eq_ediv_of_nonneg h0
      have t3 : (n / 60).tmod 60 = n / 60 % 60 := Int.tmod_eq_emod_of_nonneg (by omega)
      have t4 : n.tmod 60 = n % 60 := Int.tmod_eq_emod_of_nonneg h0
      have EX := o_tx1 (two (n / 3600)) (two (n / 60 % 60)) (two (n % 60)) ([65, 66, 67] ++ [43])
      have y0 : (tx (two (n / 3600))).size = 2 := by rw [tx_size]; exact two_len (by omega) (by omega)
      have y1 : (tx (two (n / 60 % 60))).size = 2 := by rw [tx_size]; exact two_len (by omega) (by omega)
      have y2 : (tx (two (n % 60))).size = 2 := by rw [tx_size]; exact two_len (by omega) (by omega)
      have z2 := tx_size (([65, 66, 67] ++ [43]) ++ oC n)
      obtain ⟨g1, g2, g3, g4, g5, g6⟩ := o_all (f := ([65, 66, 67] ++ [43]) ++ oC n) (by omega) (by omega) W0
      have fl : (([65, 66, 67] ++ [43]) ++ oC n).length ≤ 100000 := by
        have := two_len (n := n / 3600) (by omega) (by omega); have := two_len (n := n / 60 % 60) (by omega) (by omega); have := two_len (n := n % 60) (by omega) (by omega)
        unfold oC; simp; omega
      have QF := Lib.hid (fun w => parse_any (([65, 66, 67] ++ [43]) ++ oC n) false w fl)
      rw [show (([65, 66, 67] ++ [43]) ++ (two (n / 3600) ++ 58 :: (two (n / 60 % 60) ++ 58 :: two (n % 60)))) = ([65, 66, 67] ++ [43]) ++ oC n from rfl] at EX
      have yp : (tx ([65, 66, 67] ++ [43])).size = 4 := tx_size _
      have e0 : (⟨#[65, 66, 67]⟩ : ByteArray) ++ ⟨#[]⟩ = ⟨#[65, 66, 67]⟩ := tx_append [65, 66, 67] []
      have e1 : (⟨#[65, 66, 67]⟩ : ByteArray) ++ ⟨#[43]⟩ = tx ([65, 66, 67] ++ [43]) := tx_append [65, 66, 67] [43]
      rw [g1] at PN
      rw [g2, ← g3] at QF
      rw [g4, ← g5] at QS
      clear W0 fl pl g1 g2 g3 g4 g5
      generalize ([65, 66, 67] ++ [43]) ++ oC n = fu at *
      generalize tx ([65, 66, 67] ++ [43]) = F0 at *
      generalize tx (two (n / 3600)) = v0 at *
      generalize tx (two (n / 60 % 60)) = v1 at *
      generalize tx (two (n % 60)) = v2 at *
      generalize tx fu = FU at *
      generalize prT (oR (-n)) false = tt at *
      generalize tx tt = S at *
      go_enter Tryd.func7, Tryd.ntmps7
      go_wp2_with fail
      refine (SH.out _ TT.out).mono ?_; rintro e w1 ⟨rfl, u1⟩
      clear SH
      go_wp2_with fail
      obtain ⟨W, hW⟩ : ∃ W, W = w1.alloc (.cells #[.int .i64 (-n), .bool false, .string ⟨#[65, 66, 67]⟩, .int .i64 0, .bool false, .string ⟨#[]⟩, .bool false, .int .i64 0, .int .i64 0, .int .i64 0, .int .i64 0, .int .i64 0, .int .i64 0, .int .i64 0, .int .i64 0, .int .i64 0, .int .i64 0] 27) := ⟨_, rfl⟩
      rw [← hW]
      rw [hRA.out] at hW
      have B1 : Hid (Bk W w1.heap.size (rA (oR (-n))) 27) := Lib.hid (by rw [hW]; exact Bk.new w1 (rA (oR (-n))) 27 (by decide))
      have U1 : Hid (Up w W) := Lib.hid (by rw [hW]; exact u1.alloc' _)
      clear hW u1
      refine (P0.out _).mono ?_; rintro e w2 ⟨rfl, u2⟩
      go_wp2_with fail
      refine (P1.out _).mono ?_; rintro e w3 ⟨rfl, u3⟩
      go_wp2_with fail
      refine (P2.out _).mono ?_; rintro e w4 ⟨rfl, u4⟩
      have B4 := Lib.hid (((B1.out.up u2).up u3).up u4)
      have U4 := Lib.hid (((U1.out.trans u2).trans u3).trans u4)
      clear u2 u3 u4 B1 U1 P0 P1 P2
      go_upto_region 13 with (fail)
      refine wp_region_lit ?_
      refine wpList_ld rfl 6 w1.heap.size (oR (-n)) _ rfl B4.out rfl ?_
      go_wp2_with fail
      refine (PN.out _ (Tabs.up TT.out U4.out)).mono ?_; rintro e w5 ⟨rfl, u1⟩
      have B5 := Lib.hid (B4.out.up u1)
      have U5 := Lib.hid (U4.out.trans u1)
      clear u1 B4 U4 PN
      go_wp2_with fail
      refine (QF.out _).mono ?_; rintro e w6 ⟨rfl, u1⟩
      have z1 := Bk.new w6 (rA ru0) 27 (by decide)
      have ST := st_cells (r := (oR (-n))) z1
      have b7 := putR_bk (r := (oR (-n))) z1
      have v1 := u1.trans (putR_up (r := (oR (-n))) (Up.alloc w6 (.cells (rA ru0) 27)) (Nat.le_refl _))
      rw [ru0_lit] at ST b7 v1
      clear z1
      have b7 := Lib.hid b7
      have v7 := Lib.hid v1
      clear v1 u1
      generalize hP : PutR _ w6.heap.size (oR (-n)) = w7 at *
      clear hP
      have U7 := Lib.hid (U5.out.trans v7.out)
      have B7 := Lib.hid (B5.out.up v7.out)
      clear v7 U5 B5
      go_wp2_with fail
      clear ST
      refine (QS.out _).mono ?_; rintro e w8 ⟨rfl, u1⟩
      have z1 := Bk.new w8 (rA ru0) 27 (by decide)
      have ST := st_cells (r := (oR (-n))) z1
      have b9 := putR_bk (r := (oR (-n))) z1
      have v1 := u1.trans (putR_up (r := (oR (-n))) (Up.alloc w8 (.cells (rA ru0) 27)) (Nat.le_refl _))
      rw [ru0_lit] at ST b9 v1
      clear z1
      have b9 := Lib.hid b9
      have v9 := Lib.hid v1
      clear v1 u1
      generalize hP : PutR _ w8.heap.size (oR (-n)) = w9 at *
      clear hP
      have U9 := Lib.hid (U7.out.trans v9.out)
      have B9 := Lib.hid (B7.out.up v9.out)
      have D9 := Lib.hid (b7.out.up v9.out)
      clear v9 U7 B7 b7
      go_upto_region 16 with (fail)
      clear ST
      refine wp_region_lit ?_
      refine wpList_step (fun K hK => ?_)
      go_simp
      refine hK _ _ ?_
      clear hK K
      refine wpList_step (fun K hK => ?_)
      go_simp
      refine hK _ _ ?_
      clear hK K
      refine wpList_step (fun K hK => ?_)
      go_simp
      refine hK _ _ ?_
      clear hK K
      refine wpList_step (fun K hK => ?_)
      go_simp
      refine hK _ _ ?_
      clear hK K
      refine wpList_step (fun K hK => ?_)
      go_simp
      refine hK _ _ ?_
      clear hK K
      refine wpList_step (fun K hK => ?_)
      go_simp
      refine hK _ _ ?_
      clear hK K
      refine wpList_step (fun K hK => ?_)
      go_simp
      refine hK _ _ ?_
      clear hK K
      refine wpList_step (fun K hK => ?_)
      go_simp
      refine hK _ _ ?_
      clear hK K
      refine wpList_step (fun K hK => ?_)
      go_simp
      refine hK _ _ ?_
      clear hK K
      refine wpList_step (fun K hK => ?_)
      go_simp
      refine hK _ _ ?_
      clear hK K
      refine wpList_step (fun K hK => ?_)
      go_simp
      refine hK _ _ ?_
      clear hK K
      refine wpList_step (fun K hK => ?_)
      go_simp
      refine hK _ _ ?_
      clear hK K
      refine wpList_step (fun K hK => ?_)
      go_simp
      refine hK _ _ ?_
      clear hK K
      refine wpList_step (fun K hK => ?_)
      go_simp
      refine hK _ _ ?_
      clear hK K
      refine wpList_ldg (by go_simp) 12 w6.heap.size (oR (-n)) _ rfl D9.out rfl ?_
      refine wpList_ldg (by go_simp) 6 w1.heap.size (oR (-n)) _ rfl B9.out rfl ?_
      refine wpList_step (fun K hK => ?_)
      go_simp
      refine hK _ _ ?_
      clear hK K
      refine wpList_step (fun K hK => ?_)
      go_simp
      refine hK _ _ ?_
      clear hK K
      refine wpList_step (fun K hK => ?_)
      go_simp
      refine hK _ _ ?_
      clear hK K
      refine wpList_ldg (by go_simp) 14 w8.heap.size (oR (-n)) _ rfl b9.out rfl ?_
      refine wpList_ldg (by go_simp) 6 w1.heap.size (oR (-n)) _ rfl B9.out rfl ?_
      go_wp2_with fail
      go_ret
      exact ⟨ret_b (by simp), U9.out⟩

theorem readable : ∀ t ∈ Tryd.f7.params.toList, Tryd.prog.readableRec t = true ∧ t < Tryd.prog.types.size := by
  rw [Tryd.params7]
  intro t ht
  have hall : ([3, 4].all fun u => Tryd.prog.readableRec u && decide (u < Tryd.prog.types.size)) = true := by kernel_rfl
  have := List.all_eq_true.1 hall t (by simpa using ht)
  simpa using this

set_option maxRecDepth 100000 in
theorem lifted (os : Os) (started : os.Started) (H : Type) (enc : TypeId × Value → H) :
    ReturnsInHanded {} Tryd.checked os 7 .any (fun w args => (Rows.posixOffsetsSpec.pre enc Tryd.prog Tryd.f7 [] false w args ∧ laidMetH Tryd.prog laidE w) ∧ sizedMet enc Tryd.prog Tryd.f7 (OpenSpec.ofChange Rows.posixOffsetsSpec) false w args) (Rows.posixOffsetsSpec.post enc Tryd.prog Tryd.f7 false true false false) := by
  refine returnsInHanded_of_change_and (C := Tryd.checked) (X := fun w _ => laidMetH Tryd.prog laidE w) (fun _ _ _ hh h => h.of_heap hh) own started (by kernel_rfl) Tryd.func7
    (ChangeSpec.witness_shaped (enc := enc) (C := Tryd.checked) (os := os) (X := fun w _ => laidMetH Tryd.prog laidE w) false (World.doorLaid Tryd.prog 400 os) #[.int .i64 0, .bool false] 8 rfl (World.shaped_of_RefB (by kernel_rfl) (by kernel_rfl)) (by kernel_rfl) (by kernel_rfl) (by kernel_rfl) (door_metE os _)) ?_
  intro W base args ds gs before hval0 hW _ _ hL _
  have hval : ∀ (j : Nat) t v, Tryd.f7.params[j]? = some t → args[j]? = some v → Value.okWide Tryd.prog W .any base t v := hval0
  have hW' := hW
  obtain ⟨p, q, hA0, hV, rfl, hfz, hnd⟩ := hW
  have hA : DataW.TrodAll enc Tryd.prog W 0 (fun _ => true) true Tryd.f7.params.toList args.toList ds p := hA0
  rw [Tryd.params7] at hA hval
  obtain ⟨v0, vs0, d0, ds0, p0, q0, hargs, rfl, rfl, h0, r0⟩ := trodAll_cons hA
  obtain ⟨v1, vs1, d1, ds1, p1, q1, rfl, rfl, rfl, h1, r1⟩ := trodAll_cons r0
  obtain ⟨rfl, rfl, rfl⟩ := trodAll_nil r1
  obtain rfl : args = #[v0, v1] := by cases args; simp_all
  obtain ⟨rfl, rfl⟩ := trodVars_none hV
  obtain ⟨a0, rfl, rfl, rfl, w0⟩ := open_int Tryd.underlying3 (hval 0 3 v0 rfl rfl) h0
  obtain ⟨a1, rfl, rfl, rfl⟩ := open_bool Tryd.underlying4 (hval 1 4 v1 rfl rfl) h1
  clear hA0 hval0
  refine (walk a0 a1 w0  W (tabs_of_laid hL)).mono fun e W' ⟨he, hg⟩ => ?_
  subst he
  exact ⟨_, rfl, post_up laidOut readable rfl hW' (fun _ _ _ => (trodAll_cons_mk (shut_bool Tryd.underlying4 _) trodAll_mk0)) rfl rfl
    hg (ok_one (by kernel_rfl) rfl (okWide_bool_mk Tryd.underlying4 _))⟩

theorem over : Rows.posixOffsetsRow.holds Tryd.pinned (OpenSpec.ofChange Rows.posixOffsetsSpec) :=
  OpenClaim.holds_of_wide 7 Tryd.f7 rfl rfl rfl rfl rfl rfl rfl ⟨rfl, rfl, rfl, rfl, rfl⟩ rfl rfl rfl rfl rfl (by kernel_rfl) Tryd.func7 (by kernel_rfl)
    (of_decide_eq_true (by kernel_rfl)) (by unfold Func.isWrapper; first | (rw [if_pos (by decide +kernel)]; kernel_rfl) | (rw [if_neg (by decide +kernel)]; exact ⟨rfl, rfl⟩))
    (fun os started H enc _ => lifted os started H enc)

set_option maxRecDepth 100000 in
theorem proved : Rows.PosixOffsetsCardSaid :=
  Claim7.holds_tied_plain_at .later [] [.data, .data, .data] true _ true
    over (fun _ h => by cases h) (by kernel_rfl) (fun _ h => by cases h) posixOffsets_row_tie rfl ⟨rfl, rfl⟩ (by kernel_rfl) rfl
    (fun f fn hf hfn => by
      obtain rfl : f = 7 := Option.some.inj ((show Tryd.prog.funcNamed "longcase/longcaselaw08.PosixOffsets" = some 7 by kernel_rfl).symm.trans hf) |>.symm
      obtain rfl : fn = Tryd.f7 := (Option.some.inj (Tryd.func7.symm.trans hfn)).symm
      exact ⟨by kernel_rfl, fun j t ht => by
        rw [Tryd.params7] at ht
        have hm : t ∈ [3, 4] := by simpa using Array.mem_of_getElem? ht
        have hall : ([3, 4].all fun u => !Tryd.prog.wantsStandIn u) = true := by kernel_rfl
        exact (show Tryd.prog.wantsStandIn t = false by simpa using List.all_eq_true.1 hall t hm)⟩)
    (by kernel_rfl)
end Go.Proofs.YtalpbbgkallohaaDoor.posixOffsets
