/-
  PosixSaved is proved: for every two offsets the statement answers true: a second kind that is an hour ahead is told without its offset. Conditions: the tied card's own (the listed variables as the text of the program lays them).
-/
import Derived.Test.YtalpbbgkallohaaDoorLcSh8
import Derived.Test.YtalpbbgkallohaaDoorLcPs8
import Derived.Test.YtalpbbgkallohaaDoorLcOpR
import Derived.Test.YtalpbbgkallohaaDoorLcLd8
import Derived.Test.YtalpbbgkallohaaDoorTie
import Derived.Test.YtalpbbgkallohaaDoorCards
import Derived.WalkKit
import Derived.ProofKit
import Derived.OpenShut
import Derived.LaidMore
import Derived.Stop.Joined
import Derived.SevenTiedAt
namespace Go.Proofs.YtalpbbgkallohaaDoor.posixSaved
open Go.ChangeShapes Go.WideShapes Go.ChangeAt Go.RowKit Lc
set_option linter.unusedVariables false

theorem own : ownKnob Tryd.prog.godebug = none := by kernel_rfl

/-- The rules of the statement. -/
def sR (x d : Int) : Ru := ⟨⟨x, false, [65, 65, 65]⟩, ⟨d, true, [66, 66, 66]⟩, true, ⟨2, 0, 0, 0, 7200⟩, ⟨2, 0, 0, 0, 7200⟩⟩
def sO (x : Int) : Ru := ⟨⟨x, false, [65, 65, 65]⟩, kd0, false, ch0, ch0⟩
theorem sR_right {x d : Int} (h1 : -89999 ≤ x) (h2 : x ≤ 89999) (h3 : -89999 ≤ d) (h4 : d ≤ 89999) : rightB (sR x d) false = true := by
  have n1 : nameB [65, 65, 65] = true := by decide
  have n2 : nameB [66, 66, 66] = true := by decide
  have c1 : changeB ⟨2, 0, 0, 0, 7200⟩ false = true := by decide
  unfold rightB sR kindB
  simp [n1, n2, c1, inB_iff.2 ⟨h1, h2⟩, inB_iff.2 ⟨h3, h4⟩]
theorem sO_right {x : Int} (h1 : -89999 ≤ x) (h2 : x ≤ 89999) : rightB (sO x) false = true := by
  have n1 : nameB [65, 65, 65] = true := by decide
  unfold rightB sO kindB
  simp [n1, inB_iff.2 ⟨h1, h2⟩]
theorem s_all {r : Ru} (h : rightB r false = true) : prE r false = 0 ∧ prT r false = ruleT r := ⟨by unfold prE; rw [h]; rfl, by unfold prT; rw [h]; rfl⟩
theorem s_ch : changeT ⟨2, 0, 0, 0, 7200⟩ = [48] := by
  have : dec 0 = [48] := dec_1 (by decide) (by decide)
  unfold changeT dayT timeT
  simp [this]
theorem s_nm : nameT [66, 66, 66] = [66, 66, 66] := by decide
theorem sR_text (x d : Int) : ruleT (sR x d) = ruleT (sO x) ++ ([66, 66, 66] ++ ((if d = x + 3600 then [] else clockT (-d)) ++ [44, 48, 44, 48])) := by
  unfold ruleT restT sR sO
  simp [s_ch, s_nm]
theorem s_told (x : Int) : tx (ruleT (sO x)) ++ ⟨#[66, 66, 66, 44, 48, 44, 48]⟩ = tx (ruleT (sR x (x + 3600))) := by
  rw [sR_text, if_pos rfl, show (⟨#[66, 66, 66, 44, 48, 44, 48]⟩ : ByteArray) = tx [66, 66, 66, 44, 48, 44, 48] from rfl, tx_append]
  rfl
theorem s_more {x d : Int} (h : d ≠ x + 3600) : (tx (ruleT (sR x (x + 3600)))).size < (tx (ruleT (sR x d))).size := by
  have := clockT_1 (-d)
  rw [tx_size, tx_size, sR_text, sR_text, if_pos rfl, if_neg h]
  simp; omega
theorem tl_ne {a b : ByteArray} (h : a.size < b.size) : (b.toList == a.toList) = false := by
  rw [ByteArray.toList_eq, ByteArray.toList_eq]
  have : b.data.toList ≠ a.data.toList := fun e => by
    have := congrArg List.length e
    simp at this
    have h2 : a.data.size < b.data.size := h
    omega
  simpa using this

set_option maxHeartbeats 8000000 in
set_option maxRecDepth 100000 in
theorem walk (a0 : Int) (a1 : Int) (w0 : (Lit.int .i64 a0).wf = true) (w1 : (Lit.int .i64 a1).wf = true) (w : World) (T : Tabs w) :
    Calls Tryd.prog 12 #[.int .i64 a0, .int .i64 a1] w fun e w' => e = .returned (.bool true) ∧ Up w w' := by
  have SH := Lib.hid (fun w T => shown_any w T)
  have TT := Lib.hid T
  clear T
  obtain ⟨x, hx, x1, x2⟩ : ∃ x : Int, a0.tmod 80001 = x ∧ -80000 ≤ x ∧ x ≤ 80000 := ⟨_, rfl, by have := Int.lt_tmod_of_pos a0 (b := 80001) (by decide); omega, by have := Int.tmod_lt_of_pos a0 (b := 80001) (by decide); omega⟩
  obtain ⟨y, hy, y1, y2⟩ : ∃ y : Int, a1.tmod 80001 = y ∧ -80000 ≤ y ∧ y ≤ 80000 := ⟨_, rfl, by have := Int.lt_tmod_of_pos a1 (b := 80001) (by decide); omega, by have := Int.tmod_lt_of_pos a1 (b := 80001) (by decide); omega⟩
  have q1 := s_all (sO_right (x := x) (by omega) (by omega))
  have q2 := s_all (sR_right (x := x) (d := x + 3600) (by omega) (by omega) (by omega) (by omega))
  have q3 := s_all (sR_right (x := x) (d := y) (by omega) (by omega) (by omega) (by omega))
  have PA : Hid (∀ (w : World) (T : Tabs w), Calls Tryd.prog 15 #[.agg #[.int .i64 x, .bool false, .string ⟨#[65, 65, 65]⟩, .int .i64 0, .bool false, .string ⟨#[]⟩, .bool false, .int .i64 0, .int .i64 0, .int .i64 0, .int .i64 0, .int .i64 0, .int .i64 0, .int .i64 0, .int .i64 0, .int .i64 0, .int .i64 0], .bool false] w fun e w' => e = .returned (.tuple #[.string (tx (ruleT (sO x))), .int .i64 0]) ∧ Up w w') := Lib.hid (fun w T => by
    have := print_any (sO x) false w T (by show (3 : Nat) ≤ maxLen; unfold maxLen; omega) (by show (0 : Nat) ≤ maxLen; omega)
    rw [q1.1, q1.2] at this
    exact this)
  have PB := Lib.hid (fun w T => print_any (sR x (x + 3600)) false w T (by show (3 : Nat) ≤ maxLen; unfold maxLen; omega) (by show (3 : Nat) ≤ maxLen; unfold maxLen; omega))
  rw [q2.1, q2.2] at PB
  have PC := Lib.hid (fun w T => print_any (sR x y) false w T (by show (3 : Nat) ≤ maxLen; unfold maxLen; omega) (by show (3 : Nat) ≤ maxLen; unfold maxLen; omega))
  rw [q3.1, q3.2] at PC
  have E1 := s_told x
  have E2 := @s_more x y
  have za : (tx (ruleT (sO x))).size ≤ 100 := by rw [tx_size]; exact rule_100 (sO_right (x := x) (by omega) (by omega))
  have E3 : y = x + 3600 → sR x (x + 3600) = sR x y := fun h => by rw [h]
  have hRA : Hid (#[.int .i64 x, .bool false, .string ⟨#[65, 65, 65]⟩, .int .i64 (x + 3600), .bool true, .string ⟨#[66, 66, 66]⟩, .bool true, .int .i64 2, .int .i64 0, .int .i64 0, .int .i64 0, .int .i64 7200, .int .i64 2, .int .i64 0, .int .i64 0, .int .i64 0, .int .i64 7200] = rA (sR x (x + 3600))) := Lib.hid rfl
  have HX : Hid (∀ V b T, Bk V b (rA (sR x (x + 3600))) T → Bk (V.setCell ⟨b, 3, none⟩ (.int .i64 y)) b (rA (sR x y)) T) := Lib.hid (fun V b T h => h.set 3 _)
  have ov : ¬ 9223372036854775807 < (tx (ruleT (sO x))).size + 7 := by omega
  have wx : IntKind.i64.wrap (x + 3600) = x + 3600 := IntWalk.i64_in _ (by omega)
  clear q1 q2 q3 za
  go_enter Tryd.func12, Tryd.ntmps12
  go_wp2_with fail
  refine (SH.out _ TT.out).mono ?_; rintro e w1 ⟨rfl, u1⟩
  clear SH
  go_upto_region 6 with (fail)
  obtain ⟨W, hW⟩ : ∃ W, W = (w1.alloc (.cells #[.int .i64 2, .int .i64 0, .int .i64 0, .int .i64 0, .int .i64 7200] 25)).alloc (.cells #[.int .i64 x, .bool false, .string ⟨#[65, 65, 65]⟩, .int .i64 (x + 3600), .bool true, .string ⟨#[66, 66, 66]⟩, .bool true, .int .i64 2, .int .i64 0, .int .i64 0, .int .i64 0, .int .i64 7200, .int .i64 2, .int .i64 0, .int .i64 0, .int .i64 0, .int .i64 7200] 27) := ⟨_, rfl⟩
  rw [← hW]
  rw [hRA.out] at hW
  have B1 : Hid (Bk W (w1.heap.size + 1) (rA (sR x (x + 3600))) 27) := Lib.hid (by rw [hW]; have := Bk.new (w1.alloc (.cells #[.int .i64 2, .int .i64 0, .int .i64 0, .int .i64 0, .int .i64 7200] 25)) (rA (sR x (x + 3600))) 27 (by decide); rw [World.size_alloc] at this; exact this)
  have U1 : Hid (Up w W) := Lib.hid (by rw [hW]; exact (u1.alloc' _).alloc' _)
  have u0 : w.heap.size ≤ w1.heap.size := u1.size
  have c0 : W.cell? ⟨w1.heap.size + 1, 0, none⟩ = some (.int .i64 x) := B1.out.cell 0
  have c1 : W.cell? ⟨w1.heap.size + 1, 1, none⟩ = some (.bool false) := B1.out.cell 1
  have c2 : W.cell? ⟨w1.heap.size + 1, 2, none⟩ = some (.string ⟨#[65, 65, 65]⟩) := B1.out.cell 2
  clear hW u1
  go_wp2_with fail
  refine (PA.out _ (Tabs.up TT.out U1.out)).mono ?_; rintro e w2 ⟨rfl, u1⟩
  have B2 := Lib.hid (B1.out.up u1)
  have U2 := Lib.hid (U1.out.trans u1)
  clear u1 B1 U1 PA c0 c1 c2
  go_upto_region 7 with (fail)
  refine wp_region_lit ?_
  refine wpList_ld rfl 7 (w1.heap.size + 1) (sR x (x + 3600)) _ rfl B2.out rfl ?_
  go_wp2_with fail
  refine (PB.out _ (Tabs.up TT.out U2.out)).mono ?_; rintro e w3 ⟨rfl, u1⟩
  have B3 := Lib.hid (B2.out.up u1)
  have U3 := Lib.hid (U2.out.trans u1)
  clear u1 B2 U2 PB
  have c3 : w3.cell? ⟨w1.heap.size + 1, 3, none⟩ = some (.int .i64 (x + 3600)) := B3.out.cell 3
  have z3 : w3.frozen? ⟨w1.heap.size + 1, 3, none⟩ = false := B3.out.frozen 3
  have B4 := Lib.hid (HX.out w3 _ _ B3.out)
  have U4 : Hid (Up w (w3.setCell ⟨w1.heap.size + 1, 3, none⟩ (.int .i64 y))) := Lib.hid (Up.setCell' U3.out (p := ⟨w1.heap.size + 1, 3, none⟩) (by show w.heap.size ≤ w1.heap.size + 1; have := u0; omega) _)
  clear B3 U3 HX
  go_upto_region 9 with (fail)
  clear c3 z3
  generalize hV : w3.setCell ⟨w1.heap.size + 1, 3, none⟩ (.int .i64 y) = V at *
  clear hV
  refine wp_region_lit ?_
  refine wpList_ld rfl 7 (w1.heap.size + 1) (sR x y) _ rfl B4.out rfl ?_
  go_wp2_with fail
  refine (PC.out _ (Tabs.up TT.out U4.out)).mono ?_; rintro e w5 ⟨rfl, u5⟩
  have U5 := Lib.hid (U4.out.trans u5)
  clear u5 B4 U4 PC
  by_cases c : y = x + 3600
  · subst c
    clear E2 E3
    generalize tx (ruleT (sR x (x + 3600))) = S at *
    generalize tx (ruleT (sO x)) = A at *
    go_wp2_with fail
    go_ret
    exact ⟨ret_b (by simp), U5.out⟩
  · have F2 := tl_ne (E2 c)
    have F3 : ((tx (ruleT (sR x (x + 3600)))).size : Int) < ((tx (ruleT (sR x y))).size : Int) := by have := E2 c; omega
    clear E2 E3
    generalize tx (ruleT (sR x (x + 3600))) = S at *
    generalize tx (ruleT (sO x)) = A at *
    generalize tx (ruleT (sR x y)) = T at *
    go_wp2_with fail
    go_ret
    exact ⟨ret_b (by simp [c]), U5.out⟩

theorem readable : ∀ t ∈ Tryd.f12.params.toList, Tryd.prog.readableRec t = true ∧ t < Tryd.prog.types.size := by
  rw [Tryd.params12]
  intro t ht
  have hall : ([3, 3].all fun u => Tryd.prog.readableRec u && decide (u < Tryd.prog.types.size)) = true := by kernel_rfl
  have := List.all_eq_true.1 hall t (by simpa using ht)
  simpa using this

set_option maxRecDepth 100000 in
theorem lifted (os : Os) (started : os.Started) (H : Type) (enc : TypeId × Value → H) :
    ReturnsInHanded {} Tryd.checked os 12 .any (fun w args => (Rows.posixSavedSpec.pre enc Tryd.prog Tryd.f12 [] false w args ∧ laidMetH Tryd.prog laidE w) ∧ sizedMet enc Tryd.prog Tryd.f12 (OpenSpec.ofChange Rows.posixSavedSpec) false w args) (Rows.posixSavedSpec.post enc Tryd.prog Tryd.f12 false true false false) := by
  refine returnsInHanded_of_change_and (C := Tryd.checked) (X := fun w _ => laidMetH Tryd.prog laidE w) (fun _ _ _ hh h => h.of_heap hh) own started (by kernel_rfl) Tryd.func12
    (ChangeSpec.witness_shaped (enc := enc) (C := Tryd.checked) (os := os) (X := fun w _ => laidMetH Tryd.prog laidE w) false (World.doorLaid Tryd.prog 400 os) #[.int .i64 0, .int .i64 0] 8 rfl (World.shaped_of_RefB (by kernel_rfl) (by kernel_rfl)) (by kernel_rfl) (by kernel_rfl) (by kernel_rfl) (door_metE os _)) ?_
  intro W base args ds gs before hval0 hW _ _ hL _
  have hval : ∀ (j : Nat) t v, Tryd.f12.params[j]? = some t → args[j]? = some v → Value.okWide Tryd.prog W .any base t v := hval0
  have hW' := hW
  obtain ⟨p, q, hA0, hV, rfl, hfz, hnd⟩ := hW
  have hA : DataW.TrodAll enc Tryd.prog W 0 (fun _ => true) true Tryd.f12.params.toList args.toList ds p := hA0
  rw [Tryd.params12] at hA hval
  obtain ⟨v0, vs0, d0, ds0, p0, q0, hargs, rfl, rfl, h0, r0⟩ := trodAll_cons hA
  obtain ⟨v1, vs1, d1, ds1, p1, q1, rfl, rfl, rfl, h1, r1⟩ := trodAll_cons r0
  obtain ⟨rfl, rfl, rfl⟩ := trodAll_nil r1
  obtain rfl : args = #[v0, v1] := by cases args; simp_all
  obtain ⟨rfl, rfl⟩ := trodVars_none hV
  obtain ⟨a0, rfl, rfl, rfl, w0⟩ := open_int Tryd.underlying3 (hval 0 3 v0 rfl rfl) h0
  obtain ⟨a1, rfl, rfl, rfl, w1⟩ := open_int Tryd.underlying3 (hval 1 3 v1 rfl rfl) h1
  clear hA0 hval0
  refine (walk a0 a1 w0 w1 W (tabs_of_laid hL)).mono fun e W' ⟨he, hg⟩ => ?_
  subst he
  exact ⟨_, rfl, post_up laidOut readable rfl hW' (fun _ _ _ => (trodAll_cons_mk (shut_bool Tryd.underlying4 _) trodAll_mk0)) rfl rfl
    hg (ok_one (by kernel_rfl) rfl (okWide_bool_mk Tryd.underlying4 _))⟩

theorem over : Rows.posixSavedRow.holds Tryd.pinned (OpenSpec.ofChange Rows.posixSavedSpec) :=
  OpenClaim.holds_of_wide 12 Tryd.f12 rfl rfl rfl rfl rfl rfl rfl ⟨rfl, rfl, rfl, rfl, rfl⟩ rfl rfl rfl rfl rfl (by kernel_rfl) Tryd.func12 (by kernel_rfl)
    (of_decide_eq_true (by kernel_rfl)) (by unfold Func.isWrapper; first | (rw [if_pos (by decide +kernel)]; kernel_rfl) | (rw [if_neg (by decide +kernel)]; exact ⟨rfl, rfl⟩))
    (fun os started H enc _ => lifted os started H enc)

set_option maxRecDepth 100000 in
theorem proved : Rows.PosixSavedCardSaid :=
  Claim7.holds_tied_plain_at .later [] [.data, .data, .data] true _ true
    over (fun _ h => by cases h) (by kernel_rfl) (fun _ h => by cases h) posixSaved_row_tie rfl ⟨rfl, rfl⟩ (by kernel_rfl) rfl
    (fun f fn hf hfn => by
      obtain rfl : f = 12 := Option.some.inj ((show Tryd.prog.funcNamed "longcase/longcaselaw08.PosixSaved" = some 12 by kernel_rfl).symm.trans hf) |>.symm
      obtain rfl : fn = Tryd.f12 := (Option.some.inj (Tryd.func12.symm.trans hfn)).symm
      exact ⟨by kernel_rfl, fun j t ht => by
        rw [Tryd.params12] at ht
        have hm : t ∈ [3, 3] := by simpa using Array.mem_of_getElem? ht
        have hall : ([3, 3].all fun u => !Tryd.prog.wantsStandIn u) = true := by kernel_rfl
        exact (show Tryd.prog.wantsStandIn t = false by simpa using List.all_eq_true.1 hall t hm)⟩)
    (by kernel_rfl)
end Go.Proofs.YtalpbbgkallohaaDoor.posixSaved
