/-
  RuleAlways is proved: for every offset and second the statement answers true: a rule of one kind is in it always; one whose start and end are at one moment each year is in Dst always. Conditions: the tied card's own (the listed variable, the lengths of months, as the text of the program lays it).
-/
import Derived.Test.YtbneokgeochinaaDoorLcShown9
import Derived.Test.YtbneokgeochinaaDoorLcPs8
import Derived.Test.YtbneokgeochinaaDoorLcRy5
import Derived.Test.YtbneokgeochinaaDoorLcDa
import Derived.Test.YtbneokgeochinaaDoorTie
import Derived.Test.YtbneokgeochinaaDoorCards
import Derived.WalkKit
import Derived.ProofKit
import Derived.OpenShut
import Derived.LaidMore
import Derived.Stop.Joined
import Derived.SevenTiedAt
namespace Go.Proofs.YtbneokgeochinaaDoor.ruleAlways
open Go.ChangeShapes Go.WideShapes Go.ChangeAt Go.RowKit Lc
set_option linter.unusedVariables false

theorem own : ownKnob Tryd.prog.godebug = none := by kernel_rfl

/-- The rule of one kind. -/
def onR (off : Int) : Ru := ⟨⟨off, false, [65, 65, 65]⟩, kd0, false, ch0, ch0⟩
theorem on_at {off : Int} (t : Int) (h1 : -80000 < off) (h2 : off < 80000) : AtS (onR off) t (onR off).std 0 := by
  refine .inr (.inl ⟨?_, rfl, rfl, rfl⟩)
  have a1 : nameB [65, 65, 65] = true := by decide
  unfold rightB kindB onR inB
  simp only [a1]
  have h3 : (-89999 : Int) ≤ off := by omega
  have h4 : off ≤ 89999 := by omega
  simp [h3, h4]
theorem al_at {off t : Int} (h1 : -80000 < off) (h2 : off < 80000) (t1 : -30000000000 < t) (t2 : t < 30000000000) : AtS (alR off) t (alR off).dst 0 := by
  have b1 : ny (-2147483648) ≤ t / 86400 := by rw [ny_first]; omega
  have b2 : t / 86400 < ny 2147483648 := by rw [ny_last]; omega
  obtain ⟨y, m, d, hd, hn⟩ := date_ex (t / 86400) b1 b2
  obtain ⟨y1, y2⟩ := day_year hd
  rw [hn] at y1 y2
  have c1 : -2147480000 ≤ y := by
    by_cases c : -2147480000 ≤ y
    · exact c
    · exfalso
      have := ny_le (show y + 1 ≤ -2147480000 by omega)
      have e : ny (-2147480000) = -784351683420 - 0 + (ny (-2147480000) + 784351683420) := by omega
      have : ny (-2147480000) ≤ -784351000000 := by decide
      omega
  have c2 : y ≤ 2147480000 := by
    by_cases c : y ≤ 2147480000
    · exact c
    · exfalso
      have := ny_le (show (2147480000 : Int) ≤ y by omega)
      have : 784350000000 ≤ ny 2147480000 := by decide
      omega
  refine .inr (.inr (.inr ⟨al_right h1 h2, rfl, y, m, d, hd, hn, ?_, rfl⟩))
  rw [always_in h1 h2 c1 c2 (by omega) (by omega)]
  rfl

set_option maxHeartbeats 4000000 in
set_option maxRecDepth 100000 in
theorem walk (a0 : Int) (a1 : Int) (w0 : (Lit.int .i64 a0).wf = true) (w1 : (Lit.int .i64 a1).wf = true) (w : World) (T : Tab w) :
    Calls Tryd.prog 6 #[.int .i64 a0, .int .i64 a1] w fun e w' => e = .returned (.bool true) ∧ Up w w' := by
  have SH := Lib.hid (fun w T => shown_any w T)
  have TT := Lib.hid T
  clear T
  have ft := fit_wf w1
  obtain ⟨o, ho⟩ : ∃ o, a0.tmod 80000 = o := ⟨_, rfl⟩
  have ob := tmod_lt a0 80000 (by decide)
  rw [ho] at ob
  obtain ⟨t, ht⟩ : ∃ t, a1.tmod 30000000000 = t := ⟨_, rfl⟩
  have tb := tmod_lt a1 30000000000 (by decide)
  rw [ht] at tb
  have o1 : -80000 < o ∧ o < 80000 := by omega
  have t1 : -30000000000 < t ∧ t < 30000000000 := by omega
  have A1 := Lib.hid (fun w T => at_of (on_at a1 o1.1 o1.2) w T (by show 3 ≤ maxLen; decide) (by show 0 ≤ maxLen; decide) ft)
  have A2 := Lib.hid (fun w T => at_of (al_at o1.1 o1.2 t1.1 t1.2) w T (by show 3 ≤ maxLen; decide) (by show 3 ≤ maxLen; decide) (fitB_true.2 (by omega)))
  have x1 : IntKind.i64.wrap (o + 3600) = o + 3600 := IntWalk.i64_in _ (by omega)
  have QE : ∀ w, (binOp .eql 23 (.agg #[.int .i64 o, .bool false, .string ⟨#[65, 65, 65]⟩]) (.agg #[.int .i64 o, .bool false, .string ⟨#[65, 65, 65]⟩])).run Tryd.prog w = .ok (.bool true) w := fun w => by have := kd_eql ⟨o, false, [65, 65, 65]⟩ ⟨o, false, [65, 65, 65]⟩ w; rw [decide_eq_true rfl] at this; exact this
  have QF : ∀ w, (binOp .eql 23 (.agg #[.int .i64 (o + 3600), .bool true, .string ⟨#[66, 66, 66]⟩]) (.agg #[.int .i64 (o + 3600), .bool true, .string ⟨#[66, 66, 66]⟩])).run Tryd.prog w = .ok (.bool true) w := fun w => by have := kd_eql ⟨o + 3600, true, [66, 66, 66]⟩ ⟨o + 3600, true, [66, 66, 66]⟩ w; rw [decide_eq_true rfl] at this; exact this
  have r1 : rA (onR o) = #[.int .i64 o, .bool false, .string ⟨#[65, 65, 65]⟩, .int .i64 0, .bool false, .string ⟨#[]⟩, .bool false, .int .i64 0, .int .i64 0, .int .i64 0, .int .i64 0, .int .i64 0, .int .i64 0, .int .i64 0, .int .i64 0, .int .i64 0, .int .i64 0] := rfl
  have r2 : rA (alR o) = #[.int .i64 o, .bool false, .string ⟨#[65, 65, 65]⟩, .int .i64 (o + 3600), .bool true, .string ⟨#[66, 66, 66]⟩, .bool true, .int .i64 2, .int .i64 0, .int .i64 0, .int .i64 0, .int .i64 0, .int .i64 1, .int .i64 365, .int .i64 0, .int .i64 0, .int .i64 90000] := rfl
  have A1 : Hid (∀ w, Tab w → Calls Tryd.prog 16 #[.agg (rA (onR o)), .int .i64 a1] w fun e w' => e = .returned (.tuple #[.agg #[.int .i64 o, .bool false, .string ⟨#[65, 65, 65]⟩], .int .i64 0]) ∧ Up w w') := A1
  have A2 : Hid (∀ w, Tab w → Calls Tryd.prog 16 #[.agg (rA (alR o)), .int .i64 t] w fun e w' => e = .returned (.tuple #[.agg #[.int .i64 (o + 3600), .bool true, .string ⟨#[66, 66, 66]⟩], .int .i64 0]) ∧ Up w w') := A2
  clear ob tb o1 t1
  have R1 := Lib.hid r1
  have R2 := Lib.hid r2
  clear r1 r2
  go_enter Tryd.func6, Tryd.ntmps6
  go_wp2_with fail
  refine (SH.out _ TT.out).mono ?_; rintro e w1 ⟨rfl, u1⟩
  have B1 := Lib.hid (Bk.new w1 (rA (onR o)) 27 (by decide))
  have U1 := Lib.hid (u1.trans (Up.alloc w1 (.cells (rA (onR o)) 27)))
  clear u1 SH
  go_upto_region 4 with (fail)
  rw [← R1.out]
  generalize w1.alloc _ = W1 at *
  refine wp_region_lit ?_
  refine wpList_ld rfl 6 w1.heap.size (onR o) _ rfl B1.out rfl ?_
  go_wp2_with fail
  refine (A1.out _ (Tab.up TT.out U1.out)).mono ?_; rintro e w2 ⟨rfl, u2⟩
  have KB := Bk.new w2 #[.int .i64 o, .bool false, .string ⟨#[65, 65, 65]⟩] 23 (by decide)
  have u2' := u2.trans (Up.alloc w2 (.cells #[.int .i64 o, .bool false, .string ⟨#[65, 65, 65]⟩] 23))
  have B2 := Lib.hid (B1.out.up u2')
  have U2 := Lib.hid (U1.out.trans u2')
  have K2 := Lib.hid KB
  clear u2 u2' KB B1 U1 A1
  go_upto_region 5 with (fail)
  generalize w2.alloc _ = W2 at *
  have q0 : W2.cell? ⟨w1.heap.size, 0, none⟩ = some (.int .i64 o) := B2.out.cell 0
  have q1 : W2.cell? ⟨w1.heap.size, 1, none⟩ = some (.bool false) := B2.out.cell 1
  have q2 : W2.cell? ⟨w1.heap.size, 2, none⟩ = some (.string ⟨#[65, 65, 65]⟩) := B2.out.cell 2
  have C3 := Lib.hid (Bk.new W2 (rA (alR o)) 27 (by decide))
  have u3 := Up.alloc W2 (.cells (rA (alR o)) 27)
  have B3 := Lib.hid (B2.out.up u3)
  have K3 := Lib.hid (K2.out.up u3)
  have U3 := Lib.hid (U2.out.trans u3)
  go_upto_region 7 with (fail)
  clear q0 q1 q2 u3 B2 K2 U2
  rw [← R2.out]
  generalize W2.alloc _ = W3 at *
  refine wp_region_lit ?_
  refine wpList_ld rfl 9 W2.heap.size (alR o) _ rfl C3.out rfl ?_
  go_wp2_with fail
  refine (A2.out _ (Tab.up TT.out U3.out)).mono ?_; rintro e w4 ⟨rfl, u4⟩
  have KB := Bk.new w4 #[.int .i64 (o + 3600), .bool true, .string ⟨#[66, 66, 66]⟩] 23 (by decide)
  have u4' := u4.trans (Up.alloc w4 (.cells #[.int .i64 (o + 3600), .bool true, .string ⟨#[66, 66, 66]⟩] 23))
  have B4 := Lib.hid (B3.out.up u4')
  have C4 := Lib.hid (C3.out.up u4')
  have K4 := Lib.hid (K3.out.up u4')
  have U4 := Lib.hid (U3.out.trans u4')
  have K5 := Lib.hid KB
  clear u4 u4' KB B3 C3 K3 U3 A2
  go_upto_region 8 with (fail)
  generalize w4.alloc _ = W4 at *
  have p0 : W4.cell? ⟨w1.heap.size, 0, none⟩ = some (.int .i64 o) := B4.out.cell 0
  have q0 : W4.cell? ⟨w2.heap.size, 0, none⟩ = some (.int .i64 o) := K4.out.cell 0
  have p1 : W4.cell? ⟨w1.heap.size, 1, none⟩ = some (.bool false) := B4.out.cell 1
  have q1 : W4.cell? ⟨w2.heap.size, 1, none⟩ = some (.bool false) := K4.out.cell 1
  have p2 : W4.cell? ⟨w1.heap.size, 2, none⟩ = some (.string ⟨#[65, 65, 65]⟩) := B4.out.cell 2
  have q2 : W4.cell? ⟨w2.heap.size, 2, none⟩ = some (.string ⟨#[65, 65, 65]⟩) := K4.out.cell 2
  have s0 : W4.cell? ⟨W2.heap.size, 3, none⟩ = some (.int .i64 (o + 3600)) := C4.out.cell 3
  have t0 : W4.cell? ⟨w4.heap.size, 0, none⟩ = some (.int .i64 (o + 3600)) := K5.out.cell 0
  have s1 : W4.cell? ⟨W2.heap.size, 4, none⟩ = some (.bool true) := C4.out.cell 4
  have t1 : W4.cell? ⟨w4.heap.size, 1, none⟩ = some (.bool true) := K5.out.cell 1
  have s2 : W4.cell? ⟨W2.heap.size, 5, none⟩ = some (.string ⟨#[66, 66, 66]⟩) := C4.out.cell 5
  have t2 : W4.cell? ⟨w4.heap.size, 2, none⟩ = some (.string ⟨#[66, 66, 66]⟩) := K5.out.cell 2
  go_wp2_with fail
  go_ret
  exact ⟨ret_b (by simp), U4.out⟩

theorem readable : ∀ t ∈ Tryd.f6.params.toList, Tryd.prog.readableRec t = true ∧ t < Tryd.prog.types.size := by
  rw [Tryd.params6]
  intro t ht
  have hall : ([3, 2].all fun u => Tryd.prog.readableRec u && decide (u < Tryd.prog.types.size)) = true := by kernel_rfl
  have := List.all_eq_true.1 hall t (by simpa using ht)
  simpa using this

set_option maxRecDepth 100000 in
theorem lifted (os : Os) (started : os.Started) (H : Type) (enc : TypeId × Value → H) :
    ReturnsInHanded {} Tryd.checked os 6 .any (fun w args => (Rows.ruleAlwaysSpec.pre enc Tryd.prog Tryd.f6 [] false w args ∧ laidMetH Tryd.prog laidC w) ∧ sizedMet enc Tryd.prog Tryd.f6 (OpenSpec.ofChange Rows.ruleAlwaysSpec) false w args) (Rows.ruleAlwaysSpec.post enc Tryd.prog Tryd.f6 false true false false) := by
  refine returnsInHanded_of_change_and (C := Tryd.checked) (X := fun w _ => laidMetH Tryd.prog laidC w) (fun _ _ _ hh h => h.of_heap hh) own started (by kernel_rfl) Tryd.func6
    (ChangeSpec.witness_shaped (enc := enc) (C := Tryd.checked) (os := os) (X := fun w _ => laidMetH Tryd.prog laidC w) false (World.doorLaid Tryd.prog 400 os) #[.int .i64 0, .int .i64 0] 8 rfl (World.shaped_of_RefB (by kernel_rfl) (by kernel_rfl)) (by kernel_rfl) (by kernel_rfl) (by kernel_rfl) (door_met os _)) ?_
  intro W base args ds gs before hval0 hW _ _ hL _
  have hval : ∀ (j : Nat) t v, Tryd.f6.params[j]? = some t → args[j]? = some v → Value.okWide Tryd.prog W .any base t v := hval0
  have hW' := hW
  obtain ⟨p, q, hA0, hV, rfl, hfz, hnd⟩ := hW
  have hA : DataW.TrodAll enc Tryd.prog W 0 (fun _ => true) true Tryd.f6.params.toList args.toList ds p := hA0
  rw [Tryd.params6] at hA hval
  obtain ⟨v0, vs0, d0, ds0, p0, q0, hargs, rfl, rfl, h0, r0⟩ := trodAll_cons hA
  obtain ⟨v1, vs1, d1, ds1, p1, q1, rfl, rfl, rfl, h1, r1⟩ := trodAll_cons r0
  obtain ⟨rfl, rfl, rfl⟩ := trodAll_nil r1
  obtain rfl : args = #[v0, v1] := by cases args; simp_all
  obtain ⟨rfl, rfl⟩ := trodVars_none hV
  obtain ⟨a0, rfl, rfl, rfl, w0⟩ := open_int Tryd.underlying3 (hval 0 3 v0 rfl rfl) h0
  obtain ⟨a1, rfl, rfl, rfl, w1⟩ := open_int Tryd.underlying2 (hval 1 2 v1 rfl rfl) h1
  clear hA0 hval0
  refine (walk a0 a1 w0 w1 W (tab_of_laid hL)).mono fun e W' ⟨he, hg⟩ => ?_
  subst he
  exact ⟨_, rfl, post_up laidOut readable rfl hW' (fun _ _ _ => (trodAll_cons_mk (shut_bool Tryd.underlying4 _) trodAll_mk0)) rfl rfl
    hg (ok_one (by kernel_rfl) rfl (okWide_bool_mk Tryd.underlying4 _))⟩

theorem over : Rows.ruleAlwaysRow.holds Tryd.pinned (OpenSpec.ofChange Rows.ruleAlwaysSpec) :=
  OpenClaim.holds_of_wide 6 Tryd.f6 rfl rfl rfl rfl rfl rfl rfl ⟨rfl, rfl, rfl, rfl, rfl⟩ rfl rfl rfl rfl rfl (by kernel_rfl) Tryd.func6 (by kernel_rfl)
    (of_decide_eq_true (by kernel_rfl)) (by unfold Func.isWrapper; first | (rw [if_pos (by decide +kernel)]; kernel_rfl) | (rw [if_neg (by decide +kernel)]; exact ⟨rfl, rfl⟩))
    (fun os started H enc _ => lifted os started H enc)

set_option maxRecDepth 100000 in
theorem proved : Rows.RuleAlwaysCardSaid :=
  Claim7.holds_tied_plain_at .later [] [.data] true _ false
    over (fun _ h => by cases h) (by kernel_rfl) (fun _ h => by cases h) ruleAlways_row_tie rfl ⟨rfl, rfl⟩ (by kernel_rfl) rfl
    (fun f fn hf hfn => by
      obtain rfl : f = 6 := Option.some.inj ((show Tryd.prog.funcNamed "longcase/longcaselaw09.RuleAlways" = some 6 by kernel_rfl).symm.trans hf) |>.symm
      obtain rfl : fn = Tryd.f6 := (Option.some.inj (Tryd.func6.symm.trans hfn)).symm
      exact ⟨by kernel_rfl, fun j t ht => by
        rw [Tryd.params6] at ht
        have hm : t ∈ [3, 2] := by simpa using Array.mem_of_getElem? ht
        have hall : ([3, 2].all fun u => !Tryd.prog.wantsStandIn u) = true := by kernel_rfl
        exact (show Tryd.prog.wantsStandIn t = false by simpa using List.all_eq_true.1 hall t hm)⟩)
    (by kernel_rfl)
end Go.Proofs.YtbneokgeochinaaDoor.ruleAlways
