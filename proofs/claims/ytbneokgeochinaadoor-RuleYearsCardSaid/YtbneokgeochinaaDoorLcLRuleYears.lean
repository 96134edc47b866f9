/-
  RuleYears is proved: for every change and year the statement answers true: a year later a change of the first sorts is 365 days later, or 366. Conditions: the tied card's own (the listed variable, the lengths of months, as the text of the program lays it).
-/
import Derived.Test.YtbneokgeochinaaDoorLcShown9
import Derived.Test.YtbneokgeochinaaDoorLcPs8
import Derived.Test.YtbneokgeochinaaDoorLcOpC
import Derived.Test.YtbneokgeochinaaDoorTie
import Derived.Test.YtbneokgeochinaaDoorCards
import Derived.WalkKit
import Derived.ProofKit
import Derived.OpenShut
import Derived.LaidMore
import Derived.Stop.Joined
import Derived.SevenTiedAt
namespace Go.Proofs.YtbneokgeochinaaDoor.ruleYears
open Go.ChangeShapes Go.WideShapes Go.ChangeAt Go.RowKit Lc
set_option linter.unusedVariables false

theorem own : ownKnob Tryd.prog.godebug = none := by kernel_rfl

theorem years_step (y : Int) {c : Ch} (h : changeB c true = true) (h3 : c.how ≠ 3) : dayC (y + 1) c - dayC y c = 365 ∨ dayC (y + 1) c - dayC y c = 366 := by
  have a := ny_succ y
  have l0 := lp_cases y
  have l1 := lp_cases (y + 1)
  unfold changeB at h
  rw [Bool.and_eq_true] at h
  have hd := h.1
  unfold dayB at hd
  unfold dayC
  by_cases h1 : c.how = 1
  · rw [if_pos h1, if_pos h1]
    have g : ∀ z, (if leapB z = true ∧ 59 < c.n then (1 : Int) else 0) = if 59 < c.n then lp z else 0 := fun z => by
      by_cases q : leapB z = true
      · simp [q, lp_true q]
      · rw [if_neg (fun k => q k.1)]
        rw [Bool.not_eq_true] at q
        rw [lp_false q]; split <;> rfl
    rw [g, g]
    split <;> omega
  · rw [if_neg h1, if_neg h1]
    rw [if_neg h1] at hd
    by_cases h2 : c.how = 2
    · rw [if_pos h2, if_pos h2]; omega
    · rw [if_neg h2] at hd
      rw [if_neg h3] at hd
      cases hd
theorem tmod_4001 (a : Int) : -4000 ≤ a.tmod 4001 ∧ a.tmod 4001 ≤ 4000 := by
  have h := tmod_lt a 4001 (by decide)
  omega
theorem okY_near {y : Int} (c : Ch) (h1 : -5000 ≤ y) (h2 : y ≤ 5000) : okY y c = changeB c true := by
  have : yrB y = true := by unfold yrB inB; simp; omega
  unfold okY; rw [this, Bool.and_true]
theorem dayC_near {y : Int} {c : Ch} (h : changeB c true = true) (h1 : -5000 ≤ y) (h2 : y ≤ 5000) : -784353015833 ≤ dayC y c ∧ dayC y c ≤ 784351576777 := by
  have a := dayC_bd (y := y) h
  have b := ny_rng (y := y) (by omega) (by omega)
  omega

set_option maxHeartbeats 4000000 in
set_option maxRecDepth 100000 in
theorem walk (x0 : Ch) (a1 : Int) (fh0 : fitB x0.how = true) (fn0 : fitB x0.n = true) (fk0 : fitB x0.wk = true) (fw0 : fitB x0.wd = true) (fm0 : fitB x0.tm = true) (w1 : (Lit.int .i64 a1).wf = true) (w : World) (T : Tab w) :
    Calls Tryd.prog 10 #[.agg (cA x0), .int .i64 a1] w fun e w' => e = .returned (.bool true) ∧ Up w w' := by
  have SH := Lib.hid (fun w T => shown_any w T)
  have B0 := Lib.hid (Bk.new w (cA x0) 25 (by decide))
  have U0 := Lib.hid (Up.alloc w (.cells (cA x0) 25))
  have TT := Lib.hid T
  clear T
  have tb := tmod_4001 a1
  have D1 := Lib.hid (fun w T => day_any (a1.tmod 4001) x0 w T)
  have D2 := Lib.hid (fun w T => day_any (a1.tmod 4001 + 1) x0 w T)
  rw [okY_near x0 (by omega) (by omega)] at D1 D2
  have HD := fun h => years_step (a1.tmod 4001) (c := x0) h
  have HB := fun h => dayC_near (y := a1.tmod 4001) (c := x0) h (by omega) (by omega)
  have HC := fun h => dayC_near (y := a1.tmod 4001 + 1) (c := x0) h (by omega) (by omega)
  generalize dayC (a1.tmod 4001) x0 = v1 at *
  generalize dayC (a1.tmod 4001 + 1) x0 = v2 at *
  obtain ⟨y, hy⟩ : ∃ y, a1.tmod 4001 = y := ⟨_, rfl⟩
  rw [hy] at D1 D2 tb
  generalize changeB x0 true = b at *
  obtain ⟨c0, c1, c2, c3, c4⟩ := x0
  unfold cA at *
  simp only at *
  have H3 : (b = false) ∨ (b = true ∧ (c0 == 3) = true) ∨ (b = true ∧ (c0 == 3) = false ∧ (-784353015833 ≤ v1 ∧ v1 ≤ 784351576777) ∧ (-784353015833 ≤ v2 ∧ v2 ≤ 784351576777) ∧ (v2 - v1 = 365 ∨ v2 - v1 = 366)) := by
    cases b
    · exact .inl rfl
    · by_cases h : c0 = 3
      · exact .inr (.inl ⟨rfl, by simpa using h⟩)
      · exact .inr (.inr ⟨rfl, by simpa using h, HB rfl, HC rfl, HD rfl h⟩)
  clear HD HB HC
  rcases H3 with rfl | ⟨rfl, k3⟩ | ⟨rfl, k3, hb1, hb2, hd | hd⟩
  all_goals
    first | (rw [if_neg (by decide), if_neg (by decide)] at D1 D2; done) | (simp only [if_true] at D1 D2) | (simp only [if_false, Bool.false_eq_true] at D1 D2)
    go_enter Tryd.func10, Tryd.ntmps10
    go_wp2_with fail
    refine (SH.out _ (Tab.up TT.out U0.out)).mono ?_; rintro e w1 ⟨rfl, u1⟩
    have B1 := Lib.hid (B0.out.up u1)
    have U1 := Lib.hid (U0.out.trans u1)
    clear u1 B0 U0 SH
    have k0 : w1.cell? ⟨w.heap.size, 0, none⟩ = some (.int .i64 c0) := B1.out.cell 0
    have k1 : w1.cell? ⟨w.heap.size, 1, none⟩ = some (.int .i64 c1) := B1.out.cell 1
    have k2 : w1.cell? ⟨w.heap.size, 2, none⟩ = some (.int .i64 c2) := B1.out.cell 2
    have k3' : w1.cell? ⟨w.heap.size, 3, none⟩ = some (.int .i64 c3) := B1.out.cell 3
    have k4 : w1.cell? ⟨w.heap.size, 4, none⟩ = some (.int .i64 c4) := B1.out.cell 4
    go_wp2_with fail
    refine (D1.out _ (Tab.up TT.out U1.out)).mono ?_; rintro e w2 ⟨rfl, u1⟩
    clear k0 k1 k2 k3' k4
    have B2 := Lib.hid (B1.out.up u1)
    have U2 := Lib.hid (U1.out.trans u1)
    clear u1 B1 U1 D1
    have k0 : w2.cell? ⟨w.heap.size, 0, none⟩ = some (.int .i64 c0) := B2.out.cell 0
    have k1 : w2.cell? ⟨w.heap.size, 1, none⟩ = some (.int .i64 c1) := B2.out.cell 1
    have k2 : w2.cell? ⟨w.heap.size, 2, none⟩ = some (.int .i64 c2) := B2.out.cell 2
    have k3' : w2.cell? ⟨w.heap.size, 3, none⟩ = some (.int .i64 c3) := B2.out.cell 3
    have k4 : w2.cell? ⟨w.heap.size, 4, none⟩ = some (.int .i64 c4) := B2.out.cell 4
    go_wp2_with fail
    refine (D2.out _ (Tab.up TT.out U2.out)).mono ?_; rintro e w3 ⟨rfl, u1⟩
    clear k0 k1 k2 k3' k4
    have k0 : w3.cell? ⟨w.heap.size, 0, none⟩ = some (.int .i64 c0) := (B2.out.up u1).cell 0
    have U3 := Lib.hid (U2.out.trans u1)
    clear u1 B2 U2 D2
    go_wp2_with fail
    go_ret
    exact ⟨ret_b (by simp), U3.out⟩

theorem readable : ∀ t ∈ Tryd.f10.params.toList, Tryd.prog.readableRec t = true ∧ t < Tryd.prog.types.size := by
  rw [Tryd.params10]
  intro t ht
  have hall : ([25, 3].all fun u => Tryd.prog.readableRec u && decide (u < Tryd.prog.types.size)) = true := by kernel_rfl
  have := List.all_eq_true.1 hall t (by simpa using ht)
  simpa using this

set_option maxRecDepth 100000 in
theorem lifted (os : Os) (started : os.Started) (H : Type) (enc : TypeId × Value → H) :
    ReturnsInHanded {} Tryd.checked os 10 .any (fun w args => (Rows.ruleYearsSpec.pre enc Tryd.prog Tryd.f10 [] false w args ∧ laidMetH Tryd.prog laidC w) ∧ sizedMet enc Tryd.prog Tryd.f10 (OpenSpec.ofChange Rows.ruleYearsSpec) false w args) (Rows.ruleYearsSpec.post enc Tryd.prog Tryd.f10 false true false false) := by
  refine returnsInHanded_of_change_and (C := Tryd.checked) (X := fun w _ => laidMetH Tryd.prog laidC w) (fun _ _ _ hh h => h.of_heap hh) own started (by kernel_rfl) Tryd.func10
    (ChangeSpec.witness_shaped (enc := enc) (C := Tryd.checked) (os := os) (X := fun w _ => laidMetH Tryd.prog laidC w) false (World.doorLaid Tryd.prog 400 os) #[.agg #[.int .i64 0, .int .i64 0, .int .i64 0, .int .i64 0, .int .i64 0], .int .i64 0] 8 rfl (World.shaped_of_RefB (by kernel_rfl) (by kernel_rfl)) (by kernel_rfl) (by kernel_rfl) (by kernel_rfl) (door_met os _)) ?_
  intro W base args ds gs before hval0 hW _ _ hL _
  have hval : ∀ (j : Nat) t v, Tryd.f10.params[j]? = some t → args[j]? = some v → Value.okWide Tryd.prog W .any base t v := hval0
  have hW' := hW
  obtain ⟨p, q, hA0, hV, rfl, hfz, hnd⟩ := hW
  have hA : DataW.TrodAll enc Tryd.prog W 0 (fun _ => true) true Tryd.f10.params.toList args.toList ds p := hA0
  rw [Tryd.params10] at hA hval
  obtain ⟨v0, vs0, d0, ds0, p0, q0, hargs, rfl, rfl, h0, r0⟩ := trodAll_cons hA
  obtain ⟨v1, vs1, d1, ds1, p1, q1, rfl, rfl, rfl, h1, r1⟩ := trodAll_cons r0
  obtain ⟨rfl, rfl, rfl⟩ := trodAll_nil r1
  obtain rfl : args = #[v0, v1] := by cases args; simp_all
  obtain ⟨rfl, rfl⟩ := trodVars_none hV
  obtain ⟨x0, rfl, fh0, fn0, fk0, fw0, fm0⟩ := open_chg (hval 0 25 v0 rfl rfl) h0
  obtain ⟨a1, rfl, rfl, rfl, w1⟩ := open_int Tryd.underlying3 (hval 1 3 v1 rfl rfl) h1
  clear hA0 hval0
  refine (walk x0 a1 fh0 fn0 fk0 fw0 fm0 w1 W (tab_of_laid hL)).mono fun e W' ⟨he, hg⟩ => ?_
  subst he
  exact ⟨_, rfl, post_up laidOut readable rfl hW' (fun _ _ _ => (trodAll_cons_mk (shut_bool Tryd.underlying4 _) trodAll_mk0)) rfl rfl
    hg (ok_one (by kernel_rfl) rfl (okWide_bool_mk Tryd.underlying4 _))⟩

theorem over : Rows.ruleYearsRow.holds Tryd.pinned (OpenSpec.ofChange Rows.ruleYearsSpec) :=
  OpenClaim.holds_of_wide 10 Tryd.f10 rfl rfl rfl rfl rfl rfl rfl ⟨rfl, rfl, rfl, rfl, rfl⟩ rfl rfl rfl rfl rfl (by kernel_rfl) Tryd.func10 (by kernel_rfl)
    (of_decide_eq_true (by kernel_rfl)) (by unfold Func.isWrapper; first | (rw [if_pos (by decide +kernel)]; kernel_rfl) | (rw [if_neg (by decide +kernel)]; exact ⟨rfl, rfl⟩))
    (fun os started H enc _ => lifted os started H enc)

set_option maxRecDepth 100000 in
theorem proved : Rows.RuleYearsCardSaid :=
  Claim7.holds_tied_plain_at .later [] [.data] true _ false
    over (fun _ h => by cases h) (by kernel_rfl) (fun _ h => by cases h) ruleYears_row_tie rfl ⟨rfl, rfl⟩ (by kernel_rfl) rfl
    (fun f fn hf hfn => by
      obtain rfl : f = 10 := Option.some.inj ((show Tryd.prog.funcNamed "longcase/longcaselaw09.RuleYears" = some 10 by kernel_rfl).symm.trans hf) |>.symm
      obtain rfl : fn = Tryd.f10 := (Option.some.inj (Tryd.func10.symm.trans hfn)).symm
      exact ⟨by kernel_rfl, fun j t ht => by
        rw [Tryd.params10] at ht
        have hm : t ∈ [25, 3] := by simpa using Array.mem_of_getElem? ht
        have hall : ([25, 3].all fun u => !Tryd.prog.wantsStandIn u) = true := by kernel_rfl
        exact (show Tryd.prog.wantsStandIn t = false by simpa using List.all_eq_true.1 hall t hm)⟩)
    (by kernel_rfl)
end Go.Proofs.YtbneokgeochinaaDoor.ruleYears
