/-
  CivilLeaps (longcaselaw02): for every input it answers true, and its arguments read as before; the lengths of months as the program lays them. No condition.
-/
import Derived.Test.YtpnjdlfiimhpoaaDoorLcShown2
import Derived.Test.YtpnjdlfiimhpoaaDoorTie
import Derived.Test.YtpnjdlfiimhpoaaDoorCards
import Derived.WalkKit
import Derived.ProofKit
import Derived.OpenShut
import Derived.LaidMore
import Derived.Stop.Joined
import Derived.SevenTiedAt
namespace Go.Proofs.YtpnjdlfiimhpoaaDoor.civilLeaps
open Go.ChangeShapes Go.WideShapes Go.ChangeAt Go.RowKit Lc
set_option linter.unusedVariables false

theorem own : ownKnob Tryd.prog.godebug = none := by kernel_rfl

theorem r28 {y : Int} (h1 : -2147483648 ≤ y) (h2 : y ≤ 2147483647) : rightB y 2 28 = true := right_true.2 ⟨h1, h2, by omega, by have := len_pos y (m := 2) (by omega) (by omega); omega⟩
theorem r1 {y : Int} (h1 : -2147483648 ≤ y) (h2 : y ≤ 2147483647) : rightB y 3 1 = true := right_true.2 ⟨h1, h2, by omega, by have := len_pos y (m := 3) (by omega) (by omega); omega⟩
theorem r29 {y : Int} (h1 : -2147483648 ≤ y) (h2 : y ≤ 2147483647) : rightB y 2 29 = leapB y := by
  cases l : leapB y
  · exact right_false.2 (by simp [lenI, lp_false l])
  · exact right_true.2 ⟨h1, h2, by omega, by simp [lenI, lp_true l]⟩
theorem d_diff (y : Int) : dayI y 3 1 = dayI y 2 28 + (1 + lp y) := by unfold dayI ydI; simp [cum]; omega
theorem d_bd {y m d : Int} (h : rightB y m d = true) : -1000000000000 ≤ dayI y m d ∧ dayI y m d ≤ 1000000000000 := by
  have := day_range h; have := date_bd; omega
theorem l28 {y : Int} (h : leapB y = false) : lenI y 2 = 28 := by simp [lenI, lp_false h]
theorem l29 {y : Int} (h : leapB y = true) : lenI y 2 = 29 := by simp [lenI, lp_true h]

set_option maxHeartbeats 1000000 in
theorem walk (a0 : Int) (w0 : (Lit.int .i32 a0).wf = true) (w : World) (T : Tab w) :
    Calls Tryd.prog 10 #[.int .i32 a0] w fun e w' => e = .returned (.bool true) ∧ Grown w w' := by
  obtain ⟨y1, y2⟩ := bounds_i32 w0
  have t := Lib.hid T; clear T
  have q28 := r28 y1 y2; have q1 := r1 y1 y2; have q29 := r29 y1 y2
  obtain ⟨b1, b2⟩ := d_bd q28
  have D28 : ∀ w, Tab w → _ := fun w T => days_yes a0 2 28 w T q28
  have D1 : ∀ w, Tab w → _ := fun w T => days_yes a0 3 1 w T q1
  rw [d_diff] at D1
  have LP := fun w => leap_any a0 w
  have RT : ∀ w, Tab w → _ := fun w T => right_any a0 2 29 w T
  have LN : ∀ w, Tab w → _ := fun w T => length_any a0 2 w T
  rw [q29] at RT
  cases l : leapB a0
  · rw [l] at LP RT q29
    rw [l28 l] at LN
    rw [lp_false l] at D1
    have DX : ∀ w, Tab w → _ := fun w T => days_no a0 2 29 w T q29
    clear l q28 q1 q29
    generalize dayI a0 2 28 = A at *
    have d : (A + 1 - A == 2) = false := by rw [show A + 1 - A = 1 by omega]; rfl
    go_enter Tryd.func10, Tryd.ntmps10
    go_wp2_with fail
    refine (shown_any _ t.out).mono ?_; rintro e w' ⟨rfl, n1, rfl⟩
    go_wp2_with fail
    refine (DX _ (t.out.drewN _)).mono ?_; rintro e w' ⟨rfl, rfl⟩
    go_wp2_with fail
    refine (D28 _ (t.out.drewN _)).mono ?_; rintro e w' ⟨rfl, n2, rfl⟩
    go_wp2_with fail
    refine (D1 _ (t.out.drewN _)).mono ?_; rintro e w' ⟨rfl, n3, rfl⟩
    go_wp2_with fail
    refine (LP _).mono ?_; rintro e w' ⟨rfl, rfl⟩
    go_wp2_with fail
    refine (RT _ (t.out.drewN _)).mono ?_; rintro e w' ⟨rfl, rfl⟩
    go_wp2_with fail
    refine (LN _ (t.out.drewN _)).mono ?_; rintro e w' ⟨rfl, rfl⟩
    go_wp2_with fail
    go_ret
    exact ⟨rfl, (Dr.drewN _ _).grown⟩
  · rw [l] at LP RT q29
    rw [l29 l] at LN
    rw [lp_true l] at D1
    have DX : ∀ w, Tab w → _ := fun w T => days_yes a0 2 29 w T q29
    clear l q28 q1 q29
    generalize dayI a0 2 28 = A at *
    have d : (A + 2 - A == 2) = true := by rw [show A + 2 - A = 2 by omega]; rfl
    go_enter Tryd.func10, Tryd.ntmps10
    go_wp2_with fail
    refine (shown_any _ t.out).mono ?_; rintro e w' ⟨rfl, n1, rfl⟩
    go_wp2_with fail
    refine (DX _ (t.out.drewN _)).mono ?_; rintro e w' ⟨rfl, n0, rfl⟩
    go_wp2_with fail
    refine (D28 _ (t.out.drewN _)).mono ?_; rintro e w' ⟨rfl, n2, rfl⟩
    go_wp2_with fail
    refine (D1 _ (t.out.drewN _)).mono ?_; rintro e w' ⟨rfl, n3, rfl⟩
    go_wp2_with fail
    refine (LP _).mono ?_; rintro e w' ⟨rfl, rfl⟩
    go_wp2_with fail
    refine (RT _ (t.out.drewN _)).mono ?_; rintro e w' ⟨rfl, rfl⟩
    go_wp2_with fail
    refine (LN _ (t.out.drewN _)).mono ?_; rintro e w' ⟨rfl, rfl⟩
    go_wp2_with fail
    go_ret
    exact ⟨rfl, (Dr.drewN _ _).grown⟩

set_option maxRecDepth 100000 in
theorem lifted (os : Os) (started : os.Started) (H : Type) (enc : TypeId × Value → H) :
    ReturnsInHanded {} Tryd.checked os 10 .any (fun w args => (Rows.civilLeapsSpec.pre enc Tryd.prog Tryd.f10 [] false w args ∧ laidMetH Tryd.prog laidC w) ∧ sizedMet enc Tryd.prog Tryd.f10 (OpenSpec.ofChange Rows.civilLeapsSpec) false w args) (Rows.civilLeapsSpec.post enc Tryd.prog Tryd.f10 false true false false) := by
  refine returnsInHanded_of_change_and (C := Tryd.checked) (X := fun w _ => laidMetH Tryd.prog laidC w) (fun _ _ _ hh h => h.of_heap hh) own started (by kernel_rfl) Tryd.func10
    (ChangeSpec.witness_shaped (enc := enc) (C := Tryd.checked) (os := os) (X := fun w _ => laidMetH Tryd.prog laidC w) false (World.doorLaid Tryd.prog 400 os) #[.int .i32 0] 8 rfl (World.shaped_of_RefB (by kernel_rfl) (by kernel_rfl)) (by kernel_rfl) (by kernel_rfl) (by kernel_rfl) (door_met os _)) ?_
  intro W base args ds gs before hval0 hW _ _ hL _
  have hval : ∀ (j : Nat) t v, Tryd.f10.params[j]? = some t → args[j]? = some v → Value.okWide Tryd.prog W .any base t v := hval0
  have hW' := hW
  obtain ⟨p, q, hA0, hV, rfl, hfz, hnd⟩ := hW
  have hA : DataW.TrodAll enc Tryd.prog W 0 (fun _ => true) true Tryd.f10.params.toList args.toList ds p := hA0
  rw [Tryd.params10] at hA hval
  obtain ⟨v0, vs0, d0, ds0, p0, q0, hargs, rfl, rfl, h0, r0⟩ := trodAll_cons hA
  obtain ⟨rfl, rfl, rfl⟩ := trodAll_nil r0
  obtain rfl : args = #[v0] := by cases args; simp_all
  obtain ⟨rfl, rfl⟩ := trodVars_none hV
  obtain ⟨a0, rfl, rfl, rfl, w0⟩ := open_int Tryd.underlying21 (hval 0 21 v0 rfl rfl) h0
  clear hA0 hval0
  simp only [List.append_nil] at hW'
  refine (walk a0 w0 W (tab_of_laid hL)).mono fun e W' ⟨he, hg⟩ => ?_
  subst he
  exact ⟨_, rfl, post_of_same (pa := []) (pv := []) hW' (fun _ _ _ => (trodAll_cons_mk (shut_bool Tryd.underlying4 _) trodAll_mk0)) (fun sp _ => (trodAll_cons_mk (shut_int Tryd.underlying21 w0) trodAll_mk0)) (fun _ _ => rfl) rfl
    (hg.frame _) hg.2.1 (ok_one (by kernel_rfl) rfl (okWide_bool_mk Tryd.underlying4 _))⟩

theorem over : Rows.civilLeapsRow.holds Tryd.pinned (OpenSpec.ofChange Rows.civilLeapsSpec) :=
  OpenClaim.holds_of_wide 10 Tryd.f10 rfl rfl rfl rfl rfl rfl rfl ⟨rfl, rfl, rfl, rfl, rfl⟩ rfl rfl rfl rfl rfl (by kernel_rfl) Tryd.func10 (by kernel_rfl)
    (of_decide_eq_true (by kernel_rfl)) (by unfold Func.isWrapper; first | (rw [if_pos (by decide +kernel)]; kernel_rfl) | (rw [if_neg (by decide +kernel)]; exact ⟨rfl, rfl⟩))
    (fun os started H enc _ => lifted os started H enc)

set_option maxRecDepth 100000 in
theorem proved : Rows.CivilLeapsCardSaid :=
  Claim7.holds_tied_plain_at .later [] [.data] true _ false
    over (fun _ h => by cases h) (by kernel_rfl) (fun _ h => by cases h) civilLeaps_row_tie rfl ⟨rfl, rfl⟩ (by kernel_rfl) rfl
    (fun f fn hf hfn => by
      obtain rfl : f = 10 := Option.some.inj ((show Tryd.prog.funcNamed "longcase/longcaselaw02.CivilLeaps" = some 10 by kernel_rfl).symm.trans hf) |>.symm
      obtain rfl : fn = Tryd.f10 := (Option.some.inj (Tryd.func10.symm.trans hfn)).symm
      exact ⟨by kernel_rfl, fun j t ht => by
        rw [Tryd.params10] at ht
        have hm : t ∈ [21] := by simpa using Array.mem_of_getElem? ht
        have hall : ([21].all fun u => !Tryd.prog.wantsStandIn u) = true := by kernel_rfl
        exact (show Tryd.prog.wantsStandIn t = false by simpa using List.all_eq_true.1 hall t hm)⟩)
    (by kernel_rfl)
end Go.Proofs.YtpnjdlfiimhpoaaDoor.civilLeaps
