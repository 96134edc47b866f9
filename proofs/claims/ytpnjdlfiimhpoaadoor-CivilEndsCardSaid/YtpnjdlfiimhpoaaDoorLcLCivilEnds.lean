/-
  CivilEnds (longcaselaw02): for every input it answers true, and its arguments read as before; the lengths of months as the program lays them. No condition.
-/
import Derived.Test.YtpnjdlfiimhpoaaDoorLcShown2
import Derived.Test.YtpnjdlfiimhpoaaDoorTie
import Derived.Test.YtpnjdlfiimhpoaaDoorCards
import Derived.WalkKit
import Derived.ProofKit
import Derived.OpenShut
import Derived.LaidMore
import Derived.Stop.Joined
import Derived.SevenTiedAt
namespace Go.Proofs.YtpnjdlfiimhpoaaDoor.civilEnds
open Go.ChangeShapes Go.WideShapes Go.ChangeAt Go.RowKit Lc
set_option linter.unusedVariables false

theorem own : ownKnob Tryd.prog.godebug = none := by kernel_rfl

theorem first_r : rightB (-2147483648) 1 1 = true := by decide
theorem last_r : rightB 2147483647 12 31 = true := by decide
theorem first_d : dayI (-2147483648) 1 1 = -784353015833 := by decide
theorem last_d : dayI 2147483647 12 31 = 784351576776 := by decide
theorem end_out {n : Int} (h : n < -784353015833 ∨ 784351576777 ≤ n) : n < ny (-2147483648) ∨ ny 2147483648 ≤ n := by rw [ny_first, ny_last]; exact h
theorem end_in {n : Int} (h : -784353015833 ≤ n) (g : n < 784351576777) : ∃ y m d, rightB y m d = true ∧ dayI y m d = n := date_ex n (by rw [ny_first]; exact h) (by rw [ny_last]; exact g)
theorem tmod_bd (n : Int) : -1000000 < n.tmod 1000000 ∧ n.tmod 1000000 < 1000000 := by
  have := tmod_lt n 1000000 (by omega); omega

set_option maxHeartbeats 2000000 in
theorem walk (a0 : Int) (w0 : (Lit.int .i64 a0).wf = true) (w : World) (T : Tab w) :
    Calls Tryd.prog 7 #[.int .i64 a0] w fun e w' => e = .returned (.bool true) ∧ Grown w w' := by
  have t := Lib.hid T; clear T
  have C1 : ∀ w, Tab w → _ := fun w T => days_yes (-2147483648) 1 1 w T first_r
  have C2 : ∀ w, Tab w → _ := fun w T => days_yes 2147483647 12 31 w T last_r
  rw [first_d] at C1
  rw [last_d] at C2
  obtain ⟨b1, b2⟩ := tmod_bd a0
  go_enter Tryd.func7, Tryd.ntmps7
  go_wp2_with fail
  refine (shown_any _ t.out).mono ?_; rintro e w' ⟨rfl, n1, rfl⟩
  go_wp2_with fail
  refine (C1 _ (t.out.drewN _)).mono ?_; rintro e w' ⟨rfl, n2, rfl⟩
  generalize a0.tmod 1000000 = n at *
  go_wp2_with fail
  refine (C2 _ (t.out.drewN _)).mono ?_; rintro e w' ⟨rfl, n3, rfl⟩
  clear C1 C2
  by_cases c : n < 0
  · have DN := fun w => date_no (-784353015833 + n) w (end_out (by omega))
    obtain ⟨y, m, d, hr, hn⟩ := end_in (n := 784351576776 + n) (by omega) (by omega)
    have DY : ∀ w, Tab w → _ := fun w T => date_yes (784351576776 + n) y m d w T hr hn
    clear hr hn
    have k1 : decide (0 ≤ n) = false := by simp; omega
    have k2 : decide (n ≤ 0) = true := by simp; omega
    go_wp2_with fail
    refine (DN _).mono ?_; rintro e w' ⟨rfl, n4, rfl⟩
    go_wp2_with fail
    refine (DY _ (t.out.drewN _)).mono ?_; rintro e w' ⟨rfl, n5, rfl⟩
    go_wp2_with fail
    go_ret
    exact ⟨rfl, (Dr.drewN _ _).grown⟩
  · obtain ⟨y, m, d, hr, hn⟩ := end_in (n := -784353015833 + n) (by omega) (by omega)
    have DY : ∀ w, Tab w → _ := fun w T => date_yes (-784353015833 + n) y m d w T hr hn
    clear hr hn
    have k1 : decide (0 ≤ n) = true := by simp; omega
    by_cases c2 : n = 0
    · subst c2
      obtain ⟨y', m', d', hr, hn⟩ := end_in (n := 784351576776) (by omega) (by omega)
      have DZ : ∀ w, Tab w → _ := fun w T => date_yes 784351576776 y' m' d' w T hr hn
      clear hr hn
      go_wp2_with fail
      refine (DY _ (t.out.drewN _)).mono ?_; rintro e w' ⟨rfl, n4, rfl⟩
      go_wp2_with fail
      refine (DZ _ (t.out.drewN _)).mono ?_; rintro e w' ⟨rfl, n5, rfl⟩
      go_wp2_with fail
      go_ret
      exact ⟨rfl, (Dr.drewN _ _).grown⟩
    · have DN := fun w => date_no (784351576776 + n) w (end_out (by omega))
      have k2 : decide (n ≤ 0) = false := by simp; omega
      go_wp2_with fail
      refine (DY _ (t.out.drewN _)).mono ?_; rintro e w' ⟨rfl, n4, rfl⟩
      go_wp2_with fail
      refine (DN _).mono ?_; rintro e w' ⟨rfl, n5, rfl⟩
      go_wp2_with fail
      go_ret
      exact ⟨rfl, (Dr.drewN _ _).grown⟩

set_option maxRecDepth 100000 in
theorem lifted (os : Os) (started : os.Started) (H : Type) (enc : TypeId × Value → H) :
    ReturnsInHanded {} Tryd.checked os 7 .any (fun w args => (Rows.civilEndsSpec.pre enc Tryd.prog Tryd.f7 [] false w args ∧ laidMetH Tryd.prog laidC w) ∧ sizedMet enc Tryd.prog Tryd.f7 (OpenSpec.ofChange Rows.civilEndsSpec) false w args) (Rows.civilEndsSpec.post enc Tryd.prog Tryd.f7 false true false false) := by
  refine returnsInHanded_of_change_and (C := Tryd.checked) (X := fun w _ => laidMetH Tryd.prog laidC w) (fun _ _ _ hh h => h.of_heap hh) own started (by kernel_rfl) Tryd.func7
    (ChangeSpec.witness_shaped (enc := enc) (C := Tryd.checked) (os := os) (X := fun w _ => laidMetH Tryd.prog laidC w) false (World.doorLaid Tryd.prog 400 os) #[.int .i64 0] 8 rfl (World.shaped_of_RefB (by kernel_rfl) (by kernel_rfl)) (by kernel_rfl) (by kernel_rfl) (by kernel_rfl) (door_met os _)) ?_
  intro W base args ds gs before hval0 hW _ _ hL _
  have hval : ∀ (j : Nat) t v, Tryd.f7.params[j]? = some t → args[j]? = some v → Value.okWide Tryd.prog W .any base t v := hval0
  have hW' := hW
  obtain ⟨p, q, hA0, hV, rfl, hfz, hnd⟩ := hW
  have hA : DataW.TrodAll enc Tryd.prog W 0 (fun _ => true) true Tryd.f7.params.toList args.toList ds p := hA0
  rw [Tryd.params7] at hA hval
  obtain ⟨v0, vs0, d0, ds0, p0, q0, hargs, rfl, rfl, h0, r0⟩ := trodAll_cons hA
  obtain ⟨rfl, rfl, rfl⟩ := trodAll_nil r0
  obtain rfl : args = #[v0] := by cases args; simp_all
  obtain ⟨rfl, rfl⟩ := trodVars_none hV
  obtain ⟨a0, rfl, rfl, rfl, w0⟩ := open_int Tryd.underlying3 (hval 0 3 v0 rfl rfl) h0
  clear hA0 hval0
  simp only [List.append_nil] at hW'
  refine (walk a0 w0 W (tab_of_laid hL)).mono fun e W' ⟨he, hg⟩ => ?_
  subst he
  exact ⟨_, rfl, post_of_same (pa := []) (pv := []) hW' (fun _ _ _ => (trodAll_cons_mk (shut_bool Tryd.underlying4 _) trodAll_mk0)) (fun sp _ => (trodAll_cons_mk (shut_int Tryd.underlying3 w0) trodAll_mk0)) (fun _ _ => rfl) rfl
    (hg.frame _) hg.2.1 (ok_one (by kernel_rfl) rfl (okWide_bool_mk Tryd.underlying4 _))⟩

theorem over : Rows.civilEndsRow.holds Tryd.pinned (OpenSpec.ofChange Rows.civilEndsSpec) :=
  OpenClaim.holds_of_wide 7 Tryd.f7 rfl rfl rfl rfl rfl rfl rfl ⟨rfl, rfl, rfl, rfl, rfl⟩ rfl rfl rfl rfl rfl (by kernel_rfl) Tryd.func7 (by kernel_rfl)
    (of_decide_eq_true (by kernel_rfl)) (by unfold Func.isWrapper; first | (rw [if_pos (by decide +kernel)]; kernel_rfl) | (rw [if_neg (by decide +kernel)]; exact ⟨rfl, rfl⟩))
    (fun os started H enc _ => lifted os started H enc)

set_option maxRecDepth 100000 in
theorem proved : Rows.CivilEndsCardSaid :=
  Claim7.holds_tied_plain_at .later [] [.data] true _ false
    over (fun _ h => by cases h) (by kernel_rfl) (fun _ h => by cases h) civilEnds_row_tie rfl ⟨rfl, rfl⟩ (by kernel_rfl) rfl
    (fun f fn hf hfn => by
      obtain rfl : f = 7 := Option.some.inj ((show Tryd.prog.funcNamed "longcase/longcaselaw02.CivilEnds" = some 7 by kernel_rfl).symm.trans hf) |>.symm
      obtain rfl : fn = Tryd.f7 := (Option.some.inj (Tryd.func7.symm.trans hfn)).symm
      exact ⟨by kernel_rfl, fun j t ht => by
        rw [Tryd.params7] at ht
        have hm : t ∈ [3] := by simpa using Array.mem_of_getElem? ht
        have hall : ([3].all fun u => !Tryd.prog.wantsStandIn u) = true := by kernel_rfl
        exact (show Tryd.prog.wantsStandIn t = false by simpa using List.all_eq_true.1 hall t hm)⟩)
    (by kernel_rfl)
end Go.Proofs.YtpnjdlfiimhpoaaDoor.civilEnds
