/-
  CivilYears (longcaselaw02): for every input it answers true, and its arguments read as before; the lengths of months as the program lays them. No condition.
-/
import Derived.Test.YtpnjdlfiimhpoaaDoorLcShown2
import Derived.Test.YtpnjdlfiimhpoaaDoorTie
import Derived.Test.YtpnjdlfiimhpoaaDoorCards
import Derived.WalkKit
import Derived.ProofKit
import Derived.OpenShut
import Derived.LaidMore
import Derived.Stop.Joined
import Derived.SevenTiedAt
namespace Go.Proofs.YtpnjdlfiimhpoaaDoor.civilYears
open Go.ChangeShapes Go.WideShapes Go.ChangeAt Go.RowKit Lc
set_option linter.unusedVariables false

theorem own : ownKnob Tryd.prog.godebug = none := by kernel_rfl

theorem r11 {y : Int} (h1 : -2147483648 ≤ y) (h2 : y ≤ 2147483647) : rightB y 1 1 = true := right_true.2 ⟨h1, h2, by omega, by have := len_pos y (m := 1) (by omega) (by omega); omega⟩
theorem r1231 {y : Int} (h1 : -2147483648 ≤ y) (h2 : y ≤ 2147483647) : rightB y 12 31 = true := right_true.2 ⟨h1, h2, by omega, by simp [lenI]⟩
theorem d11 (y : Int) : dayI y 1 1 = ny y := by unfold dayI ydI; rw [cum_1]; omega
theorem yd31 (y : Int) : ydI y 12 31 = 364 + lp y := by unfold ydI; simp [cum]; omega
theorem ny400 (y : Int) : ny (y + 400) = ny y + 146097 := by
  have := ny_400 1 y
  rw [show 400 * 1 + y = y + 400 by omega] at this; omega

set_option maxHeartbeats 4000000 in
set_option maxRecDepth 100000 in
theorem walk (a0 : Int) (w0 : (Lit.int .i32 a0).wf = true) (w : World) (T : Tab w) :
    Calls Tryd.prog 6 #[.int .i32 a0] w fun e w' => e = .returned (.bool true) ∧ Grown w w' := by
  obtain ⟨y1, y2⟩ := bounds_i32 w0
  have t := Lib.hid T; clear T
  by_cases big : 2147483247 < a0
  · go_enter Tryd.func6, Tryd.ntmps6
    go_wp2_with fail
    refine (shown_any _ t.out).mono ?_; rintro e w' ⟨rfl, n1, rfl⟩
    go_wp2_with fail
    go_ret
    exact ⟨rfl, (Dr.drewN _ _).grown⟩
  have C1 : ∀ w, Tab w → _ := fun w T => days_yes a0 1 1 w T (r11 y1 y2)
  have C2 : ∀ w, Tab w → _ := fun w T => days_yes (a0 + 1) 1 1 w T (r11 (by omega) (by omega))
  have C3 : ∀ w, Tab w → _ := fun w T => days_yes (a0 + 400) 1 1 w T (r11 (by omega) (by omega))
  have C4 : ∀ w, Tab w → _ := fun w T => yearday_yes a0 12 31 w T (r1231 y1 y2)
  have C5 := fun w => leap_any a0 w
  rw [d11] at C1
  rw [d11, ny_succ] at C2
  rw [d11, ny400] at C3
  rw [yd31] at C4
  obtain ⟨b1, b2⟩ := ny_bd a0 (by omega) (by omega)
  have h4 := tmod_zero a0 4
  have h100 := tmod_nz a0 100
  have h400 := tmod_zero a0 400
  have lm := leap_mix a0
  have k4 : ∀ N : Int, (N + 146097 - N == 146097) = true := fun N => by rw [show N + 146097 - N = 146097 by omega]; rfl
  generalize hN : ny a0 = N at *
  clear hN
  have K4 := k4 N
  have K5 : (N + 365 - N == 365) = true := by rw [show N + 365 - N = 365 by omega]; rfl
  have K6 : (N + 365 + 1 - N == 366) = true := by rw [show N + 365 + 1 - N = 366 by omega]; rfl
  have K7 : (N + 366 - N == 366) = true := by rw [show N + 366 - N = 366 by omega]; rfl
  clear k4
  rcases Decidable.em (a0 % 4 = 0) with c4 | c4 <;> rcases Decidable.em (a0 % 100 = 0) with c100 | c100 <;> rcases Decidable.em (a0 % 400 = 0) with c400 | c400
  all_goals first | (exfalso; omega) | skip
  all_goals
    simp only [c4, c100, c400, decide_true, decide_false, Bool.not_true, Bool.not_false, Bool.and_true, Bool.or_false, Bool.or_true, Bool.and_false] at h4 h100 h400 lm
    clear c4 c100 c400
    rw [lm] at C5
    first | rw [lp_false lm] at C2 C4 | rw [lp_true lm] at C2 C4
    have LM := Lib.hid lm
    clear lm
    go_enter Tryd.func6, Tryd.ntmps6
    go_wp2_with fail
    refine (shown_any _ t.out).mono ?_; rintro e w' ⟨rfl, n1, rfl⟩
    go_wp2_with fail
    refine (C1 _ (t.out.drewN _)).mono ?_; rintro e w' ⟨rfl, n2, rfl⟩
    go_wp2_with fail
    refine (C2 _ (t.out.drewN _)).mono ?_; rintro e w' ⟨rfl, n3, rfl⟩
    go_wp2_with fail
    refine (C3 _ (t.out.drewN _)).mono ?_; rintro e w' ⟨rfl, n4, rfl⟩
    go_wp2_with fail
    refine (C4 _ (t.out.drewN _)).mono ?_; rintro e w' ⟨rfl, rfl⟩
    go_wp2_with fail
    go_loop [14, 15] (fun s j => ∃ k : Int, 1 ≤ k ∧ k ≤ 13 ∧ j = .int .i64 k ∧ s = .int .i64 (cum a0 k)) (fun _ j => (14 - intOf j).toNat)
    case atStart => exact ⟨1, by omega, by omega, rfl, by rw [cum_1]⟩
    case round =>
      obtain ⟨k, g1, g2, rfl, rfl⟩ := hrel
      obtain ⟨ck1, ck2⟩ := cum_bd a0 g1 (by omega)
      obtain ⟨lk1, lk2⟩ := len_bd a0 k
      by_cases c : k ≤ 12
      · have cs := Lib.hid (cum_succ a0 g1 (by omega))
        go_wp2_with fail
        refine (length_any _ _ _ (t.out.drewN _)).mono ?_; rintro e w' ⟨rfl, rfl⟩
        go_wp2_with fail
        go_round
        case rel => exact ⟨k + 1, by omega, by omega, rfl, by rw [cs.out]⟩
        case measure => simp [intOf]; omega
      · obtain rfl : k = 13 := by omega
        have e13 : cum a0 13 = 365 + lp a0 := cum_13 a0
        first | rw [lp_false LM.out] at e13 | rw [lp_true LM.out] at e13
        clear ck1 ck2 lk1 lk2
        generalize cum a0 13 = Z at *
        subst e13
        go_wp2_with fail
        refine (C5 _).mono ?_; rintro e w' ⟨rfl, rfl⟩
        go_wp2_with fail
        go_ret
        exact ⟨rfl, (Dr.drewN _ _).grown⟩

set_option maxRecDepth 100000 in
theorem lifted (os : Os) (started : os.Started) (H : Type) (enc : TypeId × Value → H) :
    ReturnsInHanded {} Tryd.checked os 6 .any (fun w args => (Rows.civilYearsSpec.pre enc Tryd.prog Tryd.f6 [] false w args ∧ laidMetH Tryd.prog laidC w) ∧ sizedMet enc Tryd.prog Tryd.f6 (OpenSpec.ofChange Rows.civilYearsSpec) false w args) (Rows.civilYearsSpec.post enc Tryd.prog Tryd.f6 false true false false) := by
  refine returnsInHanded_of_change_and (C := Tryd.checked) (X := fun w _ => laidMetH Tryd.prog laidC w) (fun _ _ _ hh h => h.of_heap hh) own started (by kernel_rfl) Tryd.func6
    (ChangeSpec.witness_shaped (enc := enc) (C := Tryd.checked) (os := os) (X := fun w _ => laidMetH Tryd.prog laidC w) false (World.doorLaid Tryd.prog 400 os) #[.int .i32 0] 8 rfl (World.shaped_of_RefB (by kernel_rfl) (by kernel_rfl)) (by kernel_rfl) (by kernel_rfl) (by kernel_rfl) (door_met os _)) ?_
  intro W base args ds gs before hval0 hW _ _ hL _
  have hval : ∀ (j : Nat) t v, Tryd.f6.params[j]? = some t → args[j]? = some v → Value.okWide Tryd.prog W .any base t v := hval0
  have hW' := hW
  obtain ⟨p, q, hA0, hV, rfl, hfz, hnd⟩ := hW
  have hA : DataW.TrodAll enc Tryd.prog W 0 (fun _ => true) true Tryd.f6.params.toList args.toList ds p := hA0
  rw [Tryd.params6] at hA hval
  obtain ⟨v0, vs0, d0, ds0, p0, q0, hargs, rfl, rfl, h0, r0⟩ := trodAll_cons hA
  obtain ⟨rfl, rfl, rfl⟩ := trodAll_nil r0
  obtain rfl : args = #[v0] := by cases args; simp_all
  obtain ⟨rfl, rfl⟩ := trodVars_none hV
  obtain ⟨a0, rfl, rfl, rfl, w0⟩ := open_int Tryd.underlying21 (hval 0 21 v0 rfl rfl) h0
  clear hA0 hval0
  simp only [List.append_nil] at hW'
  refine (walk a0 w0 W (tab_of_laid hL)).mono fun e W' ⟨he, hg⟩ => ?_
  subst he
  exact ⟨_, rfl, post_of_same (pa := []) (pv := []) hW' (fun _ _ _ => (trodAll_cons_mk (shut_bool Tryd.underlying4 _) trodAll_mk0)) (fun sp _ => (trodAll_cons_mk (shut_int Tryd.underlying21 w0) trodAll_mk0)) (fun _ _ => rfl) rfl
    (hg.frame _) hg.2.1 (ok_one (by kernel_rfl) rfl (okWide_bool_mk Tryd.underlying4 _))⟩

theorem over : Rows.civilYearsRow.holds Tryd.pinned (OpenSpec.ofChange Rows.civilYearsSpec) :=
  OpenClaim.holds_of_wide 6 Tryd.f6 rfl rfl rfl rfl rfl rfl rfl ⟨rfl, rfl, rfl, rfl, rfl⟩ rfl rfl rfl rfl rfl (by kernel_rfl) Tryd.func6 (by kernel_rfl)
    (of_decide_eq_true (by kernel_rfl)) (by unfold Func.isWrapper; first | (rw [if_pos (by decide +kernel)]; kernel_rfl) | (rw [if_neg (by decide +kernel)]; exact ⟨rfl, rfl⟩))
    (fun os started H enc _ => lifted os started H enc)

set_option maxRecDepth 100000 in
theorem proved : Rows.CivilYearsCardSaid :=
  Claim7.holds_tied_plain_at .later [] [.data] true _ false
    over (fun _ h => by cases h) (by kernel_rfl) (fun _ h => by cases h) civilYears_row_tie rfl ⟨rfl, rfl⟩ (by kernel_rfl) rfl
    (fun f fn hf hfn => by
      obtain rfl : f = 6 := Option.some.inj ((show Tryd.prog.funcNamed "longcase/longcaselaw02.CivilYears" = some 6 by kernel_rfl).symm.trans hf) |>.symm
      obtain rfl : fn = Tryd.f6 := (Option.some.inj (Tryd.func6.symm.trans hfn)).symm
      exact ⟨by kernel_rfl, fun j t ht => by
        rw [Tryd.params6] at ht
        have hm : t ∈ [21] := by simpa using Array.mem_of_getElem? ht
        have hall : ([21].all fun u => !Tryd.prog.wantsStandIn u) = true := by kernel_rfl
        exact (show Tryd.prog.wantsStandIn t = false by simpa using List.all_eq_true.1 hall t hm)⟩)
    (by kernel_rfl)
end Go.Proofs.YtpnjdlfiimhpoaaDoor.civilYears
