/-
  CivilNext (longcaselaw02): for every input it answers true, and its arguments read as before; the lengths of months as the program lays them. No condition.
-/
import Derived.Test.YtpnjdlfiimhpoaaDoorLcShown2
import Derived.Test.YtpnjdlfiimhpoaaDoorTie
import Derived.Test.YtpnjdlfiimhpoaaDoorCards
import Derived.WalkKit
import Derived.ProofKit
import Derived.OpenShut
import Derived.LaidMore
import Derived.Stop.Joined
import Derived.SevenTiedAt
namespace Go.Proofs.YtpnjdlfiimhpoaaDoor.civilNext
open Go.ChangeShapes Go.WideShapes Go.ChangeAt Go.RowKit Lc
set_option linter.unusedVariables false

theorem own : ownKnob Tryd.prog.godebug = none := by kernel_rfl

theorem next_1 {y m d : Int} (h : rightB y m d = true) (c : d < lenI y m) : rightB y m (d + 1) = true ∧ dayI y m (d + 1) = dayI y m d + 1 := by
  have := right_true.1 h
  exact ⟨right_true.2 (by omega), by unfold dayI ydI; omega⟩
theorem next_2 {y m d : Int} (h : rightB y m d = true) (c : ¬ d < lenI y m) (k : m < 12) : rightB y (m + 1) 1 = true ∧ dayI y (m + 1) 1 = dayI y m d + 1 := by
  have h1 := right_true.1 h
  have hm := right_month h
  have := len_pos y (m := m + 1) (by omega) (by omega)
  exact ⟨right_true.2 (by omega), by unfold dayI ydI; rw [cum_succ y hm.1 hm.2]; omega⟩
theorem next_3 {y m d : Int} (h : rightB y m d = true) (c : ¬ d < lenI y m) (k : ¬ m < 12) (g : y < 2147483647) : rightB (y + 1) 1 1 = true ∧ dayI (y + 1) 1 1 = dayI y m d + 1 := by
  have h1 := right_true.1 h
  have hm := right_month h
  obtain rfl : m = 12 := by omega
  have e := cum_succ y hm.1 hm.2
  have e13 : cum y (12 + 1) = 365 + lp y := cum_13 y
  have := len_pos (y + 1) (m := 1) (by omega) (by omega)
  exact ⟨right_true.2 (by omega), by unfold dayI ydI; rw [ny_succ, cum_1]; omega⟩
theorem wd_next (n : Int) : wdI (n + 1) = (wdI n + 1) % 7 := by unfold wdI; omega
theorem wd_bd (n : Int) : 0 ≤ wdI n ∧ wdI n < 7 := by unfold wdI; omega

set_option maxHeartbeats 2000000 in
theorem walk (a0 : Int) (w0 : (Lit.int .i64 a0).wf = true) (w : World) (T : Tab w) :
    Calls Tryd.prog 5 #[.int .i64 a0] w fun e w' => e = .returned (.bool true) ∧ Grown w w' := by
  have f0 := fit_wf w0
  have t := Lib.hid T; clear T
  by_cases c : a0 < ny (-2147483648) ∨ ny 2147483648 ≤ a0
  · have DN := fun w => date_no a0 w c
    clear c
    go_enter Tryd.func5, Tryd.ntmps5
    go_wp2_with fail
    refine (shown_any _ t.out).mono ?_; rintro e w' ⟨rfl, n1, rfl⟩
    go_wp2_with fail
    refine (DN _).mono ?_; rintro e w' ⟨rfl, n2, rfl⟩
    go_wp2_with fail
    go_ret
    exact ⟨rfl, (Dr.drewN _ _).grown⟩
  · obtain ⟨y, m, d, hr, hn⟩ := date_ex a0 (by omega) (by omega)
    have DY : ∀ w, Tab w → _ := fun w T => date_yes a0 y m d w T hr hn
    obtain ⟨q1, q2⟩ := date_bd
    have g1 : -1000000000000 ≤ a0 := by omega
    have g2 : a0 ≤ 1000000000000 := by omega
    have LN : ∀ w, Tab w → _ := fun w T => length_any y m w T
    obtain ⟨y1, y2, d1, d2⟩ := right_true.1 hr
    obtain ⟨m1, m2⟩ := right_month hr
    have d3 := (len_bd y m).2
    clear q1 q2
    by_cases e : y = 2147483647 ∧ m = 12
    · obtain ⟨rfl, rfl⟩ := e
      clear c hr hn
      go_enter Tryd.func5, Tryd.ntmps5
      go_wp2_with fail
      refine (shown_any _ t.out).mono ?_; rintro e w' ⟨rfl, n1, rfl⟩
      go_wp2_with fail
      refine (DY _ (t.out.drewN _)).mono ?_; rintro e w' ⟨rfl, n2, rfl⟩
      go_wp2_with fail
      go_ret
      exact ⟨rfl, (Dr.drewN _ _).grown⟩
    have W1 := fun w => weekday_any a0 w f0
    have W2 := fun w => weekday_any (a0 + 1) w (fit_small (by omega) (by omega))
    rw [wd_next] at W2
    obtain ⟨wb1, wb2⟩ := wd_bd a0
    have key : ∃ y' m' d', rightB y' m' d' = true ∧ dayI y' m' d' = a0 + 1 ∧ ((d < lenI y m ∧ y' = y ∧ m' = m ∧ d' = d + 1) ∨ (¬ d < lenI y m ∧ m < 12 ∧ y' = y ∧ m' = m + 1 ∧ d' = 1) ∨ (¬ d < lenI y m ∧ ¬ m < 12 ∧ y < 2147483647 ∧ y' = y + 1 ∧ m' = 1 ∧ d' = 1)) := by
      by_cases c1 : d < lenI y m
      · have := next_1 hr c1; exact ⟨_, _, _, this.1, by rw [this.2, hn], .inl ⟨c1, rfl, rfl, rfl⟩⟩
      · by_cases c2 : m < 12
        · have := next_2 hr c1 c2; exact ⟨_, _, _, this.1, by rw [this.2, hn], .inr (.inl ⟨c1, c2, rfl, rfl, rfl⟩)⟩
        · have g : y < 2147483647 := by omega
          have := next_3 hr c1 c2 g; exact ⟨_, _, _, this.1, by rw [this.2, hn], .inr (.inr ⟨c1, c2, g, rfl, rfl, rfl⟩)⟩
    obtain ⟨y', m', d', hr', hn', key⟩ := key
    have DY' : ∀ w, Tab w → _ := fun w T => date_yes (a0 + 1) y' m' d' w T hr' hn'
    have tt : (y == 2147483647 && m == 12) = false := by
      rw [Bool.eq_false_iff]; simpa using e
    clear c hr hn hr' hn' e d2
    generalize wdI a0 = W at *
    generalize lenI y m = L at *
    have tt' : (y == 2147483647) = false ∨ ((y == 2147483647) = true ∧ (m == 12) = false) := by
      cases h1 : (y == 2147483647) <;> simp [h1] at tt ⊢; exact tt
    clear tt
    rcases key with ⟨k1, rfl, rfl, rfl⟩ | ⟨k1, k2, rfl, rfl, rfl⟩ | ⟨k1, k2, k3, rfl, rfl, rfl⟩
    all_goals
      rcases tt' with t1 | ⟨t1, t2⟩
      all_goals
        go_enter Tryd.func5, Tryd.ntmps5
        go_wp2_with fail
        refine (shown_any _ t.out).mono ?_; rintro e w' ⟨rfl, n1, rfl⟩
        go_wp2_with fail
        refine (DY _ (t.out.drewN _)).mono ?_; rintro e w' ⟨rfl, n2, rfl⟩
        go_wp2_with fail
        refine (DY' _ (t.out.drewN _)).mono ?_; rintro e w' ⟨rfl, n3, rfl⟩
        go_wp2_with fail
        refine (W2 _).mono ?_; rintro e w' ⟨rfl, n4, rfl⟩
        go_wp2_with fail
        refine (W1 _).mono ?_; rintro e w' ⟨rfl, n5, rfl⟩
        go_wp2_with fail
        refine (LN _ (t.out.drewN _)).mono ?_; rintro e w' ⟨rfl, rfl⟩
        go_wp2_with fail
        go_ret
        exact ⟨rfl, (Dr.drewN _ _).grown⟩

set_option maxRecDepth 100000 in
theorem lifted (os : Os) (started : os.Started) (H : Type) (enc : TypeId × Value → H) :
    ReturnsInHanded {} Tryd.checked os 5 .any (fun w args => (Rows.civilNextSpec.pre enc Tryd.prog Tryd.f5 [] false w args ∧ laidMetH Tryd.prog laidC w) ∧ sizedMet enc Tryd.prog Tryd.f5 (OpenSpec.ofChange Rows.civilNextSpec) false w args) (Rows.civilNextSpec.post enc Tryd.prog Tryd.f5 false true false false) := by
  refine returnsInHanded_of_change_and (C := Tryd.checked) (X := fun w _ => laidMetH Tryd.prog laidC w) (fun _ _ _ hh h => h.of_heap hh) own started (by kernel_rfl) Tryd.func5
    (ChangeSpec.witness_shaped (enc := enc) (C := Tryd.checked) (os := os) (X := fun w _ => laidMetH Tryd.prog laidC w) false (World.doorLaid Tryd.prog 400 os) #[.int .i64 0] 8 rfl (World.shaped_of_RefB (by kernel_rfl) (by kernel_rfl)) (by kernel_rfl) (by kernel_rfl) (by kernel_rfl) (door_met os _)) ?_
  intro W base args ds gs before hval0 hW _ _ hL _
  have hval : ∀ (j : Nat) t v, Tryd.f5.params[j]? = some t → args[j]? = some v → Value.okWide Tryd.prog W .any base t v := hval0
  have hW' := hW
  obtain ⟨p, q, hA0, hV, rfl, hfz, hnd⟩ := hW
  have hA : DataW.TrodAll enc Tryd.prog W 0 (fun _ => true) true Tryd.f5.params.toList args.toList ds p := hA0
  rw [Tryd.params5] at hA hval
  obtain ⟨v0, vs0, d0, ds0, p0, q0, hargs, rfl, rfl, h0, r0⟩ := trodAll_cons hA
  obtain ⟨rfl, rfl, rfl⟩ := trodAll_nil r0
  obtain rfl : args = #[v0] := by cases args; simp_all
  obtain ⟨rfl, rfl⟩ := trodVars_none hV
  obtain ⟨a0, rfl, rfl, rfl, w0⟩ := open_int Tryd.underlying2 (hval 0 2 v0 rfl rfl) h0
  clear hA0 hval0
  simp only [List.append_nil] at hW'
  refine (walk a0 w0 W (tab_of_laid hL)).mono fun e W' ⟨he, hg⟩ => ?_
  subst he
  exact ⟨_, rfl, post_of_same (pa := []) (pv := []) hW' (fun _ _ _ => (trodAll_cons_mk (shut_bool Tryd.underlying4 _) trodAll_mk0)) (fun sp _ => (trodAll_cons_mk (shut_int Tryd.underlying2 w0) trodAll_mk0)) (fun _ _ => rfl) rfl
    (hg.frame _) hg.2.1 (ok_one (by kernel_rfl) rfl (okWide_bool_mk Tryd.underlying4 _))⟩

theorem over : Rows.civilNextRow.holds Tryd.pinned (OpenSpec.ofChange Rows.civilNextSpec) :=
  OpenClaim.holds_of_wide 5 Tryd.f5 rfl rfl rfl rfl rfl rfl rfl ⟨rfl, rfl, rfl, rfl, rfl⟩ rfl rfl rfl rfl rfl (by kernel_rfl) Tryd.func5 (by kernel_rfl)
    (of_decide_eq_true (by kernel_rfl)) (by unfold Func.isWrapper; first | (rw [if_pos (by decide +kernel)]; kernel_rfl) | (rw [if_neg (by decide +kernel)]; exact ⟨rfl, rfl⟩))
    (fun os started H enc _ => lifted os started H enc)

set_option maxRecDepth 100000 in
theorem proved : Rows.CivilNextCardSaid :=
  Claim7.holds_tied_plain_at .later [] [.data] true _ false
    over (fun _ h => by cases h) (by kernel_rfl) (fun _ h => by cases h) civilNext_row_tie rfl ⟨rfl, rfl⟩ (by kernel_rfl) rfl
    (fun f fn hf hfn => by
      obtain rfl : f = 5 := Option.some.inj ((show Tryd.prog.funcNamed "longcase/longcaselaw02.CivilNext" = some 5 by kernel_rfl).symm.trans hf) |>.symm
      obtain rfl : fn = Tryd.f5 := (Option.some.inj (Tryd.func5.symm.trans hfn)).symm
      exact ⟨by kernel_rfl, fun j t ht => by
        rw [Tryd.params5] at ht
        have hm : t ∈ [2] := by simpa using Array.mem_of_getElem? ht
        have hall : ([2].all fun u => !Tryd.prog.wantsStandIn u) = true := by kernel_rfl
        exact (show Tryd.prog.wantsStandIn t = false by simpa using List.all_eq_true.1 hall t hm)⟩)
    (by kernel_rfl)
end Go.Proofs.YtpnjdlfiimhpoaaDoor.civilNext
