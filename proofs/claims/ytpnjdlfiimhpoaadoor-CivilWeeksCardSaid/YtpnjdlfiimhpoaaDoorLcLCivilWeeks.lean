/-
  CivilWeeks (longcaselaw02): for every input it answers true, and its arguments read as before; the lengths of months as the program lays them. No condition.
-/
import Derived.Test.YtpnjdlfiimhpoaaDoorLcShown2
import Derived.Test.YtpnjdlfiimhpoaaDoorTie
import Derived.Test.YtpnjdlfiimhpoaaDoorCards
import Derived.WalkKit
import Derived.ProofKit
import Derived.OpenShut
import Derived.LaidMore
import Derived.Stop.Joined
import Derived.SevenTiedAt
namespace Go.Proofs.YtpnjdlfiimhpoaaDoor.civilWeeks
open Go.ChangeShapes Go.WideShapes Go.ChangeAt Go.RowKit Lc
set_option linter.unusedVariables false

theorem own : ownKnob Tryd.prog.godebug = none := by kernel_rfl

/-- The days that were seen behind k of them, from the weekday r on. -/
def seenT (r k : Nat) : Int := ((List.range k).map fun j => (2 : Int) ^ ((r + j) % 7)).sum
theorem seen_step : ∀ r, r < 7 → ∀ k, k < 7 → bits .or .i64 (seenT r k) (2 ^ ((r + k) % 7)) = seenT r (k + 1) := by decide +kernel
theorem seen_all : ∀ r, r < 7 → seenT r 7 = 127 := by decide
theorem wd_at (n : Int) (k : Nat) : wdI (n + k) = ((((wdI n).toNat + k) % 7 : Nat) : Int) ∧ wdI (n + k + 7) = ((((wdI n).toNat + k) % 7 : Nat) : Int) := by unfold wdI; omega
theorem wd_lt (n : Int) : (wdI n).toNat < 7 := by unfold wdI; omega
theorem seven (x : Nat) : x % 7 = 0 ∨ x % 7 = 1 ∨ x % 7 = 2 ∨ x % 7 = 3 ∨ x % 7 = 4 ∨ x % 7 = 5 ∨ x % 7 = 6 := by omega

set_option maxHeartbeats 4000000 in
theorem walk (a0 : Int) (w0 : (Lit.int .i64 a0).wf = true) (w : World) (T : Tab w) :
    Calls Tryd.prog 8 #[.int .i64 a0] w fun e w' => e = .returned (.bool true) ∧ Grown w w' := by
  obtain ⟨y1, y2⟩ := bounds_i64 w0
  have t := Lib.hid T; clear T
  have d1 : -4611686018427387904 ≤ a0 / 2 := by omega
  have d2 : a0 / 2 ≤ 4611686018427387903 := by omega
  go_enter Tryd.func8, Tryd.ntmps8
  go_wp2_with fail
  refine (shown_any _ t.out).mono ?_; rintro e w' ⟨rfl, n1, rfl⟩
  go_wp2_with fail
  clear y1 y2 w0
  generalize a0 / 2 = D at *
  have rl := wd_lt D
  have at1 := Lib.hid (wd_at D)
  generalize (wdI D).toNat = r at *
  go_loopw [4, 5] (fun s j w1 => ∃ k : Nat, k ≤ 7 ∧ j = .int .i64 k ∧ s = .int .i64 (seenT r k) ∧ Dr w w1) (fun _ j _ => (7 - intOf j).toNat)
  case atStart => exact ⟨0, by omega, rfl, rfl, Dr.drewN _ _⟩
  case round =>
    obtain ⟨k, k1, rfl, rfl, n2, rfl⟩ := hrel
    by_cases c : k < 7
    · have W1 := fun w => weekday_any (D + k) w (fitB_true.2 (by omega))
      have W2 := fun w => weekday_any (D + k + 7) w (fitB_true.2 (by omega))
      rw [(at1.out k).1] at W1
      rw [(at1.out k).2] at W2
      have st := Lib.hid (seen_step r rl k c)
      have sv := seven (r + k)
      rcases sv with h | h | h | h | h | h | h
      all_goals
        have H := Lib.hid h
        rw [h] at W1 W2
        clear h
        go_wp2_with fail
        refine (W1 _).mono ?_; rintro e w' ⟨rfl, n3, rfl⟩
        go_wp2_with fail
        refine (W2 _).mono ?_; rintro e w' ⟨rfl, n4, rfl⟩
        go_wp2_with fail
        go_roundw
        case rel => exact ⟨k + 1, by omega, by go_num, by rw [← st.out, H.out]; rfl, Dr.drewN _ _⟩
        case measure => simp [intOf]; omega
    · obtain rfl : k = 7 := by omega
      have sa := seen_all r rl
      rw [sa]
      clear sa
      go_wp2_with fail
      go_ret
      exact ⟨rfl, (Dr.drewN _ _).grown⟩

set_option maxRecDepth 100000 in
theorem lifted (os : Os) (started : os.Started) (H : Type) (enc : TypeId × Value → H) :
    ReturnsInHanded {} Tryd.checked os 8 .any (fun w args => (Rows.civilWeeksSpec.pre enc Tryd.prog Tryd.f8 [] false w args ∧ laidMetH Tryd.prog laidC w) ∧ sizedMet enc Tryd.prog Tryd.f8 (OpenSpec.ofChange Rows.civilWeeksSpec) false w args) (Rows.civilWeeksSpec.post enc Tryd.prog Tryd.f8 false true false false) := by
  refine returnsInHanded_of_change_and (C := Tryd.checked) (X := fun w _ => laidMetH Tryd.prog laidC w) (fun _ _ _ hh h => h.of_heap hh) own started (by kernel_rfl) Tryd.func8
    (ChangeSpec.witness_shaped (enc := enc) (C := Tryd.checked) (os := os) (X := fun w _ => laidMetH Tryd.prog laidC w) false (World.doorLaid Tryd.prog 400 os) #[.int .i64 0] 8 rfl (World.shaped_of_RefB (by kernel_rfl) (by kernel_rfl)) (by kernel_rfl) (by kernel_rfl) (by kernel_rfl) (door_met os _)) ?_
  intro W base args ds gs before hval0 hW _ _ hL _
  have hval : ∀ (j : Nat) t v, Tryd.f8.params[j]? = some t → args[j]? = some v → Value.okWide Tryd.prog W .any base t v := hval0
  have hW' := hW
  obtain ⟨p, q, hA0, hV, rfl, hfz, hnd⟩ := hW
  have hA : DataW.TrodAll enc Tryd.prog W 0 (fun _ => true) true Tryd.f8.params.toList args.toList ds p := hA0
  rw [Tryd.params8] at hA hval
  obtain ⟨v0, vs0, d0, ds0, p0, q0, hargs, rfl, rfl, h0, r0⟩ := trodAll_cons hA
  obtain ⟨rfl, rfl, rfl⟩ := trodAll_nil r0
  obtain rfl : args = #[v0] := by cases args; simp_all
  obtain ⟨rfl, rfl⟩ := trodVars_none hV
  obtain ⟨a0, rfl, rfl, rfl, w0⟩ := open_int Tryd.underlying2 (hval 0 2 v0 rfl rfl) h0
  clear hA0 hval0
  simp only [List.append_nil] at hW'
  refine (walk a0 w0 W (tab_of_laid hL)).mono fun e W' ⟨he, hg⟩ => ?_
  subst he
  exact ⟨_, rfl, post_of_same (pa := []) (pv := []) hW' (fun _ _ _ => (trodAll_cons_mk (shut_bool Tryd.underlying4 _) trodAll_mk0)) (fun sp _ => (trodAll_cons_mk (shut_int Tryd.underlying2 w0) trodAll_mk0)) (fun _ _ => rfl) rfl
    (hg.frame _) hg.2.1 (ok_one (by kernel_rfl) rfl (okWide_bool_mk Tryd.underlying4 _))⟩

theorem over : Rows.civilWeeksRow.holds Tryd.pinned (OpenSpec.ofChange Rows.civilWeeksSpec) :=
  OpenClaim.holds_of_wide 8 Tryd.f8 rfl rfl rfl rfl rfl rfl rfl ⟨rfl, rfl, rfl, rfl, rfl⟩ rfl rfl rfl rfl rfl (by kernel_rfl) Tryd.func8 (by kernel_rfl)
    (of_decide_eq_true (by kernel_rfl)) (by unfold Func.isWrapper; first | (rw [if_pos (by decide +kernel)]; kernel_rfl) | (rw [if_neg (by decide +kernel)]; exact ⟨rfl, rfl⟩))
    (fun os started H enc _ => lifted os started H enc)

set_option maxRecDepth 100000 in
theorem proved : Rows.CivilWeeksCardSaid :=
  Claim7.holds_tied_plain_at .later [] [.data] true _ false
    over (fun _ h => by cases h) (by kernel_rfl) (fun _ h => by cases h) civilWeeks_row_tie rfl ⟨rfl, rfl⟩ (by kernel_rfl) rfl
    (fun f fn hf hfn => by
      obtain rfl : f = 8 := Option.some.inj ((show Tryd.prog.funcNamed "longcase/longcaselaw02.CivilWeeks" = some 8 by kernel_rfl).symm.trans hf) |>.symm
      obtain rfl : fn = Tryd.f8 := (Option.some.inj (Tryd.func8.symm.trans hfn)).symm
      exact ⟨by kernel_rfl, fun j t ht => by
        rw [Tryd.params8] at ht
        have hm : t ∈ [2] := by simpa using Array.mem_of_getElem? ht
        have hall : ([2].all fun u => !Tryd.prog.wantsStandIn u) = true := by kernel_rfl
        exact (show Tryd.prog.wantsStandIn t = false by simpa using List.all_eq_true.1 hall t hm)⟩)
    (by kernel_rfl)
end Go.Proofs.YtpnjdlfiimhpoaaDoor.civilWeeks
