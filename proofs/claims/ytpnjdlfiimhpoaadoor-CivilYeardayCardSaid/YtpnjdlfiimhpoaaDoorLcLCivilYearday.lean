/-
  CivilYearday (longcaselaw02): for every input it answers true, and its arguments read as before; the lengths of months as the program lays them. No condition.
-/
import Derived.Test.YtpnjdlfiimhpoaaDoorLcShown2
import Derived.Test.YtpnjdlfiimhpoaaDoorTie
import Derived.Test.YtpnjdlfiimhpoaaDoorCards
import Derived.WalkKit
import Derived.ProofKit
import Derived.OpenShut
import Derived.LaidMore
import Derived.Stop.Joined
import Derived.SevenTiedAt
namespace Go.Proofs.YtpnjdlfiimhpoaaDoor.civilYearday
open Go.ChangeShapes Go.WideShapes Go.ChangeAt Go.RowKit Lc
set_option linter.unusedVariables false

theorem own : ownKnob Tryd.prog.godebug = none := by kernel_rfl

theorem r11 {y : Int} (h1 : -2147483648 ≤ y) (h2 : y ≤ 2147483647) : rightB y 1 1 = true := right_true.2 ⟨h1, h2, by omega, by have := len_pos y (m := 1) (by omega) (by omega); omega⟩
theorem d11 (y : Int) : dayI y 1 1 = ny y := by unfold dayI ydI; rw [cum_1]; omega
theorem in_year {y i : Int} (h1 : -2147483648 ≤ y) (h2 : y ≤ 2147483647) (i1 : 0 ≤ i) (i2 : i < 365 + lp y) : ∃ m d, rightB y m d = true ∧ dayI y m d = ny y + i ∧ ydI y m d = i := by
  obtain ⟨m, m1, m2, m3, m4⟩ := month_ex y i i1 i2
  exact ⟨m, i - cum y m + 1, right_true.2 (by omega), by unfold dayI ydI; omega, by unfold ydI; omega⟩
theorem and_bd (x : Int) : 0 ≤ bits .and .i64 x 65535 ∧ bits .and .i64 x 65535 ≤ 65535 := by
  have h : (BitVec.ofInt 64 x &&& BitVec.ofInt 64 65535).toNat ≤ 65535 := by
    rw [BitVec.toNat_and]; exact Nat.le_trans Nat.and_le_right (by decide)
  have e : bits .and .i64 x 65535 = IntKind.i64.wrap ((BitVec.ofInt 64 x &&& BitVec.ofInt 64 65535).toNat : Int) := rfl
  rw [e, IntKind.wrap_i64]
  generalize (BitVec.ofInt 64 x &&& BitVec.ofInt 64 65535).toNat = v at *
  omega

set_option maxHeartbeats 4000000 in
theorem walk (a0 : Int) (a1 : Int) (w0 : (Lit.int .i32 a0).wf = true) (w1 : (Lit.int .i64 a1).wf = true) (w : World) (T : Tab w) :
    Calls Tryd.prog 9 #[.int .i32 a0, .int .i64 a1] w fun e w' => e = .returned (.bool true) ∧ Grown w w' := by
  obtain ⟨y1, y2⟩ := bounds_i32 w0
  have t := Lib.hid T; clear T
  have C1 : ∀ w, Tab w → _ := fun w T => days_yes a0 1 1 w T (r11 y1 y2)
  have C5 := fun w => leap_any a0 w
  rw [d11] at C1
  obtain ⟨b1, b2⟩ := ny_bd a0 (by omega) (by omega)
  obtain ⟨b3, b4⟩ := and_bd a1
  cases l : leapB a0
  · rw [l] at C5
    obtain ⟨m, d, hr, hn, hy⟩ := in_year (i := bits .and .i64 a1 65535 % 365) y1 y2 (by omega) (by rw [lp_false l]; omega)
    have CD : ∀ w, Tab w → _ := fun w T => date_yes _ a0 m d w T hr hn
    have CY : ∀ w, Tab w → _ := fun w T => yearday_yes a0 m d w T hr
    rw [hy] at CY
    have i1 : 0 ≤ bits .and .i64 a1 65535 % 365 := by omega
    have i2 : bits .and .i64 a1 65535 % 365 < 365 := by omega
    clear l hr hn hy
    go_enter Tryd.func9, Tryd.ntmps9
    go_wp2_with fail
    refine (shown_any _ t.out).mono ?_; rintro e w' ⟨rfl, n1, rfl⟩
    go_wp2_with fail
    refine (C1 _ (t.out.drewN _)).mono ?_; rintro e w' ⟨rfl, n2, rfl⟩
    go_wp2_with fail
    refine (C5 _).mono ?_; rintro e w' ⟨rfl, rfl⟩
    go_wp2_with fail
    refine (CD _ (t.out.drewN _)).mono ?_; rintro e w' ⟨rfl, n3, rfl⟩
    go_wp2_with fail
    refine (CY _ (t.out.drewN _)).mono ?_; rintro e w' ⟨rfl, rfl⟩
    go_wp2_with fail
    go_ret
    exact ⟨rfl, (Dr.drewN _ _).grown⟩
  · rw [l] at C5
    obtain ⟨m, d, hr, hn, hy⟩ := in_year (i := bits .and .i64 a1 65535 % 366) y1 y2 (by omega) (by rw [lp_true l]; omega)
    have CD : ∀ w, Tab w → _ := fun w T => date_yes _ a0 m d w T hr hn
    have CY : ∀ w, Tab w → _ := fun w T => yearday_yes a0 m d w T hr
    rw [hy] at CY
    have i1 : 0 ≤ bits .and .i64 a1 65535 % 366 := by omega
    have i2 : bits .and .i64 a1 65535 % 366 < 366 := by omega
    clear l hr hn hy
    go_enter Tryd.func9, Tryd.ntmps9
    go_wp2_with fail
    refine (shown_any _ t.out).mono ?_; rintro e w' ⟨rfl, n1, rfl⟩
    go_wp2_with fail
    refine (C1 _ (t.out.drewN _)).mono ?_; rintro e w' ⟨rfl, n2, rfl⟩
    go_wp2_with fail
    refine (C5 _).mono ?_; rintro e w' ⟨rfl, rfl⟩
    go_wp2_with fail
    refine (CD _ (t.out.drewN _)).mono ?_; rintro e w' ⟨rfl, n3, rfl⟩
    go_wp2_with fail
    refine (CY _ (t.out.drewN _)).mono ?_; rintro e w' ⟨rfl, rfl⟩
    go_wp2_with fail
    go_ret
    exact ⟨rfl, (Dr.drewN _ _).grown⟩

set_option maxRecDepth 100000 in
theorem lifted (os : Os) (started : os.Started) (H : Type) (enc : TypeId × Value → H) :
    ReturnsInHanded {} Tryd.checked os 9 .any (fun w args => (Rows.civilYeardaySpec.pre enc Tryd.prog Tryd.f9 [] false w args ∧ laidMetH Tryd.prog laidC w) ∧ sizedMet enc Tryd.prog Tryd.f9 (OpenSpec.ofChange Rows.civilYeardaySpec) false w args) (Rows.civilYeardaySpec.post enc Tryd.prog Tryd.f9 false true false false) := by
  refine returnsInHanded_of_change_and (C := Tryd.checked) (X := fun w _ => laidMetH Tryd.prog laidC w) (fun _ _ _ hh h => h.of_heap hh) own started (by kernel_rfl) Tryd.func9
    (ChangeSpec.witness_shaped (enc := enc) (C := Tryd.checked) (os := os) (X := fun w _ => laidMetH Tryd.prog laidC w) false (World.doorLaid Tryd.prog 400 os) #[.int .i32 0, .int .i64 0] 8 rfl (World.shaped_of_RefB (by kernel_rfl) (by kernel_rfl)) (by kernel_rfl) (by kernel_rfl) (by kernel_rfl) (door_met os _)) ?_
  intro W base args ds gs before hval0 hW _ _ hL _
  have hval : ∀ (j : Nat) t v, Tryd.f9.params[j]? = some t → args[j]? = some v → Value.okWide Tryd.prog W .any base t v := hval0
  have hW' := hW
  obtain ⟨p, q, hA0, hV, rfl, hfz, hnd⟩ := hW
  have hA : DataW.TrodAll enc Tryd.prog W 0 (fun _ => true) true Tryd.f9.params.toList args.toList ds p := hA0
  rw [Tryd.params9] at hA hval
  obtain ⟨v0, vs0, d0, ds0, p0, q0, hargs, rfl, rfl, h0, r0⟩ := trodAll_cons hA
  obtain ⟨v1, vs1, d1, ds1, p1, q1, rfl, rfl, rfl, h1, r1⟩ := trodAll_cons r0
  obtain ⟨rfl, rfl, rfl⟩ := trodAll_nil r1
  obtain rfl : args = #[v0, v1] := by cases args; simp_all
  obtain ⟨rfl, rfl⟩ := trodVars_none hV
  obtain ⟨a0, rfl, rfl, rfl, w0⟩ := open_int Tryd.underlying21 (hval 0 21 v0 rfl rfl) h0
  obtain ⟨a1, rfl, rfl, rfl, w1⟩ := open_int Tryd.underlying3 (hval 1 3 v1 rfl rfl) h1
  clear hA0 hval0
  simp only [List.append_nil] at hW'
  refine (walk a0 a1 w0 w1 W (tab_of_laid hL)).mono fun e W' ⟨he, hg⟩ => ?_
  subst he
  exact ⟨_, rfl, post_of_same (pa := []) (pv := []) hW' (fun _ _ _ => (trodAll_cons_mk (shut_bool Tryd.underlying4 _) trodAll_mk0)) (fun sp _ => (trodAll_cons_mk (shut_int Tryd.underlying21 w0) (trodAll_cons_mk (shut_int Tryd.underlying3 w1) trodAll_mk0))) (fun _ _ => rfl) rfl
    (hg.frame _) hg.2.1 (ok_one (by kernel_rfl) rfl (okWide_bool_mk Tryd.underlying4 _))⟩

theorem over : Rows.civilYeardayRow.holds Tryd.pinned (OpenSpec.ofChange Rows.civilYeardaySpec) :=
  OpenClaim.holds_of_wide 9 Tryd.f9 rfl rfl rfl rfl rfl rfl rfl ⟨rfl, rfl, rfl, rfl, rfl⟩ rfl rfl rfl rfl rfl (by kernel_rfl) Tryd.func9 (by kernel_rfl)
    (of_decide_eq_true (by kernel_rfl)) (by unfold Func.isWrapper; first | (rw [if_pos (by decide +kernel)]; kernel_rfl) | (rw [if_neg (by decide +kernel)]; exact ⟨rfl, rfl⟩))
    (fun os started H enc _ => lifted os started H enc)

set_option maxRecDepth 100000 in
theorem proved : Rows.CivilYeardayCardSaid :=
  Claim7.holds_tied_plain_at .later [] [.data] true _ false
    over (fun _ h => by cases h) (by kernel_rfl) (fun _ h => by cases h) civilYearday_row_tie rfl ⟨rfl, rfl⟩ (by kernel_rfl) rfl
    (fun f fn hf hfn => by
      obtain rfl : f = 9 := Option.some.inj ((show Tryd.prog.funcNamed "longcase/longcaselaw02.CivilYearday" = some 9 by kernel_rfl).symm.trans hf) |>.symm
      obtain rfl : fn = Tryd.f9 := (Option.some.inj (Tryd.func9.symm.trans hfn)).symm
      exact ⟨by kernel_rfl, fun j t ht => by
        rw [Tryd.params9] at ht
        have hm : t ∈ [21, 3] := by simpa using Array.mem_of_getElem? ht
        have hall : ([21, 3].all fun u => !Tryd.prog.wantsStandIn u) = true := by kernel_rfl
        exact (show Tryd.prog.wantsStandIn t = false by simpa using List.all_eq_true.1 hall t hm)⟩)
    (by kernel_rfl)
end Go.Proofs.YtpnjdlfiimhpoaaDoor.civilYearday
