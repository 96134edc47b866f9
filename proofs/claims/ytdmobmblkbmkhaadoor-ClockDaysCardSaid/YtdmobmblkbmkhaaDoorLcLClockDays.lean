/-
  ClockDays (longcaselaw03): for every input it answers true, and its arguments read as before; the listed tables as the program lays them. No condition.
-/
import Derived.Test.YtdmobmblkbmkhaaDoorLcShown3
import Derived.Test.YtdmobmblkbmkhaaDoorLcPrm
import Derived.Test.YtdmobmblkbmkhaaDoorLcTxI
import Derived.Test.YtdmobmblkbmkhaaDoorTie
import Derived.Test.YtdmobmblkbmkhaaDoorCards
import Derived.WalkKit
import Derived.ProofKit
import Derived.OpenShut
import Derived.LaidMore
import Derived.Stop.Joined
import Derived.SevenTiedAt
namespace Go.Proofs.YtdmobmblkbmkhaaDoor.clockDays
open Go.ChangeShapes Go.WideShapes Go.ChangeAt Go.RowKit Lc
set_option linter.unusedVariables false

theorem own : ownKnob Tryd.prog.godebug = none := by kernel_rfl

theorem near (x : Int) (h1 : -60000000000000000 < x) (h2 : x < 60000000000086401) : ¬ farB x = true := by
  unfold farB
  rw [ny_first, ny_last]
  simp only [decide_eq_true_eq]
  omega
theorem year_len (y : Int) (h1 : -10000000000 < y) (h2 : y < 10000000000) : 4 ≤ (yearL y).length ∧ (yearL y).length ≤ 11 := by
  have e : (yearL y).length = (dgB y 4).size := by unfold yearL; rfl
  have a := dgB_size (n := y) 4 h1 h2 (by omega)
  have b : 4 ≤ (dgB y 4).size := by
    unfold dgB
    rw [ByteArray.size_append, dgU_size]
    omega
  omega
theorem text_size {y m d h i s : Int} (r : rightC y m d h i s = true) : 19 ≤ (textB y m d h i s).size ∧ (textB y m d h i s).size ≤ 26 := by
  have e : (textB y m d h i s).size = (textB y m d h i s).data.toList.length := (Array.length_toList).symm
  have q := right_true.1 (rightC_true.1 r).1
  have := year_len y (by omega) (by omega)
  rw [e, text_list r]
  simp [dateL, timeL, two]
  omega
theorem text_tail {y m d h i s : Int} (r : rightC y m d h i s = true) : (textB y m d h i s).extract ((textB y m d h i s).size - 8) (textB y m d h i s).size = ⟨(timeL h i s).toArray⟩ := by
  have hl := text_list r
  have e : (textB y m d h i s).size = (textB y m d h i s).data.toList.length := (Array.length_toList).symm
  rw [e]
  apply bytes_inj
  rw [ByteArray.data_extract, Array.toList_extract, hl]
  have l8 : (timeL h i s).length = 8 := by simp [timeL, two]
  have E : yearL y ++ (dateL m d ++ (32 :: timeL h i s)) = (yearL y ++ dateL m d ++ [32]) ++ timeL h i s := by simp
  rw [E]
  generalize yearL y ++ dateL m d ++ [32] = A
  simp [List.extract, l8]
  exact List.take_of_length_le (by omega)
theorem text_cut {y m d h i s : Int} (r : rightC y m d h i s = true) : ∃ n : Nat, (textB y m d h i s).size = n + 8 ∧ 11 ≤ n ∧ n ≤ 18 ∧ (textB y m d h i s).extract n (n + 8) = ⟨(timeL h i s).toArray⟩ := by
  have z := text_size r
  have e := text_tail r
  refine ⟨(textB y m d h i s).size - 8, by omega, by omega, by omega, ?_⟩
  rw [show (textB y m d h i s).size - 8 + 8 = (textB y m d h i s).size by omega]; exact e

set_option maxHeartbeats 8000000 in
set_option maxRecDepth 100000 in
theorem walk (a0 : Int) (w0 : (Lit.int .i64 a0).wf = true) (w : World) (T : Tabs w) :
    Calls Tryd.prog 7 #[.int .i64 a0] w fun e w' => e = .returned (.bool true) ∧ Up w w' := by
  have t := Lib.hid T; clear T
  obtain ⟨f1, f2⟩ := tmod_lt a0 60000000000000000 (by decide)
  have b1 : -60000000000000000 < a0.tmod 60000000000000000 := f1
  have b2 : a0.tmod 60000000000000000 < 60000000000000000 := f2
  clear f1 f2
  obtain ⟨x, hx⟩ : ∃ x, x = a0.tmod 60000000000000000 := ⟨_, rfl⟩
  rw [← hx] at b1 b2
  rcases of_ex x with h | ⟨py, pm, pd, ph, pi, ps, pr, pe⟩
  · exact absurd h (near x (by omega) (by omega))
  rcases of_ex (x + 86400) with h | ⟨qy, qm, qd, qh, qi, qs, qr, qe⟩
  · exact absurd h (near (x + 86400) (by omega) (by omega))
  have PP := sec_parts pr pe
  have QQ := sec_parts qr qe
  have e86 : (x + 86400) % 86400 = x % 86400 := by omega
  rw [e86] at QQ
  obtain rfl : ph = qh := by omega
  obtain rfl : pi = qi := by omega
  obtain rfl : ps = qs := by omega
  clear PP QQ e86
  have OT : ∀ w, Tabs w → _ := fun w T => of_yes x py pm pd ph pi ps w T pr pe
  have OU : ∀ w, Tabs w → _ := fun w T => of_yes (x + 86400) qy qm qd ph pi ps w T qr qe
  have TX : ∀ w, Tabs w → _ := fun w T => text_yes py pm pd ph pi ps w T pr
  have TY : ∀ w, Tabs w → _ := fun w T => text_yes qy qm qd ph pi ps w T qr
  have CX := fun w => compare_any py pm pd ph pi ps qy qm qd ph pi ps w
  rw [comp_sec pr qr, pe, qe, cmp_lt (by omega)] at CX
  obtain ⟨n, sx, n1, n2, ex⟩ := text_cut pr
  obtain ⟨m, sy, m1, m2, ey⟩ := text_cut qr
  clear pr pe qr qe
  generalize (⟨(timeL ph pi ps).toArray⟩ : ByteArray) = TT at *
  have wn : IntKind.i64.wrap (n : Int) = n := IntWalk.i64_in _ (by omega)
  have wm : IntKind.i64.wrap (m : Int) = m := IntWalk.i64_in _ (by omega)
  have wn' : IntKind.i64.wrap ((n : Int) + 8 - 8) = n := by rw [show (n : Int) + 8 - 8 = n by omega]; exact wn
  have wm' : IntKind.i64.wrap ((m : Int) + 8 - 8) = m := by rw [show (m : Int) + 8 - 8 = m by omega]; exact wm
  have ln : ¬ (n : Int) + 8 < 19 := by omega
  have ln8 : (n : Int) ≤ (n : Int) + 8 := by omega
  have lm8 : (m : Int) ≤ (m : Int) + 8 := by omega
  have lm : ¬ (m : Int) + 8 < 19 := by omega
  generalize textB py pm pd ph pi ps = X at *
  generalize textB qy qm qd ph pi ps = Y at *
  have HX : Hid (x = a0.tmod 60000000000000000) := hx
  have hx' : a0.tmod 60000000000000000 = x := hx.symm
  clear hx
  go_enter Tryd.func7, Tryd.ntmps7
  go_wp2_with fail
  refine (shown_any _ (t.out.up (Up.refl _))).mono ?_; rintro e w1 ⟨rfl, u1⟩
  have u := Lib.hid ((Up.refl _).trans u1)
  clear u1
  go_wp2_with fail
  refine (OT _ (t.out.up (u.out))).mono ?_; rintro e w2 ⟨rfl, u2⟩
  replace u := Lib.hid (u.out.trans u2)
  clear u2
  go_wp2_with fail
  refine (OU _ (t.out.up (u.out.alloc' _))).mono ?_; rintro e w3 ⟨rfl, u3⟩
  have b_c := Lib.hid ((Box.new w2 py pm pd ph pi ps 23).up u3)
  replace u := Lib.hid ((u.out.alloc' _).trans u3)
  clear u3
  obtain ⟨c0, c1, c2, c3, c4, c5⟩ := b_c.out
  have l_c := cell_lt c0
  go_wp2_with fail
  clear c0 c1 c2 c3 c4 c5 l_c
  refine (TX _ (t.out.up (u.out.alloc' _))).mono ?_; rintro e w4 ⟨rfl, u4⟩
  replace b_c := Lib.hid (b_c.out.up ((Up.alloc _ _).trans u4))
  have b_d := Lib.hid ((Box.new w3 qy qm qd ph pi ps 23).up u4)
  replace u := Lib.hid ((u.out.alloc' _).trans u4)
  clear u4
  obtain ⟨d0, d1, d2, d3, d4, d5⟩ := b_d.out
  have l_d := cell_lt d0
  go_wp2_with fail
  clear d0 d1 d2 d3 d4 d5 l_d
  refine (TY _ (t.out.up (u.out))).mono ?_; rintro e w5 ⟨rfl, u5⟩
  replace b_c := Lib.hid (b_c.out.up u5)
  replace b_d := Lib.hid (b_d.out.up u5)
  replace u := Lib.hid (u.out.trans u5)
  clear u5
  go_wp2_with fail
  obtain ⟨c0, c1, c2, c3, c4, c5⟩ := b_c.out
  replace c0 := cell_regrown c0
  replace c1 := cell_regrown c1
  replace c2 := cell_regrown c2
  replace c3 := cell_regrown c3
  replace c4 := cell_regrown c4
  replace c5 := cell_regrown c5
  obtain ⟨d0, d1, d2, d3, d4, d5⟩ := b_d.out
  replace d0 := cell_regrown d0
  replace d1 := cell_regrown d1
  replace d2 := cell_regrown d2
  replace d3 := cell_regrown d3
  replace d4 := cell_regrown d4
  replace d5 := cell_regrown d5
  have Q0 := quiet_up (w := w5) (fun V U => CX V)
  refine wp_region_quiet_below (by kernel_rfl) (by kernel_rfl) ?_
  repeat (quiet_step (first | (with_reducible exact Q0 _ _)))
  refine wpQuiet_nil ?_
  intro _ hw'
  obtain ⟨⟨dq, osq⟩, hw''⟩ := hw'
  subst hw''
  clear c0 c1 c2 c3 c4 c5 d0 d1 d2 d3 d4 d5 Q0
  have u6 : Up w5 (Sort.grow (redrawn w5 dq) osq) := below_regrown w5 dq osq
  generalize Sort.grow (redrawn w5 dq) osq = w6 at *
  replace b_c := Lib.hid (b_c.out.up u6)
  replace b_d := Lib.hid (b_d.out.up u6)
  replace u := Lib.hid (u.out.trans u6)
  clear u6 dq osq
  go_wp2_with fail
  go_ret
  exact ⟨rfl, u.out⟩

set_option maxRecDepth 100000 in
theorem lifted (os : Os) (started : os.Started) (H : Type) (enc : TypeId × Value → H) :
    ReturnsInHanded {} Tryd.checked os 7 .any (fun w args => (Rows.clockDaysSpec.pre enc Tryd.prog Tryd.f7 [] false w args ∧ laidMetH Tryd.prog laidD w) ∧ sizedMet enc Tryd.prog Tryd.f7 (OpenSpec.ofChange Rows.clockDaysSpec) false w args) (Rows.clockDaysSpec.post enc Tryd.prog Tryd.f7 false true false false) := by
  refine returnsInHanded_of_change_and (C := Tryd.checked) (X := fun w _ => laidMetH Tryd.prog laidD w) (fun _ _ _ hh h => h.of_heap hh) own started (by kernel_rfl) Tryd.func7
    (ChangeSpec.witness_shaped (enc := enc) (C := Tryd.checked) (os := os) (X := fun w _ => laidMetH Tryd.prog laidD w) false (World.doorLaid Tryd.prog 400 os) #[.int .i64 0] 8 rfl (World.shaped_of_RefB (by kernel_rfl) (by kernel_rfl)) (by kernel_rfl) (by kernel_rfl) (by kernel_rfl) (door_metD os _)) ?_
  intro W base args ds gs before hval0 hW _ _ hL _
  have hval : ∀ (j : Nat) t v, Tryd.f7.params[j]? = some t → args[j]? = some v → Value.okWide Tryd.prog W .any base t v := hval0
  have hW' := hW
  obtain ⟨p, q, hA0, hV, rfl, hfz, hnd⟩ := hW
  have hA : DataW.TrodAll enc Tryd.prog W 0 (fun _ => true) true Tryd.f7.params.toList args.toList ds p := hA0
  rw [Tryd.params7] at hA hval
  obtain ⟨v0, vs0, d0, ds0, p0, q0, hargs, rfl, rfl, h0, r0⟩ := trodAll_cons hA
  obtain ⟨rfl, rfl, rfl⟩ := trodAll_nil r0
  obtain rfl : args = #[v0] := by cases args; simp_all
  obtain ⟨rfl, rfl⟩ := trodVars_none hV
  obtain ⟨a0, rfl, rfl, rfl, w0⟩ := open_int Tryd.underlying2 (hval 0 2 v0 rfl rfl) h0
  clear hA0 hval0
  simp only [List.append_nil] at hW'
  refine (walk a0 w0 W (tabs_of_laid hL)).mono fun e W' ⟨he, hg⟩ => ?_
  subst he
  exact ⟨_, rfl, post_flat hW' (fun _ _ _ => (trodAll_cons_mk (shut_bool Tryd.underlying4 _) trodAll_mk0)) (fun sp => (trodAll_cons_mk (shut_int Tryd.underlying2 w0) trodAll_mk0)) (fun _ => rfl)
    hg (ok_one (by kernel_rfl) rfl (okWide_bool_mk Tryd.underlying4 _))⟩

theorem over : Rows.clockDaysRow.holds Tryd.pinned (OpenSpec.ofChange Rows.clockDaysSpec) :=
  OpenClaim.holds_of_wide 7 Tryd.f7 rfl rfl rfl rfl rfl rfl rfl ⟨rfl, rfl, rfl, rfl, rfl⟩ rfl rfl rfl rfl rfl (by kernel_rfl) Tryd.func7 (by kernel_rfl)
    (of_decide_eq_true (by kernel_rfl)) (by unfold Func.isWrapper; first | (rw [if_pos (by decide +kernel)]; kernel_rfl) | (rw [if_neg (by decide +kernel)]; exact ⟨rfl, rfl⟩))
    (fun os started H enc _ => lifted os started H enc)

set_option maxRecDepth 100000 in
theorem proved : Rows.ClockDaysCardSaid :=
  Claim7.holds_tied_plain_at .later [] [.data, .data, .data, .data] true _ false
    over (fun _ h => by cases h) (by kernel_rfl) (fun _ h => by cases h) clockDays_row_tie rfl ⟨rfl, rfl⟩ (by kernel_rfl) rfl
    (fun f fn hf hfn => by
      obtain rfl : f = 7 := Option.some.inj ((show Tryd.prog.funcNamed "longcase/longcaselaw03.ClockDays" = some 7 by kernel_rfl).symm.trans hf) |>.symm
      obtain rfl : fn = Tryd.f7 := (Option.some.inj (Tryd.func7.symm.trans hfn)).symm
      exact ⟨by kernel_rfl, fun j t ht => by
        rw [Tryd.params7] at ht
        have hm : t ∈ [2] := by simpa using Array.mem_of_getElem? ht
        have hall : ([2].all fun u => !Tryd.prog.wantsStandIn u) = true := by kernel_rfl
        exact (show Tryd.prog.wantsStandIn t = false by simpa using List.all_eq_true.1 hall t hm)⟩)
    (by kernel_rfl)
end Go.Proofs.YtdmobmblkbmkhaaDoor.clockDays
