/-
  Whatever the header: if it is right, its six numbers stand in their order, by four bytes each (longcaselaw05.HeaderCounts). No condition.
-/
import Derived.Test.YtpnnfihaokebcaaLcShown5
import Derived.Test.YtpnnfihaokebcaaLcPst
import Derived.Test.YtpnnfihaokebcaaLcHdO
import Derived.WalkKit
import Derived.Deep.RegionHeld
import Derived.BigQuiet
import Derived.ProofKit
import Derived.OpenShut
namespace Go.Proofs.Ytpnnfihaokebcaa.headerCounts
open Go.ChangeShapes Go.WideShapes Go.ChangeAt Go.RowKit Lc
set_option linter.unusedVariables false

theorem own : ownKnob Try.prog.godebug = none := by kernel_rfl

theorem take_snoc (X : List UInt8) (p m : Nat) (h : p + m < X.length) : beN ((X.drop p).take (m + 1)) = beN ((X.drop p).take m) * 256 + (X.getD (p + m) 0).toNat := by
  have e : (X.drop p).take (m + 1) = (X.drop p).take m ++ [X.getD (p + m) 0] := by
    rw [List.take_add_one]
    congr 1
    rw [List.getElem?_drop]
    simp [h]
  rw [e, beN_append]
  simp [beN]
/-- What the six are, in order. -/
def six (u s l t y c : Int) (k : Nat) : Int := [u, s, l, t, y, c].getD k 0
theorem six_cell (w : World) (u s l t y c : Int) (ty : TypeId) (k : Nat) (h : k < 6) : (w.alloc (.cells #[.int .i64 u, .int .i64 s, .int .i64 l, .int .i64 t, .int .i64 y, .int .i64 c] ty)).cell? ⟨w.heap.size, k, none⟩ = some (.int .i64 (six u s l t y c k)) := by
  have : k = 0 ∨ k = 1 ∨ k = 2 ∨ k = 3 ∨ k = 4 ∨ k = 5 := by omega
  rcases this with rfl | rfl | rfl | rfl | rfl | rfl <;> simp [six]
theorem six_cnt {v u s l t y c : Int} (r : rightH v u s l t y c = true) (k : Nat) (h : k < 6) : ((beN (((encB v u s l t y c).drop (20 + 4 * k)).take 4) : Nat) : Int) = six u s l t y c k := by
  have b := rightH_true.1 r
  have hb : IsB (encB v u s l t y c) v u s l t y c := by have := isB_enc v u s l t y c []; rwa [List.append_nil] at this
  have : 0 ≤ [u, s, l, t, y, c].getD k 0 ∧ [u, s, l, t, y, c].getD k 0 < 4294967296 := by
    have : k = 0 ∨ k = 1 ∨ k = 2 ∨ k = 3 ∨ k = 4 ∨ k = 5 := by omega
    rcases this with rfl | rfl | rfl | rfl | rfl | rfl <;> simp <;> omega
  exact isB_cnt hb k h this.1 this.2
theorem beN_bd (X : List UInt8) (p m : Nat) (h : m ≤ 4) : beN ((X.drop p).take m) < 4294967296 := by
  have := beN_lt ((X.drop p).take m)
  have e : 256 ^ ((X.drop p).take m).length ≤ 256 ^ 4 := Nat.pow_le_pow_right (by omega) (by rw [List.length_take]; omega)
  exact Nat.lt_of_lt_of_le this e
theorem mark_at (v u s l t y c : Int) : (encB v u s l t y c).getD 4 0 = markB v := rfl
theorem tz_at (v u s l t y c : Int) : (encB v u s l t y c).take 4 = tz := rfl
theorem mark_2 {v : Int} (h1 : 1 ≤ v) (h4 : v ≤ 4) (h : ¬ v = 1) : ((markB v).toNat : Int) = 48 + v := by
  have : v = 2 ∨ v = 3 ∨ v = 4 := by omega
  rcases this with rfl | rfl | rfl <;> decide

set_option maxHeartbeats 4000000 in
set_option maxRecDepth 100000 in
theorem walk (w : World) (ve0 ut0 st0 le0 ti0 ty0 ch0 : Int) (wve0 : (Lit.int .i64 ve0).wf = true) (wut0 : (Lit.int .i64 ut0).wf = true) (wst0 : (Lit.int .i64 st0).wf = true) (wle0 : (Lit.int .i64 le0).wf = true) (wti0 : (Lit.int .i64 ti0).wf = true) (wty0 : (Lit.int .i64 ty0).wf = true) (wch0 : (Lit.int .i64 ch0).wf = true) :
    Calls Try.prog 8 #[hv ve0 ut0 st0 le0 ti0 ty0 ch0] w fun e w' => e = .returned (.bool true) ∧ Up w w' := by
  have B0 := Lib.hid (HBox.new w ve0 ut0 st0 le0 ti0 ty0 ch0 23)
  cases r : rightH ve0 ut0 st0 le0 ti0 ty0 ch0
  · have E := Lib.hid fun w => encode_no ve0 ut0 st0 le0 ti0 ty0 ch0 w r
    clear r
    go_enter Try.func8, Try.ntmps8
    go_wp2_with fail
    refine (shown_any _).mono ?_; rintro e w1 ⟨rfl, u1⟩
    have B1 := Lib.hid (B0.out.up u1)
    have U1 := Lib.hid ((Up.alloc w (.cells #[.int .i64 ve0, .int .i64 ut0, .int .i64 st0, .int .i64 le0, .int .i64 ti0, .int .i64 ty0, .int .i64 ch0] 23)).trans u1)
    clear u1 B0
    obtain ⟨a0, a1, a2, a3, a4, a5, a6⟩ := B1.out
    go_wp2_with fail
    refine (E.out _).mono ?_; rintro e w4 ⟨rfl, u4⟩
    have U4 := Lib.hid (U1.out.trans u4)
    clear u4 B1 U1 a0 a1 a2 a3 a4 a5 a6
    go_wp2_with fail
    go_ret
    exact ⟨rfl, U4.out⟩
  · have E := Lib.hid fun w => encode_yes ve0 ut0 st0 le0 ti0 ty0 ch0 w r
    have eL := encB_len ve0 ut0 st0 le0 ti0 ty0 ch0
    have NN := Lib.hid (six_cnt r)
    have ve1 := (rightH_true.1 r).1
    have ve4 := (rightH_true.1 r).2.1
    have MA := Lib.hid (mark_at ve0 ut0 st0 le0 ti0 ty0 ch0)
    have TZ := Lib.hid (tz_at ve0 ut0 st0 le0 ti0 ty0 ch0)
    have SN := Lib.hid (take_snoc (encB ve0 ut0 st0 le0 ti0 ty0 ch0))
    have BB := Lib.hid (beN_bd (encB ve0 ut0 st0 le0 ti0 ty0 ch0))
    generalize encB ve0 ut0 st0 le0 ti0 ty0 ch0 = X at *
    have XL := Lib.hid eL
    clear eL
    go_enter Try.func8, Try.ntmps8
    go_wp2_with fail
    refine (shown_any _).mono ?_; rintro e w1 ⟨rfl, u1⟩
    have B1 := Lib.hid (B0.out.up u1)
    have U1 := Lib.hid ((Up.alloc w (.cells #[.int .i64 ve0, .int .i64 ut0, .int .i64 st0, .int .i64 le0, .int .i64 ti0, .int .i64 ty0, .int .i64 ch0] 23)).trans u1)
    clear u1 B0
    obtain ⟨a0, a1, a2, a3, a4, a5, a6⟩ := B1.out
    go_wp2_with fail
    refine (E.out _).mono ?_; rintro e w4 ⟨a, rfl, ho, u4⟩
    obtain ⟨A, c, rfl, hc, hcm, hr, _⟩ := ho.form
    rw [XL.out] at hc ⊢
    obtain ⟨b, o, rfl, hcell⟩ := hr (by rw [XL.out]; decide)
    have R4 := Lib.hid hr
    have HC := Lib.hid hcell
    have B4 := Lib.hid (B1.out.up u4)
    have U4 := Lib.hid (U1.out.trans u4)
    clear u4 B1 U1 a0 a1 a2 a3 a4 a5 a6 ho hr hcell
    have GC := Lib.hid (six_cell w4 ut0 st0 le0 ti0 ty0 ch0 3)
    have U5 := Lib.hid (U4.out.alloc' (.cells #[.int .i64 ut0, .int .i64 st0, .int .i64 le0, .int .i64 ti0, .int .i64 ty0, .int .i64 ch0] 3))
    have B5 := Lib.hid (B4.out.up (Up.alloc w4 (.cells #[.int .i64 ut0, .int .i64 st0, .int .i64 le0, .int .i64 ti0, .int .i64 ty0, .int .i64 ch0] 3)))
    have R5 := Lib.hid (R4.out.up (Up.alloc w4 (.cells #[.int .i64 ut0, .int .i64 st0, .int .i64 le0, .int .i64 ti0, .int .i64 ty0, .int .i64 ch0] 3)))
    have HC5 : Hid (∀ i, i < 44 → (w4.alloc (.cells #[.int .i64 ut0, .int .i64 st0, .int .i64 le0, .int .i64 ti0, .int .i64 ty0, .int .i64 ch0] 3)).cell? ⟨b, o + i, none⟩ = some (.int .u8 (X.getD i 0).toNat)) := fun i hi => (Up.alloc w4 _).cell (HC.out i (by rw [XL.out]; exact hi))
    obtain ⟨a0, a1, a2, a3, a4, a5, a6⟩ := B4.out
    go_wp2_with fail
    clear a0 a1 a2 a3 a4 a5 a6 B4 U4 R4 HC
    generalize w4.alloc (.cells #[.int .i64 ut0, .int .i64 st0, .int .i64 le0, .int .i64 ti0, .int .i64 ty0, .int .i64 ch0] 3) = W at *
    generalize w4.heap.size = g at *
    generalize six ut0 st0 le0 ti0 ty0 ch0 = F at *
    go_loop [7] (fun i => ∃ k : Nat, k ≤ 6 ∧ i = .int .i64 k) (fun i => (7 - intOf i).toNat)
    case atStart => exact ⟨0, by omega, rfl⟩
    case round =>
      obtain ⟨k, hk, rfl⟩ := hrel
      by_cases hlt : k < 6
      · go_wp2_with fail
        have hb := BB.out (20 + 4 * k)
        go_loop [8, 9] (fun n m => ∃ j : Nat, j ≤ 4 ∧ m = .int .i64 j ∧ n = .int .i64 ((beN ((X.drop (20 + 4 * k)).take j) : Nat) : Int)) (fun _ m => (5 - intOf m).toNat)
        case atStart => exact ⟨0, by omega, rfl, by simp [beN]⟩
        case round =>
          obtain ⟨j, hj, rfl, rfl⟩ := hrel
          by_cases hlj : j < 4
          · have hc := HC5.out (20 + 4 * k + j) (by omega)
            have hs := Lib.hid (SN.out (20 + 4 * k) j (by rw [XL.out]; omega))
            have b0 := hb j (by omega)
            generalize beN ((X.drop (20 + 4 * k)).take j) = n at *
            have bx := (X.getD (20 + 4 * k + j) 0).toNat_lt
            generalize (X.getD (20 + 4 * k + j) 0).toNat = x at *
            go_wp2_with fail
            go_round
            case rel =>
              refine ⟨j + 1, by omega, by go_num, ?_⟩
              rw [hs.out]
              congr 1
            case measure => simp [intOf]; omega
          · obtain rfl : j = 4 := by omega
            have nn := NN.out k hlt
            have gc := GC.out k hlt
            rw [nn]
            generalize F k = f at *
            go_wp2_with fail
            go_round
            case rel => exact ⟨k + 1, by omega, by go_num⟩
            case measure => simp [intOf]; omega
      · obtain rfl : k = 6 := by omega
        have V4 := fun n => convert_at (W.drewN n) b o 4 c (X.take 4) (by rw [List.length_take, XL.out]; rfl) ((R5.out.up (Up.drewN W n)).take 4)
        have heq : ((str (X.take 4)).toList == [84, 90, 105, 102]) = true := str_eq TZ.out
        generalize str (X.take 4) = z at *
        have c4 := HC5.out 4 (by omega)
        have a0 := B5.out.1
        have hx : Hid (X.getD 4 0 = markB ve0) := MA.out
        have xl := (X.getD 4 0).toNat_lt
        have ci : (4 : Int) ≤ (c : Int) := by omega
        have ci' : ¬ ((c : Int) < 4) := by omega
        by_cases hv1 : ve0 = 1
        · subst hv1
          rw [hx.out, show (markB 1).toNat = 0 from rfl] at c4
          go_wp2_with fail
          go_quiet (fail)
          go_wp2_with fail
          go_ret
          exact ⟨rfl, U5.out.trans (Up.drewN W _)⟩
        · have m2 := mark_2 ve1 ve4 hv1
          rw [hx.out] at c4
          generalize ((markB ve0).toNat : Int) = x at *
          subst m2
          have g1 : (decide (ve0 = 1)) = false := by simp [hv1]
          have g2 : (ve0 == 1) = false := by simp [hv1]
          go_wp2_with fail
          go_quiet (fail)
          go_wp2_with fail
          go_ret
          exact ⟨rfl, U5.out.trans (Up.drewN W _)⟩

theorem readable : ∀ t ∈ Try.f8.params.toList, Try.prog.readableRec t = true ∧ t < Try.prog.types.size := by
  rw [Try.params8]
  intro t ht
  have hall : ([23].all fun u => Try.prog.readableRec u && decide (u < Try.prog.types.size)) = true := by kernel_rfl
  have := List.all_eq_true.1 hall t (by simpa using ht)
  simpa using this

set_option maxRecDepth 100000 in
theorem lifted (os : Os) (started : os.Started) (H : Type) (enc : TypeId × Value → H) :
    ReturnsInHanded {} Try.checked os 8 .any (Rows.headerCountsSpec.pre6 enc Try.prog Try.f8 Rows.headerCountsRow.domain false) (Rows.headerCountsSpec.post enc Try.prog Try.f8 false true false false) := by
  refine returnsInHanded_of_change (C := Try.checked) own started (by kernel_rfl) Try.func8
    (ChangeSpec.witness6 (enc := enc) (C := Try.checked) false ⟨#[], #[hv 0 0 0 0 0 0 0], []⟩ 8 (by kernel_rfl) (by kernel_rfl) (by kernel_rfl) (by kernel_rfl)) ?_
  intro W base args ds gs before hval0 hW hcnd _
  have hval : ∀ (j : Nat) t v, Try.f8.params[j]? = some t → args[j]? = some v → Value.okWide Try.prog W .any base t v := hval0
  have hW' := hW
  obtain ⟨p, q, hA0, hV, rfl, hfz, hnd⟩ := hW
  have hA : DataW.TrodAll enc Try.prog W 0 (fun _ => true) true Try.f8.params.toList args.toList ds p := hA0
  rw [Try.params8] at hA hval
  obtain ⟨v0, vs0, d0, ds0, p0, q0, hargs, rfl, rfl, h0, r0⟩ := trodAll_cons hA
  obtain ⟨rfl, rfl, rfl⟩ := trodAll_nil r0
  obtain rfl : args = #[v0] := by cases args; simp_all
  obtain ⟨rfl, rfl⟩ := trodVars_none hV
  obtain ⟨ve0, ut0, st0, le0, ti0, ty0, ch0, rfl, wve0, wut0, wst0, wle0, wti0, wty0, wch0⟩ := open_hdr (hval 0 23 v0 rfl rfl) h0
  clear hA0 hval0
  refine (walk W ve0 ut0 st0 le0 ti0 ty0 ch0 wve0 wut0 wst0 wle0 wti0 wty0 wch0).mono fun e W' ⟨he, hg⟩ => ?_
  subst he
  exact ⟨_, rfl, post_up laidOut readable rfl hW' (fun _ _ _ => (trodAll_cons_mk (shut_bool Try.underlying4 _) trodAll_mk0)) rfl rfl
    hg (ok_one (by kernel_rfl) rfl (okWide_bool_mk Try.underlying4 _))⟩

theorem over : Rows.headerCountsRow.holds Try.pinned (OpenSpec.ofChange Rows.headerCountsSpec) :=
  OpenClaim.holds_of_wide 8 Try.f8 rfl rfl rfl rfl rfl rfl rfl ⟨rfl, rfl, rfl, rfl, rfl⟩ rfl rfl rfl rfl rfl (by kernel_rfl) Try.func8 (by kernel_rfl)
    (of_decide_eq_true (by kernel_rfl)) (by unfold Func.isWrapper; first | (rw [if_pos (by decide +kernel)]; kernel_rfl) | (rw [if_neg (by decide +kernel)]; exact ⟨rfl, rfl⟩))
    (fun os started H enc _ => lifted os started H enc)

theorem proved : Rows.HeaderCountsSaid :=
  over
end Go.Proofs.Ytpnnfihaokebcaa.headerCounts
