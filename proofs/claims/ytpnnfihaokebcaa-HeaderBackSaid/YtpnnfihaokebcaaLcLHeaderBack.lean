/-
  Whatever the header, and bytes: what was told of a right header is read as it was, whatever stands in the fifteen bytes, and behind; a byte less is too short (longcaselaw05.HeaderBack). No condition.
-/
import Derived.Test.YtpnnfihaokebcaaLcShown5
import Derived.Test.YtpnnfihaokebcaaLcPst
import Derived.Test.YtpnnfihaokebcaaLcHdO
import Derived.Test.YtpnnfihaokebcaaLcRow
import Derived.WalkKit
import Derived.Deep.RegionHeld
import Derived.BigQuiet
import Derived.ProofKit
import Derived.OpenShut
namespace Go.Proofs.Ytpnnfihaokebcaa.headerBack
open Go.ChangeShapes Go.WideShapes Go.ChangeAt Go.RowKit Lc
set_option linter.unusedVariables false

theorem own : ownKnob Try.prog.godebug = none := by kernel_rfl

theorem cut50 {w : World} {A : Option Addr} {l : List UInt8} {c : Nat} (n : l.length ≤ c) (r : Rd w A l) : ∃ (k : List UInt8) (p : Nat), k.length = p ∧ p ≤ 50 ∧ p ≤ l.length ∧ p ≤ c ∧ min (l.length : Int) 50 = (p : Int) ∧ Rd w A k :=
  ⟨l.take 50, _, rfl, by rw [List.length_take]; omega, by rw [List.length_take]; omega, by rw [List.length_take]; omega, by rw [List.length_take]; omega, r.take 50⟩
/-- A byte of the fifteen is set. -/
theorem isB_set {x : List UInt8} {v u s l t y c : Int} (h : IsB x v u s l t y c) (i : Nat) (hi : i < 15) (b : UInt8) : IsB (x.set (5 + i) b) v u s l t y c := by
  obtain ⟨p, q, hp, rfl⟩ := h
  refine ⟨p.set i b, q, by rw [List.length_set]; exact hp, ?_⟩
  have h4 : (tz ++ (markB v :: p)).length = 20 := by simp [tz, hp]
  rw [List.set_append_left _ _ (by omega)]
  congr 1
  rw [List.set_append_right _ _ (by show 4 ≤ 5 + i; omega)]
  congr 1
  show (markB v :: p).set (5 + i - 4) b = _
  rw [show 5 + i - 4 = i + 1 by omega, List.set_cons_succ]
/-- What the loop leaves as it is. -/
def Fif (wr : World) (g p : Nat) (v u s l t y c : Int) : Prop := ∃ Y, Y.length = 44 + p ∧ IsB Y v u s l t y c ∧ Bk wr g Y
theorem short43 (A : Option Addr) (X : List UInt8) (c : Nat) (w : World) (h : X.length = 44) : Calls Try.prog 17 #[.slice A 43 c] w fun e w' => e = .returned (.tuple #[hv 0 0 0 0 0 0 0, .int .i64 5]) ∧ Up w w' := by
  have e : (X.take 43).length = 43 := by rw [List.length_take]; omega
  have := decode_short A (X.take 43) c w (by omega)
  rw [e] at this
  exact this

set_option maxHeartbeats 4000000 in
set_option maxRecDepth 100000 in
theorem walk (w : World) (ve0 ut0 st0 le0 ti0 ty0 ch0 : Int) (A1 : Option Addr) (l1 : List UInt8) (c1 : Nat) (wve0 : (Lit.int .i64 ve0).wf = true) (wut0 : (Lit.int .i64 ut0).wf = true) (wst0 : (Lit.int .i64 st0).wf = true) (wle0 : (Lit.int .i64 le0).wf = true) (wti0 : (Lit.int .i64 ti0).wf = true) (wty0 : (Lit.int .i64 ty0).wf = true) (wch0 : (Lit.int .i64 ch0).wf = true) (n1 : l1.length ≤ c1) (m1 : c1 ≤ maxLen) (r1 : Rd w A1 l1) :
    Calls Try.prog 5 #[hv ve0 ut0 st0 le0 ti0 ty0 ch0, .slice A1 l1.length c1] w fun e w' => e = .returned (.bool true) ∧ Up w w' := by
  obtain ⟨k1, p1, e1, p1a, p1b, p1c, q1, R1⟩ := cut50 n1 r1
  replace R1 := Lib.hid R1; replace e1 := Lib.hid e1
  clear r1
  have B0 := Lib.hid (HBox.new w ve0 ut0 st0 le0 ti0 ty0 ch0 23)
  have R := Lib.hid fun w => hright_any ve0 ut0 st0 le0 ti0 ty0 ch0 w
  cases r : rightH ve0 ut0 st0 le0 ti0 ty0 ch0
  · have E := Lib.hid fun w => encode_no ve0 ut0 st0 le0 ti0 ty0 ch0 w r
    rw [r] at R
    clear r
    go_enter Try.func5, Try.ntmps5
    go_wp2_with fail
    refine (shown_any _).mono ?_; rintro e w1 ⟨rfl, u1⟩
    have B1 := Lib.hid (B0.out.up u1)
    have U1 := Lib.hid ((Up.alloc w (.cells #[.int .i64 ve0, .int .i64 ut0, .int .i64 st0, .int .i64 le0, .int .i64 ti0, .int .i64 ty0, .int .i64 ch0] 23)).trans u1)
    clear u1 B0
    obtain ⟨a0, a1, a2, a3, a4, a5, a6⟩ := B1.out
    go_wp2_with fail
    refine (E.out _).mono ?_; rintro e w4 ⟨rfl, u4⟩
    have B4 := Lib.hid (B1.out.up u4)
    have U4 := Lib.hid (U1.out.trans u4)
    clear u4 B1 U1 a0 a1 a2 a3 a4 a5 a6
    obtain ⟨a0, a1, a2, a3, a4, a5, a6⟩ := B4.out
    go_wp2_with fail
    refine (R.out _).mono ?_; rintro e w5 ⟨rfl, u5⟩
    have U5 := Lib.hid (U4.out.trans u5)
    clear a0 a1 a2 a3 a4 a5 a6
    go_wp2_with fail
    go_ret
    exact ⟨rfl, U5.out⟩
  · have E := Lib.hid fun w => encode_yes ve0 ut0 st0 le0 ti0 ty0 ch0 w r
    have IS := Lib.hid (isB_enc ve0 ut0 st0 le0 ti0 ty0 ch0)
    have eL := encB_len ve0 ut0 st0 le0 ti0 ty0 ch0
    generalize encB ve0 ut0 st0 le0 ti0 ty0 ch0 = X at *
    have XL := Lib.hid eL
    clear eL
    go_enter Try.func5, Try.ntmps5
    go_wp2_with fail
    refine (shown_any _).mono ?_; rintro e w1 ⟨rfl, u1⟩
    have B1 := Lib.hid (B0.out.up u1)
    have U1 := Lib.hid ((Up.alloc w (.cells #[.int .i64 ve0, .int .i64 ut0, .int .i64 st0, .int .i64 le0, .int .i64 ti0, .int .i64 ty0, .int .i64 ch0] 23)).trans u1)
    clear u1 B0
    obtain ⟨a0, a1, a2, a3, a4, a5, a6⟩ := B1.out
    go_wp2_with fail
    refine (E.out _).mono ?_; rintro e w4 ⟨a, rfl, ho, u4⟩
    obtain ⟨A, c, rfl, hc, hcm, hr, _⟩ := ho.form
    rw [XL.out] at hc ⊢
    have R4 := Lib.hid hr
    have B4 := Lib.hid (B1.out.up u4)
    have U4 := Lib.hid (U1.out.trans u4)
    clear u4 B1 U1 a0 a1 a2 a3 a4 a5 a6 ho hr
    go_wp2_with (at_builtin; refine wpList_append_bytes _ rfl _ _ rfl w4.heap.size _ [] rfl (Ow.empty w4 _ (Nat.le_refl _)) A X 44 c rfl XL.out (R4.out.up (Up.alloc _ _)) (by rw [XL.out]; decide) (by simp) ?_)
    intro v5 w5 ho5 hg5 hat5
    replace ho5 : Ow w5 w4.heap.size v5 X := by simpa using ho5
    have S5 : Hid (w4.heap.size ≤ w5.heap.size) := by have := hg5.size; simp at this; unfold Hid; omega
    have U5 : Hid (Up w4 w5) := (Up.alloc w4 _).grown hg5 (by intro k hk; simp [Value.ownBlock] at hk; omega)
    have O5 := Lib.hid ho5
    clear ho5 hg5 hat5
    go_wp2_with (at_builtin; refine wpList_append_bytes _ rfl _ _ rfl w4.heap.size _ X rfl O5.out A1 k1 p1 c1 rfl e1.out (R1.out.up (U4.out.trans U5.out)) ?e1 S5.out ?_)
    case e1 => rw [XL.out]; have := e1.out; omega
    intro v6 w6 ho6 hg6 hat6
    have U6 : Hid (Up w4 w6) := U5.out.grown hg6 O5.out.block
    obtain ⟨g, c6, rfl, g0, g1, hc6, hcm6, bk6⟩ := ho6.bk (by rw [List.length_append, XL.out]; omega)
    have L6 : Hid ((X ++ k1).length = 44 + p1) := by unfold Hid; rw [List.length_append, XL.out, e1.out]
    rw [L6.out] at hc6 ⊢
    have F6 : Hid (Fif w6 g p1 ve0 ut0 st0 le0 ti0 ty0 ch0) := ⟨_, L6.out, IS.out k1, bk6⟩
    clear ho6 hg6 hat6 bk6 O5 S5 U5 L6
    have PE := Lib.hid (show k1.length = p1 from e1.out)
    go_wp2_with fail
    go_loopw [9] (fun i wr => ∃ j : Nat, j ≤ 15 ∧ j ≤ p1 ∧ i = .int .i64 j ∧ Hid (Fif wr g p1 ve0 ut0 st0 le0 ti0 ty0 ch0) ∧ Hid (Up w4 wr)) (fun i _ => (16 - intOf i).toNat)
    case atStart => exact ⟨0, by omega, by omega, rfl, F6.out, U6.out⟩
    case round =>
      obtain ⟨j, hj, hjp, rfl, F, U⟩ := hrel
      by_cases h15 : j < 15
      · by_cases hp : j < p1
        · obtain ⟨Y, yl, ys, yb⟩ := F.out
          obtain ⟨b1, o1, rfl, hc1⟩ := (R1.out.up (U4.out.trans U.out)) (by rw [PE.out]; omega)
          have cm := hc1 j (by rw [PE.out]; exact hp)
          obtain ⟨y1, y2⟩ := yb (5 + j) (by omega)
          have F' : Hid (Fif (wr.setCell ⟨g, 5 + j, none⟩ (.int .u8 (k1.getD j 0).toNat)) g p1 ve0 ut0 st0 le0 ti0 ty0 ch0) := ⟨Y.set (5 + j) (k1.getD j 0), by rw [List.length_set]; exact yl, isB_set ys j h15 _, yb.set (by omega) _⟩
          have U' : Hid (Up w4 (wr.setCell ⟨g, 5 + j, none⟩ (.int .u8 (k1.getD j 0).toNat))) := U.out.setCell' g0 _
          generalize ((k1.getD j 0).toNat : Int) = x at *
          clear yl ys yb F U F6 U6 hc1
          go_wp2_with fail
          go_roundw
          case rel => exact ⟨j + 1, by omega, by omega, by go_num, F'.out, U'.out⟩
          case measure => simp [intOf]; omega
        · obtain rfl : p1 = j := by omega
          obtain ⟨Y, yl, ys, yb⟩ := F.out
          have RY := Lib.hid yb.rd
          have YL := Lib.hid yl; have YS := Lib.hid ys
          clear yl ys yb F F6 U6
          skip
          go_wp2_with fail
          refine (rd_decode _ Y (44 + p1) c6 wr ve0 ut0 st0 le0 ti0 ty0 ch0 YL.out hc6 hcm6 RY.out YS.out r).mono ?_
          rintro e w7 ⟨rfl, u7⟩
          have U7 := Lib.hid (U.out.trans u7)
          have K7 := Lib.hid (HBox.new w7 ve0 ut0 st0 le0 ti0 ty0 ch0 23)
          have U7' := Lib.hid (U7.out.alloc' (.cells #[.int .i64 ve0, .int .i64 ut0, .int .i64 st0, .int .i64 le0, .int .i64 ti0, .int .i64 ty0, .int .i64 ch0] 23))
          clear u7 U RY YL YS
          go_wp2_with fail
          refine (short43 A X c _ XL.out).mono ?_
          rintro e w8 ⟨rfl, u8⟩
          have U8 := Lib.hid (U7'.out.trans u8)
          obtain ⟨b0, b1, b2, b3, b4, b5, b6⟩ := K7.out.up u8
          obtain ⟨a0, a1, a2, a3, a4, a5, a6⟩ := B4.out.up U8.out
          clear u8 U7 U7' K7 B4
          have lt1 := cell_lt a0; have lt2 := cell_lt b0
          go_wp2_with fail
          go_ret
          exact ⟨rfl, U4.out.trans (U8.out.alloc' _)⟩
      · obtain rfl : j = 15 := by omega
        obtain ⟨Y, yl, ys, yb⟩ := F.out
        have RY := Lib.hid yb.rd
        have YL := Lib.hid yl; have YS := Lib.hid ys
        clear yl ys yb F F6 U6
        rw [show (((15 : Nat) : Int)) = (15 : Int) from rfl]
        go_wp2_with fail
        refine (rd_decode _ Y (44 + p1) c6 wr ve0 ut0 st0 le0 ti0 ty0 ch0 YL.out hc6 hcm6 RY.out YS.out r).mono ?_
        rintro e w7 ⟨rfl, u7⟩
        have U7 := Lib.hid (U.out.trans u7)
        have K7 := Lib.hid (HBox.new w7 ve0 ut0 st0 le0 ti0 ty0 ch0 23)
        have U7' := Lib.hid (U7.out.alloc' (.cells #[.int .i64 ve0, .int .i64 ut0, .int .i64 st0, .int .i64 le0, .int .i64 ti0, .int .i64 ty0, .int .i64 ch0] 23))
        clear u7 U RY YL YS
        go_wp2_with fail
        refine (short43 A X c _ XL.out).mono ?_
        rintro e w8 ⟨rfl, u8⟩
        have U8 := Lib.hid (U7'.out.trans u8)
        obtain ⟨b0, b1, b2, b3, b4, b5, b6⟩ := K7.out.up u8
        obtain ⟨a0, a1, a2, a3, a4, a5, a6⟩ := B4.out.up U8.out
        clear u8 U7 U7' K7 B4
        have lt1 := cell_lt a0; have lt2 := cell_lt b0
        go_wp2_with fail
        go_ret
        exact ⟨rfl, U4.out.trans (U8.out.alloc' _)⟩

theorem readable : ∀ t ∈ Try.f5.params.toList, Try.prog.readableRec t = true ∧ t < Try.prog.types.size := by
  rw [Try.params5]
  intro t ht
  have hall : ([23, 28].all fun u => Try.prog.readableRec u && decide (u < Try.prog.types.size)) = true := by kernel_rfl
  have := List.all_eq_true.1 hall t (by simpa using ht)
  simpa using this

set_option maxRecDepth 100000 in
theorem lifted (os : Os) (started : os.Started) (H : Type) (enc : TypeId × Value → H) :
    ReturnsInHanded {} Try.checked os 5 .any (Rows.headerBackSpec.pre6 enc Try.prog Try.f5 Rows.headerBackRow.domain false) (Rows.headerBackSpec.post enc Try.prog Try.f5 false true false false) := by
  refine returnsInHanded_of_change (C := Try.checked) own started (by kernel_rfl) Try.func5
    (ChangeSpec.witness6 (enc := enc) (C := Try.checked) false ⟨#[], #[hv 0 0 0 0 0 0 0, .slice none 0 0], []⟩ 8 (by kernel_rfl) (by kernel_rfl) (by kernel_rfl) (by kernel_rfl)) ?_
  intro W base args ds gs before hval0 hW hcnd _
  have hval : ∀ (j : Nat) t v, Try.f5.params[j]? = some t → args[j]? = some v → Value.okWide Try.prog W .any base t v := hval0
  have hW' := hW
  obtain ⟨p, q, hA0, hV, rfl, hfz, hnd⟩ := hW
  have hA : DataW.TrodAll enc Try.prog W 0 (fun _ => true) true Try.f5.params.toList args.toList ds p := hA0
  rw [Try.params5] at hA hval
  obtain ⟨v0, vs0, d0, ds0, p0, q0, hargs, rfl, rfl, h0, r0⟩ := trodAll_cons hA
  obtain ⟨v1, vs1, d1, ds1, p1, q1, rfl, rfl, rfl, h1, r1⟩ := trodAll_cons r0
  obtain ⟨rfl, rfl, rfl⟩ := trodAll_nil r1
  obtain rfl : args = #[v0, v1] := by cases args; simp_all
  obtain ⟨rfl, rfl⟩ := trodVars_none hV
  obtain ⟨ve0, ut0, st0, le0, ti0, ty0, ch0, rfl, wve0, wut0, wst0, wle0, wti0, wty0, wch0⟩ := open_hdr (hval 0 23 v0 rfl rfl) h0
  obtain ⟨A1, l1, c1, rfl, n1, m1, R1⟩ := open_bytes (hval 1 28 v1 rfl rfl) h1
  clear hA0 hval0
  refine (walk W ve0 ut0 st0 le0 ti0 ty0 ch0 A1 l1 c1 wve0 wut0 wst0 wle0 wti0 wty0 wch0 n1 m1 R1).mono fun e W' ⟨he, hg⟩ => ?_
  subst he
  exact ⟨_, rfl, post_up laidOut readable rfl hW' (fun _ _ _ => (trodAll_cons_mk (shut_bool Try.underlying4 _) trodAll_mk0)) rfl rfl
    hg (ok_one (by kernel_rfl) rfl (okWide_bool_mk Try.underlying4 _))⟩

theorem over : Rows.headerBackRow.holds Try.pinned (OpenSpec.ofChange Rows.headerBackSpec) :=
  OpenClaim.holds_of_wide 5 Try.f5 rfl rfl rfl rfl rfl rfl rfl ⟨rfl, rfl, rfl, rfl, rfl⟩ rfl rfl rfl rfl rfl (by kernel_rfl) Try.func5 (by kernel_rfl)
    (of_decide_eq_true (by kernel_rfl)) (by unfold Func.isWrapper; first | (rw [if_pos (by decide +kernel)]; kernel_rfl) | (rw [if_neg (by decide +kernel)]; exact ⟨rfl, rfl⟩))
    (fun os started H enc _ => lifted os started H enc)

theorem proved : Rows.HeaderBackSaid :=
  over
end Go.Proofs.Ytpnnfihaokebcaa.headerBack
