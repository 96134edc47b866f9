/-
  BlockReads answers true: bytes are blocks, or none, as the document says, for any bytes (two thousand), header and size.
-/
import Derived.Test.YtoijaananjlfpaaLcShown6
import Derived.Test.YtoijaananjlfpaaLcPst
import Derived.Test.YtoijaananjlfpaaLcHdO
import Derived.Test.YtoijaananjlfpaaLcSam
import Derived.Test.YtoijaananjlfpaaLcRfA
import Derived.WalkKit
import Derived.Deep.RegionHeld
import Derived.BigQuiet
import Derived.ProofKit
import Derived.OpenShut
import Derived.Deep.CutRange
import Derived.StillTailTactics
namespace Go.Proofs.Ytoijaananjlfpaa.blockReads
open Go.ChangeShapes Go.WideShapes Go.ChangeAt Go.RowKit Lc
set_option linter.unusedVariables false

theorem own : ownKnob Try.prog.godebug = none := by kernel_rfl

theorem cut2000 {w : World} {A : Option Addr} {l : List UInt8} {c : Nat} (n : l.length ≤ c) (r : Rd w A l) : ∃ (k : List UInt8) (p : Nat), k.length = p ∧ p ≤ 2000 ∧ p ≤ l.length ∧ p ≤ c ∧ min (l.length : Int) 2000 = (p : Int) ∧ Rd w A k :=
  ⟨l.take 2000, _, rfl, by rw [List.length_take]; omega, by rw [List.length_take]; omega, by rw [List.length_take]; omega, by rw [List.length_take]; omega, r.take 2000⟩
theorem decP6 (A : Option Addr) (b : List UInt8) (p cc : Nat) (ver u s l t y c z : Int) (w : World) (hp : b.length = p) (hcm : cc ≤ maxLen) (hc : p ≤ cc) (hr : Rd w A b) :
    Calls Try.prog 21 #[.slice A p cc, hv ver u s l t y c, .int .i64 z] w fun e w' => ∃ v, e = .returned (.tuple #[v, .int .i64 (decE b ver u s l t y c z)]) ∧ BkR w' v (decX b ver u s l t y c z) ∧ Up w w' := by
  subst hp; exact bdecode_any A b cc ver u s l t y c z w hcm hc hr
theorem decD6 (A : Option Addr) (b : List UInt8) (p cc : Nat) (ver u s l t y c z : Int) (w : World) (hp : b.length = p) (hcm : cc ≤ maxLen) (hc : p ≤ cc) (hr : Rd w A b) :
    Calls Try.prog 22 #[.slice A p cc, hv ver u s l t y c, .int .i64 z] w fun e w' => ∃ v, e = .returned (.tuple #[v, .int .i64 (decE b ver u s l t y c z)]) ∧ BkR w' v (decX b ver u s l t y c z) ∧ Up w w' := by
  subst hp; exact ddecode_any A b cc ver u s l t y c z w hcm hc hr

set_option maxHeartbeats 4000000 in
set_option maxRecDepth 100000 in
theorem walk (w : World) (A0 : Option Addr) (l0 : List UInt8) (c0 : Nat) (ve1 ut1 st1 le1 ti1 ty1 ch1 : Int) (a2 : Int) (n0 : l0.length ≤ c0) (m0 : c0 ≤ maxLen) (r0 : Rd w A0 l0) (wve1 : (Lit.int .i64 ve1).wf = true) (wut1 : (Lit.int .i64 ut1).wf = true) (wst1 : (Lit.int .i64 st1).wf = true) (wle1 : (Lit.int .i64 le1).wf = true) (wti1 : (Lit.int .i64 ti1).wf = true) (wty1 : (Lit.int .i64 ty1).wf = true) (wch1 : (Lit.int .i64 ch1).wf = true) (w2 : (Lit.int .i64 a2).wf = true) :
    Calls Try.prog 4 #[.slice A0 l0.length c0, hv ve1 ut1 st1 le1 ti1 ty1 ch1, .int .i64 a2] w fun e w' => e = .returned (.bool true) ∧ Up w w' := by
  obtain ⟨k0, p0, e0, p0a, p0b, p0c, q0, R0⟩ := cut2000 n0 r0
  have H0 := Lib.hid (HBox.new w ve1 ut1 st1 le1 ti1 ty1 ch1 35)
  have U0 := Lib.hid (Up.alloc w (.cells #[.int .i64 ve1, .int .i64 ut1, .int .i64 st1, .int .i64 le1, .int .i64 ti1, .int .i64 ty1, .int .i64 ch1] 35))
  have V := Lib.hid fun w' (x : Up w w') => convert_rd w' A0 p0 c0 k0 e0 (R0.up x)
  have D0 := Lib.hid (fun w1 (u : Up w w1) => decP6 A0 k0 p0 c0 ve1 ut1 st1 le1 ti1 ty1 ch1 a2 w1 e0 m0 p0c (R0.up u))
  have D1 := Lib.hid (fun w1 (u : Up w w1) => decD6 A0 k0 p0 c0 ve1 ut1 st1 le1 ti1 ty1 ch1 a2 w1 e0 m0 p0c (R0.up u))
  have HT := Lib.hid (fun w1 => hright_any ve1 ut1 st1 le1 ti1 ty1 ch1 w1)
  generalize decE k0 ve1 ut1 st1 le1 ti1 ty1 ch1 a2 = er at *
  generalize decX k0 ve1 ut1 st1 le1 ti1 ty1 ch1 a2 = X at *
  generalize rightH ve1 ut1 st1 le1 ti1 ty1 ch1 = rh at *
  generalize str k0 = zs at V
  unfold maxLen at m0
  clear r0 R0 e0
  go_enter Try.func4, Try.ntmps4
  go_wp2_with fail
  refine (shown_any _).mono ?_; rintro e w1 ⟨rfl, u1⟩
  have H1 := Lib.hid (H0.out.up u1)
  have U1 := Lib.hid (U0.out.trans u1)
  clear u1 H0 U0
  have v1 := V.out _ U1.out
  obtain ⟨h0, h1, h2, h3, h4, h5, h6⟩ := H1.out
  go_wp2_with fail
  clear v1 h0 h1 h2 h3 h4 h5 h6
  refine (HT.out _).mono ?_; rintro e w2 ⟨rfl, u2⟩
  have H2 := Lib.hid (H1.out.up u2)
  have U2 := Lib.hid (U1.out.trans u2)
  clear u2 H1 U1 HT
  obtain ⟨h0, h1, h2, h3, h4, h5, h6⟩ := H2.out
  have D : (rh = true ∧ (60 < ti1 ∨ ¬ 60 < ti1 ∧ 60 < le1)) ∨ (rh = false ∨ rh = true ∧ ¬ 60 < ti1 ∧ ¬ 60 < le1) := by
    cases rh
    · exact .inr (.inl rfl)
    · by_cases g : 60 < ti1
      · exact .inl ⟨rfl, .inl g⟩
      · by_cases g' : 60 < le1
        · exact .inl ⟨rfl, .inr ⟨g, g'⟩⟩
        · exact .inr (.inr ⟨rfl, g, g'⟩)
  rcases D with ⟨rfl, g | ⟨g, g'⟩⟩ | D
  · go_wp2_with fail
    go_ret
    exact ⟨rfl, U2.out⟩
  · go_wp2_with fail
    go_ret
    exact ⟨rfl, U2.out⟩
  rcases D with rfl | ⟨rfl, g, g'⟩
  all_goals
    go_wp2_with fail
    clear h0 h1 h2 h3 h4 h5 h6
    refine (D0.out _ U2.out).mono ?_; rintro e w3 ⟨v3, rfl, b3, u3⟩
    obtain ⟨S0, s0, T0, S1, s1, T1, S2, s2, T2, S3, s3, T3, S4, s4, T4, rfl⟩ := b3.form
    have H3 := Lib.hid (H2.out.up u3)
    have U3 := Lib.hid (U2.out.trans u3)
    have O3 := Lib.hid b3
    have B3 := Lib.hid (Bx5.new w3 (.slice S0 s0 T0) (.slice S1 s1 T1) (.slice S2 s2 T2) (.slice S3 s3 T3) (.slice S4 s4 T4) 27)
    have u4 := Lib.hid (Up.alloc w3 (.cells #[.slice S0 s0 T0, .slice S1 s1 T1, .slice S2 s2 T2, .slice S3 s3 T3, .slice S4 s4 T4] 27))
    clear b3 u3 H2 U2 D0
    obtain ⟨h0, h1, h2, h3, h4, h5, h6⟩ := H3.out
    have lt3 := cell_lt h0
    go_wp2_with fail
    clear h0 h1 h2 h3 h4 h5 h6 lt3
    refine (D1.out _ (U3.out.trans u4.out)).mono ?_; rintro e w5 ⟨v5, rfl, b5, u5⟩
    obtain ⟨Y0, y0, Z0, Y1, y1, Z1, Y2, y2, Z2, Y3, y3, Z3, Y4, y4, Z4, rfl⟩ := b5.form
    have u45 := u4.out.trans u5
    have u6 := Lib.hid (Up.alloc w5 (.cells #[.slice Y0 y0 Z0, .slice Y1 y1 Z1, .slice Y2 y2 Z2, .slice Y3 y3 Z3, .slice Y4 y4 Z4] 31))
    have U6 := Lib.hid ((U3.out.trans u45).trans u6.out)
    have O6 := Lib.hid ((O3.out.up u45).up u6.out)
    have W6 := Lib.hid (b5.up u6.out)
    have B6 := (B3.out.up u5).up u6.out
    have C6 := Bx5.new w5 (.slice Y0 y0 Z0) (.slice Y1 y1 Z1) (.slice Y2 y2 Z2) (.slice Y3 y3 Z3) (.slice Y4 y4 Z4) 31
    clear b5 u5 u45 u4 U3 O3 B3 D1 H3 u6
    go_wp2_with fail
    generalize w5.alloc (.cells #[.slice Y0 y0 Z0, .slice Y1 y1 Z1, .slice Y2 y2 Z2, .slice Y3 y3 Z3, .slice Y4 y4 Z4] 31) = w6 at *
    obtain ⟨b0, b1, b2, b3, b4⟩ := B6
    obtain ⟨d0, d1, d2, d3, d4⟩ := C6
    replace b0 := cell_regrown b0; replace b1 := cell_regrown b1; replace b2 := cell_regrown b2; replace b3 := cell_regrown b3; replace b4 := cell_regrown b4
    replace d0 := cell_regrown d0; replace d1 := cell_regrown d1; replace d2 := cell_regrown d2; replace d3 := cell_regrown d3; replace d4 := cell_regrown d4
    have Q1 := quiet_up (w := w6) (fun V u => ref_blk _ X V (O6.out.up u))
    have Q2 := quiet_up (w := w6) (fun V u => same_yes _ _ X V (O6.out.up u) (W6.out.up u))
    have v4 := fun d os => V.out _ (U6.out.trans (up_grown w6 d os))
    refine wp_region_quiet_below (by kernel_rfl) (by kernel_rfl) ?_
    repeat (quiet_step (first | (with_reducible exact Q1 _ _) | (with_reducible exact Q2 _ _)))
    refine wpQuiet_nil ?_
    intro _ hw'
    obtain ⟨⟨dq, osq⟩, hw''⟩ := hw'
    subst hw''
    go_wp2_with fail
    go_ret
    exact ⟨rfl, U6.out.trans (up_grown w6 dq osq)⟩

theorem readable : ∀ t ∈ Try.f4.params.toList, Try.prog.readableRec t = true ∧ t < Try.prog.types.size := by
  rw [Try.params4]
  intro t ht
  have hall : ([33, 35, 3].all fun u => Try.prog.readableRec u && decide (u < Try.prog.types.size)) = true := by kernel_rfl
  have := List.all_eq_true.1 hall t (by simpa using ht)
  simpa using this

set_option maxRecDepth 100000 in
theorem lifted (os : Os) (started : os.Started) (H : Type) (enc : TypeId × Value → H) :
    ReturnsInHanded {} Try.checked os 4 .any (Rows.blockReadsSpec.pre6 enc Try.prog Try.f4 Rows.blockReadsRow.domain false) (Rows.blockReadsSpec.post enc Try.prog Try.f4 false true false false) := by
  refine returnsInHanded_of_change (C := Try.checked) own started (by kernel_rfl) Try.func4
    (ChangeSpec.witness6 (enc := enc) (C := Try.checked) false ⟨#[], #[.slice none 0 0, hv 0 0 0 0 0 0 0, .int .i64 0], []⟩ 8 (by kernel_rfl) (by kernel_rfl) (by kernel_rfl) (by kernel_rfl)) ?_
  intro W base args ds gs before hval0 hW hcnd _
  have hval : ∀ (j : Nat) t v, Try.f4.params[j]? = some t → args[j]? = some v → Value.okWide Try.prog W .any base t v := hval0
  have hW' := hW
  obtain ⟨p, q, hA0, hV, rfl, hfz, hnd⟩ := hW
  have hA : DataW.TrodAll enc Try.prog W 0 (fun _ => true) true Try.f4.params.toList args.toList ds p := hA0
  rw [Try.params4] at hA hval
  obtain ⟨v0, vs0, d0, ds0, p0, q0, hargs, rfl, rfl, h0, r0⟩ := trodAll_cons hA
  obtain ⟨v1, vs1, d1, ds1, p1, q1, rfl, rfl, rfl, h1, r1⟩ := trodAll_cons r0
  obtain ⟨v2, vs2, d2, ds2, p2, q2, rfl, rfl, rfl, h2, r2⟩ := trodAll_cons r1
  obtain ⟨rfl, rfl, rfl⟩ := trodAll_nil r2
  obtain rfl : args = #[v0, v1, v2] := by cases args; simp_all
  obtain ⟨rfl, rfl⟩ := trodVars_none hV
  obtain ⟨A0, l0, c0, rfl, n0, m0, R0⟩ := open_bytes (hval 0 33 v0 rfl rfl) h0
  obtain ⟨ve1, ut1, st1, le1, ti1, ty1, ch1, rfl, wve1, wut1, wst1, wle1, wti1, wty1, wch1⟩ := open_hdr (hval 1 35 v1 rfl rfl) h1
  obtain ⟨a2, rfl, rfl, rfl, w2⟩ := open_int Try.underlying3 (hval 2 3 v2 rfl rfl) h2
  clear hA0 hval0
  refine (walk W A0 l0 c0 ve1 ut1 st1 le1 ti1 ty1 ch1 a2 n0 m0 R0 wve1 wut1 wst1 wle1 wti1 wty1 wch1 w2).mono fun e W' ⟨he, hg⟩ => ?_
  subst he
  exact ⟨_, rfl, post_up laidOut readable rfl hW' (fun _ _ _ => (trodAll_cons_mk (shut_bool Try.underlying4 _) trodAll_mk0)) rfl rfl
    hg (ok_one (by kernel_rfl) rfl (okWide_bool_mk Try.underlying4 _))⟩

theorem over : Rows.blockReadsRow.holds Try.pinned (OpenSpec.ofChange Rows.blockReadsSpec) :=
  OpenClaim.holds_of_wide 4 Try.f4 rfl rfl rfl rfl rfl rfl rfl ⟨rfl, rfl, rfl, rfl, rfl⟩ rfl rfl rfl rfl rfl (by kernel_rfl) Try.func4 (by kernel_rfl)
    (of_decide_eq_true (by kernel_rfl)) (by unfold Func.isWrapper; first | (rw [if_pos (by decide +kernel)]; kernel_rfl) | (rw [if_neg (by decide +kernel)]; exact ⟨rfl, rfl⟩))
    (fun os started H enc _ => lifted os started H enc)

theorem proved : Rows.BlockReadsSaid :=
  over
end Go.Proofs.Ytoijaananjlfpaa.blockReads
