/-
  Whatever the bytes (the first hundred of them): they are a header, or none, as the document says (longcaselaw05.HeaderReads). No condition.
-/
import Derived.Test.YtpnnfihaokebcaaLcShown5
import Derived.Test.YtpnnfihaokebcaaLcPst
import Derived.Test.YtpnnfihaokebcaaLcHdrK
import Derived.Test.YtpnnfihaokebcaaLcHdrF
import Derived.Test.YtpnnfihaokebcaaLcQui
import Derived.WalkKit
import Derived.Deep.RegionHeld
import Derived.BigQuiet
import Derived.ProofKit
import Derived.OpenShut
namespace Go.Proofs.Ytpnnfihaokebcaa.headerReads
open Go.ChangeShapes Go.WideShapes Go.ChangeAt Go.RowKit Lc
set_option linter.unusedVariables false

theorem own : ownKnob Try.prog.godebug = none := by kernel_rfl

theorem cut100 {w : World} {A : Option Addr} {l : List UInt8} {c : Nat} (n : l.length ≤ c) (r : Rd w A l) : ∃ (k : List UInt8) (p : Nat), k.length = p ∧ p ≤ 100 ∧ p ≤ l.length ∧ p ≤ c ∧ min (l.length : Int) 100 = (p : Int) ∧ Rd w A k :=
  ⟨l.take 100, _, rfl, by rw [List.length_take]; omega, by rw [List.length_take]; omega, by rw [List.length_take]; omega, by rw [List.length_take]; omega, r.take 100⟩
theorem decH_hv (x : List UInt8) : ∃ v u s l t y c : Int, decH x = hv v u s l t y c := by
  unfold decH
  split
  · exact ⟨_, _, _, _, _, _, _, rfl⟩
  · exact ⟨_, _, _, _, _, _, _, rfl⟩
theorem decP (A : Option Addr) (l : List UInt8) (p c : Nat) (w : World) (hp : l.length = p) (hc : p ≤ c) (hcm : c ≤ maxLen) (hr : Rd w A l) :
    Calls Try.prog 17 #[.slice A p c] w fun e w' => e = .returned (.tuple #[decH l, .int .i64 (errH l)]) ∧ Up w w' := by
  subst hp; exact decode_any A l c w hc hcm hr
theorem refP (A : Option Addr) (l : List UInt8) (p c : Nat) (w : World) (hp : l.length = p) (hc : p ≤ c) (hcm : c ≤ maxLen) (hr : Rd w A l) :
    Calls Try.prog 18 #[.slice A p c] w fun e w' => e = .returned (.tuple #[decH l, .int .i64 (errH l)]) ∧ Up w w' := by
  subst hp; exact refDecode_any A l c w hc hcm hr

set_option maxHeartbeats 4000000 in
set_option maxRecDepth 100000 in
theorem walk (w : World) (A0 : Option Addr) (l0 : List UInt8) (c0 : Nat) (n0 : l0.length ≤ c0) (m0 : c0 ≤ maxLen) (r0 : Rd w A0 l0) :
    Calls Try.prog 4 #[.slice A0 l0.length c0] w fun e w' => e = .returned (.bool true) ∧ Up w w' := by
  obtain ⟨k0, p0, e0, p0a, p0b, p0c, q0, R0⟩ := cut100 n0 r0
  obtain ⟨v, u, s, l, t, y, d, hd⟩ := decH_hv k0
  have D1 := fun w' (x : Up w w') => decP A0 k0 p0 c0 w' e0 p0c m0 (R0.up x)
  have D2 := fun w' (x : Up w w') => refP A0 k0 p0 c0 w' e0 p0c m0 (R0.up x)
  have V := Lib.hid fun w' (x : Up w w') => convert_rd w' A0 p0 c0 k0 e0 (R0.up x)
  rw [hd] at D1 D2
  generalize errH k0 = er at D1 D2
  replace D1 := Lib.hid D1; replace D2 := Lib.hid D2
  generalize str k0 = z at V
  clear r0 R0 hd e0
  go_enter Try.func4, Try.ntmps4
  go_wp2_with fail
  refine (shown_any _).mono ?_; rintro e w1 ⟨rfl, u1⟩
  have U1 := Lib.hid u1
  have v1 := V.out _ u1
  clear u1
  go_wp2_with fail
  refine (D1.out _ U1.out).mono ?_; rintro e w2 ⟨rfl, u2⟩
  have U2 := Lib.hid (U1.out.trans u2)
  clear u2 v1
  go_wp2_with fail
  refine (D2.out _ (U2.out.alloc' _)).mono ?_; rintro e w3 ⟨rfl, u3⟩
  have B3 := Lib.hid ((HBox.new w2 v u s l t y d 23).up u3)
  have U3 := Lib.hid ((U2.out.alloc' (.cells #[.int .i64 v, .int .i64 u, .int .i64 s, .int .i64 l, .int .i64 t, .int .i64 y, .int .i64 d] 23)).trans u3)
  clear u3
  have C3 := HBox.new w3 v u s l t y d 26
  have B4 := B3.out.up (Up.alloc w3 (.cells #[.int .i64 v, .int .i64 u, .int .i64 s, .int .i64 l, .int .i64 t, .int .i64 y, .int .i64 d] 26))
  have U4 := Lib.hid (U3.out.alloc' (.cells #[.int .i64 v, .int .i64 u, .int .i64 s, .int .i64 l, .int .i64 t, .int .i64 y, .int .i64 d] 26))
  go_wp2_with fail
  generalize w3.alloc (.cells #[.int .i64 v, .int .i64 u, .int .i64 s, .int .i64 l, .int .i64 t, .int .i64 y, .int .i64 d] 26) = w4 at *
  obtain ⟨a0, a1, a2, a3, a4, a5, a6⟩ := B4
  obtain ⟨b0, b1, b2, b3, b4, b5, b6⟩ := C3
  replace a0 := cell_regrown a0; replace a1 := cell_regrown a1; replace a2 := cell_regrown a2; replace a3 := cell_regrown a3; replace a4 := cell_regrown a4; replace a5 := cell_regrown a5; replace a6 := cell_regrown a6
  replace b0 := cell_regrown b0; replace b1 := cell_regrown b1; replace b2 := cell_regrown b2; replace b3 := cell_regrown b3; replace b4 := cell_regrown b4; replace b5 := cell_regrown b5; replace b6 := cell_regrown b6
  have Q0 := quiet_up (w := w4) (fun V _ => ref_any v u s l t y d V)
  have v4 := fun d os => V.out _ (U4.out.trans (up_grown w4 d os))
  refine wp_region_quiet_below (by kernel_rfl) (by kernel_rfl) ?_
  repeat (quiet_step (with_reducible exact Q0 _ _))
  refine wpQuiet_nil ?_
  intro _ hw'
  obtain ⟨⟨dq, osq⟩, hw''⟩ := hw'
  subst hw''
  go_wp2_with fail
  go_ret
  exact ⟨rfl, U4.out.trans (up_grown w4 dq osq)⟩

theorem readable : ∀ t ∈ Try.f4.params.toList, Try.prog.readableRec t = true ∧ t < Try.prog.types.size := by
  rw [Try.params4]
  intro t ht
  have hall : ([28].all fun u => Try.prog.readableRec u && decide (u < Try.prog.types.size)) = true := by kernel_rfl
  have := List.all_eq_true.1 hall t (by simpa using ht)
  simpa using this

set_option maxRecDepth 100000 in
theorem lifted (os : Os) (started : os.Started) (H : Type) (enc : TypeId × Value → H) :
    ReturnsInHanded {} Try.checked os 4 .any (Rows.headerReadsSpec.pre6 enc Try.prog Try.f4 Rows.headerReadsRow.domain false) (Rows.headerReadsSpec.post enc Try.prog Try.f4 false true false false) := by
  refine returnsInHanded_of_change (C := Try.checked) own started (by kernel_rfl) Try.func4
    (ChangeSpec.witness6 (enc := enc) (C := Try.checked) false ⟨#[], #[.slice none 0 0], []⟩ 8 (by kernel_rfl) (by kernel_rfl) (by kernel_rfl) (by kernel_rfl)) ?_
  intro W base args ds gs before hval0 hW hcnd _
  have hval : ∀ (j : Nat) t v, Try.f4.params[j]? = some t → args[j]? = some v → Value.okWide Try.prog W .any base t v := hval0
  have hW' := hW
  obtain ⟨p, q, hA0, hV, rfl, hfz, hnd⟩ := hW
  have hA : DataW.TrodAll enc Try.prog W 0 (fun _ => true) true Try.f4.params.toList args.toList ds p := hA0
  rw [Try.params4] at hA hval
  obtain ⟨v0, vs0, d0, ds0, p0, q0, hargs, rfl, rfl, h0, r0⟩ := trodAll_cons hA
  obtain ⟨rfl, rfl, rfl⟩ := trodAll_nil r0
  obtain rfl : args = #[v0] := by cases args; simp_all
  obtain ⟨rfl, rfl⟩ := trodVars_none hV
  obtain ⟨A0, l0, c0, rfl, n0, m0, R0⟩ := open_bytes (hval 0 28 v0 rfl rfl) h0
  clear hA0 hval0
  refine (walk W A0 l0 c0 n0 m0 R0).mono fun e W' ⟨he, hg⟩ => ?_
  subst he
  exact ⟨_, rfl, post_up laidOut readable rfl hW' (fun _ _ _ => (trodAll_cons_mk (shut_bool Try.underlying4 _) trodAll_mk0)) rfl rfl
    hg (ok_one (by kernel_rfl) rfl (okWide_bool_mk Try.underlying4 _))⟩

theorem over : Rows.headerReadsRow.holds Try.pinned (OpenSpec.ofChange Rows.headerReadsSpec) :=
  OpenClaim.holds_of_wide 4 Try.f4 rfl rfl rfl rfl rfl rfl rfl ⟨rfl, rfl, rfl, rfl, rfl⟩ rfl rfl rfl rfl rfl (by kernel_rfl) Try.func4 (by kernel_rfl)
    (of_decide_eq_true (by kernel_rfl)) (by unfold Func.isWrapper; first | (rw [if_pos (by decide +kernel)]; kernel_rfl) | (rw [if_neg (by decide +kernel)]; exact ⟨rfl, rfl⟩))
    (fun os started H enc _ => lifted os started H enc)

theorem proved : Rows.HeaderReadsSaid :=
  over
end Go.Proofs.Ytpnnfihaokebcaa.headerReads
