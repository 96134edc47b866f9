/-
  What was put is read, with its sign, whatever stands around it: the law OctetsBack answers true for all bytes ahead and behind, every number and size, and leaves them as they were. No condition.
-/
import Derived.Test.YtdhlcnmiibfhgaaLcShown4
import Derived.Test.YtdhlcnmiibfhgaaLcPst
import Derived.WalkKit
import Derived.ProofKit
import Derived.OpenShut
namespace Go.Proofs.Ytdhlcnmiibfhgaa.octetsBack
open Go.ChangeShapes Go.WideShapes Go.ChangeAt Go.RowKit Lc
set_option linter.unusedVariables false

theorem own : ownKnob Try.prog.godebug = none := by kernel_rfl

theorem mask7 (a : Int) : ∃ n : Nat, n < 8 ∧ bits .and .i64 a 7 = n := by
  refine ⟨(BitVec.ofInt 64 a).toNat &&& 7, ?_, ?_⟩
  · have := Nat.and_le_right (n := (BitVec.ofInt 64 a).toNat) (m := 7); omega
  · have l := Nat.and_le_right (n := (BitVec.ofInt 64 a).toNat) (m := 7)
    show IntKind.i64.wrap (((BitVec.ofInt 64 a &&& BitVec.ofInt 64 7).toNat : Nat) : Int) = _
    rw [BitVec.toNat_and, show (BitVec.ofInt 64 7).toNat = 7 from by decide]
    exact IntWalk.i64_in _ (by omega)
theorem cut50 {w : World} {A : Option Addr} {l : List UInt8} {c : Nat} (n : l.length ≤ c) (r : Rd w A l) : ∃ (k : List UInt8) (p : Nat), k.length = p ∧ p ≤ 50 ∧ p ≤ l.length ∧ p ≤ c ∧ min (l.length : Int) 50 = (p : Int) ∧ Rd w A k :=
  ⟨l.take 50, _, rfl, by rw [List.length_take]; omega, by rw [List.length_take]; omega, by rw [List.length_take]; omega, by rw [List.length_take]; omega, r.take 50⟩
theorem putS (A : Option Addr) (l : List UInt8) (p c s : Nat) (n : Int) (w : World) (hl : l.length = p) (hp : p ≤ 50) (hs : s < 8) (hr : Rd w A l) :
    Calls Try.prog 8 #[.slice A p c, .int .i64 (1 + s), .int .u64 (IntKind.u64.wrap n)] w fun e w' => ∃ v', e = .returned v' ∧ Ow w' w.heap.size v' (l ++ beB (1 + s) (IntKind.u64.wrap n).toNat) ∧ Up w w' := by
  subst hl
  have h := put_any A l c (1 + s) (IntKind.u64.wrap n) w (by omega) (by simp [Lit.wf, IntKind.min, IntKind.max, IntKind.bits, IntKind.signed]; omega) (by rw [IntKind.wrap_u64]; omega) hr
  rw [show putM (1 + (s : Int)) = 1 + s by unfold putM; omega] at h
  exact h
theorem intS (A : Option Addr) (l m r : List UInt8) (p q k c : Nat) (K : Int) (w : World) (h1 : l.length = p) (h2 : m.length = k) (hk : 1 ≤ k) (h8 : k ≤ 8) (hK : K = k) (hq : (l ++ m ++ r).length = q) (hc : q ≤ c) (hcm : c ≤ maxLen) (hr : Rd w A (l ++ m ++ r)) :
    Calls Try.prog 9 #[.slice A q c, .int .i64 p, .int .i64 K] w fun e w' => e = .returned (.tuple #[.int .i64 (sgI k (beN m)), .bool true]) ∧ w = w' := by
  subst hq; subst hK
  have h := int_yes A (l ++ m ++ r) c p k w hc hcm hk h8 (by rw [List.length_append, List.length_append]; omega) hr
  have e : ((l ++ m ++ r).drop p).take k = m := by
    subst h1; subst h2
    simp
  rw [e] at h
  exact h
theorem back_sign {n : Int} {s : Nat} (h : s < 8) : sgI (1 + s) (beN (beB (1 + s) (IntKind.u64.wrap n).toNat)) = sgI (1 + s) n := by
  refine sgI_mod (by omega) (by omega) ?_
  rw [beN_beB, IntKind.wrap_u64]
  have h8 : s = 0 ∨ s = 1 ∨ s = 2 ∨ s = 3 ∨ s = 4 ∨ s = 5 ∨ s = 6 ∨ s = 7 := by omega
  rcases h8 with rfl | rfl | rfl | rfl | rfl | rfl | rfl | rfl <;> simp <;> omega
theorem sgI_wrap (m : Nat) (n : Int) : sgI m n = wrap64 (n * 2 ^ (64 - 8 * m)) / 2 ^ (64 - 8 * m) := by
  unfold sgI wrap64
  rfl

set_option maxHeartbeats 2000000 in
set_option maxRecDepth 100000 in
theorem walk (w : World) (A0 : Option Addr) (l0 : List UInt8) (c0 : Nat) (A1 : Option Addr) (l1 : List UInt8) (c1 : Nat) (a2 : Int) (a3 : Int) (n0 : l0.length ≤ c0) (m0 : c0 ≤ maxLen) (r0 : Rd w A0 l0) (n1 : l1.length ≤ c1) (m1 : c1 ≤ maxLen) (r1 : Rd w A1 l1) (w2 : (Lit.int .i64 a2).wf = true) (w3 : (Lit.int .i64 a3).wf = true) :
    Calls Try.prog 3 #[.slice A0 l0.length c0, .slice A1 l1.length c1, .int .i64 a2, .int .i64 a3] w fun e w' => e = .returned (.bool true) ∧ Up w w' := by
  have hn := bounds_i64 w2
  obtain ⟨s, hs, he⟩ := mask7 a3
  obtain ⟨k0, p0, e0, p0a, p0b, p0c, q0, R0⟩ := cut50 n0 r0
  obtain ⟨k1, p1, e1, p1a, p1b, p1c, q1, R1⟩ := cut50 n1 r1
  have R0 := Lib.hid R0; have R1 := Lib.hid R1
  have E0 := Lib.hid e0; have E1 := Lib.hid e1
  clear e0 e1 r0 r1
  go_enter Try.func3, Try.ntmps3
  go_wp2_with fail
  refine (shown_any _).mono ?_; rintro e w1 ⟨rfl, hu⟩; replace hu := Lib.hid hu
  go_wp2_with fail
  refine (putS A0 k0 p0 c0 s a2 _ E0.out p0a hs (R0.out.up hu.out)).mono ?_; rintro e w2 ⟨v, rfl, ho, hu2⟩
  have ho := Lib.hid ho; have hu2 := Lib.hid hu2
  go_wp2_with (at_builtin; refine wpList_append_bytes _ rfl _ _ rfl w1.heap.size _ _ rfl ho.out A1 k1 p1 c1 rfl E1.out (R1.out.up (hu.out.trans hu2.out)) ?e1 hu2.out.size ?_)
  case e1 => have := E0.out; have := E1.out; rw [List.length_append, beB_len]; omega
  intro v' w3 ho3 hg _
  try rw [← List.append_assoc] at ho3
  have hu3 := Lib.hid (hu.out.trans (hu2.out.grown hg ho.out.block))
  obtain ⟨A, c, rfl, hc, hcm, hr, _⟩ := ho3.form
  have HL : Hid ((k0 ++ beB (1 + s) (IntKind.u64.wrap a2).toNat ++ k1).length = p0 + (1 + s) + p1) := by
    refine Lib.hid ?_
    rw [List.length_append, List.length_append, beB_len, E0.out, E1.out]
  rw [HL.out] at hc ⊢
  have C := Lib.hid (intS A k0 _ k1 p0 (p0 + (1 + s) + p1) (1 + s) c (1 + s) w3 E0.out (beB_len _ _) (by omega) (by omega) (by omega) HL.out hc hcm hr)
  clear ho3 hg hr ho hu2 hu
  rw [back_sign hs, sgI_wrap] at C
  go_wp2_with fail
  refine C.out.mono ?_; rintro e w' ⟨rfl, rfl⟩
  go_wp2
  go_ret
  exact ⟨rfl, hu3.out⟩

theorem readable : ∀ t ∈ Try.f3.params.toList, Try.prog.readableRec t = true ∧ t < Try.prog.types.size := by
  rw [Try.params3]
  intro t ht
  have hall : ([22, 22, 2, 3].all fun u => Try.prog.readableRec u && decide (u < Try.prog.types.size)) = true := by kernel_rfl
  have := List.all_eq_true.1 hall t (by simpa using ht)
  simpa using this

set_option maxRecDepth 100000 in
theorem lifted (os : Os) (started : os.Started) (H : Type) (enc : TypeId × Value → H) :
    ReturnsInHanded {} Try.checked os 3 .any (Rows.octetsBackSpec.pre6 enc Try.prog Try.f3 Rows.octetsBackRow.domain false) (Rows.octetsBackSpec.post enc Try.prog Try.f3 false true false false) := by
  refine returnsInHanded_of_change (C := Try.checked) own started (by kernel_rfl) Try.func3
    (ChangeSpec.witness6 (enc := enc) (C := Try.checked) false ⟨#[], #[.slice none 0 0, .slice none 0 0, .int .i64 0, .int .i64 0], []⟩ 8 (by kernel_rfl) (by kernel_rfl) (by kernel_rfl) (by kernel_rfl)) ?_
  intro W base args ds gs before hval0 hW hcnd _
  have hval : ∀ (j : Nat) t v, Try.f3.params[j]? = some t → args[j]? = some v → Value.okWide Try.prog W .any base t v := hval0
  have hW' := hW
  obtain ⟨p, q, hA0, hV, rfl, hfz, hnd⟩ := hW
  have hA : DataW.TrodAll enc Try.prog W 0 (fun _ => true) true Try.f3.params.toList args.toList ds p := hA0
  rw [Try.params3] at hA hval
  obtain ⟨v0, vs0, d0, ds0, p0, q0, hargs, rfl, rfl, h0, r0⟩ := trodAll_cons hA
  obtain ⟨v1, vs1, d1, ds1, p1, q1, rfl, rfl, rfl, h1, r1⟩ := trodAll_cons r0
  obtain ⟨v2, vs2, d2, ds2, p2, q2, rfl, rfl, rfl, h2, r2⟩ := trodAll_cons r1
  obtain ⟨v3, vs3, d3, ds3, p3, q3, rfl, rfl, rfl, h3, r3⟩ := trodAll_cons r2
  obtain ⟨rfl, rfl, rfl⟩ := trodAll_nil r3
  obtain rfl : args = #[v0, v1, v2, v3] := by cases args; simp_all
  obtain ⟨rfl, rfl⟩ := trodVars_none hV
  obtain ⟨A0, l0, c0, rfl, n0, m0, R0⟩ := open_bytes (hval 0 22 v0 rfl rfl) h0
  obtain ⟨A1, l1, c1, rfl, n1, m1, R1⟩ := open_bytes (hval 1 22 v1 rfl rfl) h1
  obtain ⟨a2, rfl, rfl, rfl, w2⟩ := open_int Try.underlying2 (hval 2 2 v2 rfl rfl) h2
  obtain ⟨a3, rfl, rfl, rfl, w3⟩ := open_int Try.underlying3 (hval 3 3 v3 rfl rfl) h3
  clear hA0 hval0
  refine (walk W A0 l0 c0 A1 l1 c1 a2 a3 n0 m0 R0 n1 m1 R1 w2 w3).mono fun e W' ⟨he, hg⟩ => ?_
  subst he
  exact ⟨_, rfl, post_up laidOut readable rfl hW' (fun _ _ _ => (trodAll_cons_mk (shut_bool Try.underlying4 _) trodAll_mk0)) rfl rfl
    hg (ok_one (by kernel_rfl) rfl (okWide_bool_mk Try.underlying4 _))⟩

theorem over : Rows.octetsBackRow.holds Try.pinned (OpenSpec.ofChange Rows.octetsBackSpec) :=
  OpenClaim.holds_of_wide 3 Try.f3 rfl rfl rfl rfl rfl rfl rfl ⟨rfl, rfl, rfl, rfl, rfl⟩ rfl rfl rfl rfl rfl (by kernel_rfl) Try.func3 (by kernel_rfl)
    (of_decide_eq_true (by kernel_rfl)) (by unfold Func.isWrapper; first | (rw [if_pos (by decide +kernel)]; kernel_rfl) | (rw [if_neg (by decide +kernel)]; exact ⟨rfl, rfl⟩))
    (fun os started H enc _ => lifted os started H enc)

theorem proved : Rows.OctetsBackSaid :=
  over
end Go.Proofs.Ytdhlcnmiibfhgaa.octetsBack
