/-
  A number of many bytes is that of its first ones, and its last ones: the law OctetsParts answers true for every number and place. No condition.
-/
import Derived.Test.YtdhlcnmiibfhgaaLcShown4
import Derived.Test.YtdhlcnmiibfhgaaLcPst
import Derived.WalkKit
import Derived.ProofKit
import Derived.OpenShut
namespace Go.Proofs.Ytdhlcnmiibfhgaa.octetsParts
open Go.ChangeShapes Go.WideShapes Go.ChangeAt Go.RowKit Lc
set_option linter.unusedVariables false

theorem own : ownKnob Try.prog.godebug = none := by kernel_rfl

theorem mask16 (a : Int) : ∃ n : Nat, n < 65536 ∧ bits .and .i64 a 65535 = n := by
  refine ⟨(BitVec.ofInt 64 a).toNat &&& 65535, ?_, ?_⟩
  · have := Nat.and_le_right (n := (BitVec.ofInt 64 a).toNat) (m := 65535); omega
  · have l := Nat.and_le_right (n := (BitVec.ofInt 64 a).toNat) (m := 65535)
    show IntKind.i64.wrap (((BitVec.ofInt 64 a &&& BitVec.ofInt 64 65535).toNat : Nat) : Int) = _
    rw [BitVec.toNat_and, show (BitVec.ofInt 64 65535).toNat = 65535 from by decide]
    exact IntWalk.i64_in _ (by omega)
theorem uintT (A : Option Addr) (l : List UInt8) (c a k : Nat) (S K : Int) (w : World) (hl : l.length = 8) (hc : l.length ≤ c) (hcm : c ≤ maxLen) (h1 : 1 ≤ k) (h : a + k ≤ 8) (hr : Rd w A l) (hS : S = a) (hK : K = k) :
    Calls Try.prog 11 #[.slice A 8 c, .int .i64 S, .int .i64 K] w fun e w' => e = .returned (.tuple #[.int .u64 (beN ((l.drop a).take k)), .bool true]) ∧ w = w' := by
  subst hK; subst hS
  have := uint_yes A l c a k w hc hcm h1 (by omega) (by omega) hr
  rw [hl] at this; exact this
theorem putN (n : Int) (w : World) (n0 : 0 ≤ n) : Calls Try.prog 8 #[.slice none 0 0, .int .i64 8, .int .u64 n] w fun e w' => ∃ v', e = .returned v' ∧ Ow w' w.heap.size v' (beB 8 n.toNat) ∧ Up w w' :=
  put_any none [] 0 8 n w (by decide) (by decide) n0 (Rd.nil _ _)
theorem parts_sum {U V j : Nat} {n : Int} (n0 : 0 ≤ n) (n1 : n ≤ 18446744073709551615) (h : U * 256 ^ j + V = n.toNat) : (IntKind.u64.wrap (IntKind.u64.wrap ((U : Int) * 2 ^ (8 * j)) + (V : Int)) == n) = true := by
  have e : (2 : Int) ^ (8 * j) = ((256 ^ j : Nat) : Int) := by rw [Int.pow_mul]; norm_cast
  rw [e, IntKind.wrap_u64, IntKind.wrap_u64, ← Int.natCast_mul]
  generalize U * 256 ^ j = X at h
  simp
  omega

set_option maxHeartbeats 2000000 in
set_option maxRecDepth 100000 in
theorem walk (w : World) (a0 : Int) (a1 : Int) (w0 : (Lit.int .u64 a0).wf = true) (w1 : (Lit.int .i64 a1).wf = true) :
    Calls Try.prog 6 #[.int .u64 a0, .int .i64 a1] w fun e w' => e = .returned (.bool true) ∧ Up w w' := by
  have hn := bounds_u64 w0
  obtain ⟨m, hm, he⟩ := mask16 a1
  go_enter Try.func6, Try.ntmps6
  go_wp2_with fail
  refine (shown_any _).mono ?_; rintro e w1 ⟨rfl, hu⟩; replace hu := Lib.hid hu
  go_wp2_with fail
  refine (putN a0 _ hn.1).mono ?_; rintro e w2 ⟨v, rfl, ho, hu2⟩
  obtain ⟨A, c, rfl, hc, hcm, hr, _⟩ := ho.form
  replace hu := Lib.hid (hu.out.trans hu2)
  have hl : (beB 8 a0.toNat).length = 8 := beB_len _ _
  rw [hl]
  clear ho hu2
  have C1 := uintT A _ c 0 (1 + m % 7) 0 (1 + (m : Int) % 7) w2 hl hc hcm (by omega) (by omega) hr rfl (by omega)
  have C2 := uintT A _ c (1 + m % 7) (8 - (1 + m % 7)) (1 + (m : Int) % 7) (8 - (1 + (m : Int) % 7)) w2 hl hc hcm (by omega) (by omega) hr (by omega) (by omega)
  have C3 := uintT A _ c 0 8 0 8 w2 hl hc hcm (by omega) (by omega) hr rfl rfl
  have E3 : beN (((beB 8 a0.toNat).drop 0).take 8) = a0.toNat := by
    rw [List.drop_zero, List.take_of_length_le (by omega), beN_beB]
    exact Nat.mod_eq_of_lt (by omega)
  have E2 : beN (((beB 8 a0.toNat).drop 0).take (1 + m % 7)) * 256 ^ (8 - (1 + m % 7)) + beN (((beB 8 a0.toNat).drop (1 + m % 7)).take (8 - (1 + m % 7))) = a0.toNat := by
    rw [List.drop_zero, List.take_of_length_le (l := (beB 8 a0.toNat).drop (1 + m % 7)) (by rw [List.length_drop]; omega), beN_parts]
    exact Nat.mod_eq_of_lt (by omega)
  rw [E3, Int.toNat_of_nonneg hn.1] at C3
  generalize beN (((beB 8 a0.toNat).drop 0).take (1 + m % 7)) = U at C1 E2
  generalize beN (((beB 8 a0.toNat).drop (1 + m % 7)).take (8 - (1 + m % 7))) = V at C2 E2
  have C1 := Lib.hid C1; have C2 := Lib.hid C2; have C3 := Lib.hid C3; have E2 := Lib.hid E2
  clear E3 hl hc hcm hr
  go_wp2_with fail
  refine C1.out.mono ?_; rintro e w' ⟨rfl, rfl⟩
  go_wp2_with fail
  refine C2.out.mono ?_; rintro e w' ⟨rfl, rfl⟩
  go_wp2_with fail
  refine C3.out.mono ?_; rintro e w' ⟨rfl, rfl⟩
  go_wp2
  go_ret
  exact ⟨rtB (parts_sum hn.1 hn.2 E2.out), hu.out⟩

theorem readable : ∀ t ∈ Try.f6.params.toList, Try.prog.readableRec t = true ∧ t < Try.prog.types.size := by
  rw [Try.params6]
  intro t ht
  have hall : ([25, 3].all fun u => Try.prog.readableRec u && decide (u < Try.prog.types.size)) = true := by kernel_rfl
  have := List.all_eq_true.1 hall t (by simpa using ht)
  simpa using this

set_option maxRecDepth 100000 in
theorem lifted (os : Os) (started : os.Started) (H : Type) (enc : TypeId × Value → H) :
    ReturnsInHanded {} Try.checked os 6 .any (Rows.octetsPartsSpec.pre6 enc Try.prog Try.f6 Rows.octetsPartsRow.domain false) (Rows.octetsPartsSpec.post enc Try.prog Try.f6 false true false false) := by
  refine returnsInHanded_of_change (C := Try.checked) own started (by kernel_rfl) Try.func6
    (ChangeSpec.witness6 (enc := enc) (C := Try.checked) false ⟨#[], #[.int .u64 0, .int .i64 0], []⟩ 8 (by kernel_rfl) (by kernel_rfl) (by kernel_rfl) (by kernel_rfl)) ?_
  intro W base args ds gs before hval0 hW hcnd _
  have hval : ∀ (j : Nat) t v, Try.f6.params[j]? = some t → args[j]? = some v → Value.okWide Try.prog W .any base t v := hval0
  have hW' := hW
  obtain ⟨p, q, hA0, hV, rfl, hfz, hnd⟩ := hW
  have hA : DataW.TrodAll enc Try.prog W 0 (fun _ => true) true Try.f6.params.toList args.toList ds p := hA0
  rw [Try.params6] at hA hval
  obtain ⟨v0, vs0, d0, ds0, p0, q0, hargs, rfl, rfl, h0, r0⟩ := trodAll_cons hA
  obtain ⟨v1, vs1, d1, ds1, p1, q1, rfl, rfl, rfl, h1, r1⟩ := trodAll_cons r0
  obtain ⟨rfl, rfl, rfl⟩ := trodAll_nil r1
  obtain rfl : args = #[v0, v1] := by cases args; simp_all
  obtain ⟨rfl, rfl⟩ := trodVars_none hV
  obtain ⟨a0, rfl, rfl, rfl, w0⟩ := open_int Try.underlying25 (hval 0 25 v0 rfl rfl) h0
  obtain ⟨a1, rfl, rfl, rfl, w1⟩ := open_int Try.underlying3 (hval 1 3 v1 rfl rfl) h1
  clear hA0 hval0
  refine (walk W a0 a1 w0 w1).mono fun e W' ⟨he, hg⟩ => ?_
  subst he
  exact ⟨_, rfl, post_up laidOut readable rfl hW' (fun _ _ _ => (trodAll_cons_mk (shut_bool Try.underlying4 _) trodAll_mk0)) rfl rfl
    hg (ok_one (by kernel_rfl) rfl (okWide_bool_mk Try.underlying4 _))⟩

theorem over : Rows.octetsPartsRow.holds Try.pinned (OpenSpec.ofChange Rows.octetsPartsSpec) :=
  OpenClaim.holds_of_wide 6 Try.f6 rfl rfl rfl rfl rfl rfl rfl ⟨rfl, rfl, rfl, rfl, rfl⟩ rfl rfl rfl rfl rfl (by kernel_rfl) Try.func6 (by kernel_rfl)
    (of_decide_eq_true (by kernel_rfl)) (by unfold Func.isWrapper; first | (rw [if_pos (by decide +kernel)]; kernel_rfl) | (rw [if_neg (by decide +kernel)]; exact ⟨rfl, rfl⟩))
    (fun os started H enc _ => lifted os started H enc)

theorem proved : Rows.OctetsPartsSaid :=
  over
end Go.Proofs.Ytdhlcnmiibfhgaa.octetsParts
