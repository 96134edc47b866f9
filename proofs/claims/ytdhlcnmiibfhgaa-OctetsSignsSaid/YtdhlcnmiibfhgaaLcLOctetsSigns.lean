/-
  A number with its highest bit is below 0, and as much less: the law OctetsSigns answers true for every slice of bytes, and leaves it as it was. No condition.
-/
import Derived.Test.YtdhlcnmiibfhgaaLcShown4
import Derived.Test.YtdhlcnmiibfhgaaLcPst
import Derived.WalkKit
import Derived.ProofKit
import Derived.OpenShut
namespace Go.Proofs.Ytdhlcnmiibfhgaa.octetsSigns
open Go.ChangeShapes Go.WideShapes Go.ChangeAt Go.RowKit Lc
set_option linter.unusedVariables false

theorem own : ownKnob Try.prog.godebug = none := by kernel_rfl

theorem uintK (A : Option Addr) (l : List UInt8) (c k : Nat) (K : Int) (w : World) (hc : l.length ≤ c) (hcm : c ≤ maxLen) (h1 : 1 ≤ k) (h8 : k ≤ 8) (h : k ≤ l.length) (hr : Rd w A l) (hK : K = k) :
    Calls Try.prog 11 #[.slice A l.length c, .int .i64 0, .int .i64 K] w fun e w' => e = .returned (.tuple #[.int .u64 (beN (l.take k)), .bool true]) ∧ w = w' := by
  subst hK
  exact uint_yes A l c 0 k w hc hcm h1 h8 (by omega) hr
theorem intK (A : Option Addr) (l : List UInt8) (c k : Nat) (K : Int) (w : World) (hc : l.length ≤ c) (hcm : c ≤ maxLen) (h1 : 1 ≤ k) (h8 : k ≤ 8) (h : k ≤ l.length) (hr : Rd w A l) (hK : K = k) :
    Calls Try.prog 9 #[.slice A l.length c, .int .i64 0, .int .i64 K] w fun e w' => e = .returned (.tuple #[.int .i64 (sgI k (beN (l.take k))), .bool true]) ∧ w = w' := by
  subst hK
  exact int_yes A l c 0 k w hc hcm h1 h8 (by omega) hr
/-- The first byte tells the sign. -/
theorem first_byte (l : List UInt8) (k : Nat) (h1 : 1 ≤ k) (h : k ≤ l.length) : ∃ r, beN (l.take k) = (l.getD 0 0).toNat * 256 ^ (k - 1) + r ∧ r < 256 ^ (k - 1) := by
  obtain ⟨x, t, rfl⟩ : ∃ x t, l = x :: t := by
    rcases l with _ | ⟨x, t⟩
    · simp at h; omega
    · exact ⟨x, t, rfl⟩
  obtain ⟨j, rfl⟩ : ∃ j, k = j + 1 := ⟨k - 1, by omega⟩
  have e := beN_append [x] (t.take j)
  have hl : (t.take j).length = j := by rw [List.length_take]; simp at h; omega
  rw [hl, show beN [x] = x.toNat by simp [beN]] at e
  refine ⟨beN (t.take j), ?_, ?_⟩
  · rw [List.take_succ_cons]; exact e
  · have := beN_lt (t.take j); rw [hl] at this; exact this
set_option maxRecDepth 100000 in
theorem signs {k : Nat} {N x r : Nat} (h1 : 1 ≤ k) (h8 : k ≤ 8) (e : N = x * 256 ^ (k - 1) + r) (hr : r < 256 ^ (k - 1)) (hx : x < 256) :
    (127 < x → sgI k N = N - 2 ^ (8 * k) ∧ sgI k N < 0) ∧ (x ≤ 127 → sgI k N = N ∧ 0 ≤ sgI k N) ∧ N < 256 ^ k := by
  have hN : N < 256 ^ k := by
    obtain ⟨j, rfl⟩ : ∃ j, k = j + 1 := ⟨k - 1, by omega⟩
    simp only [Nat.add_sub_cancel] at e hr
    have : x * 256 ^ j ≤ 255 * 256 ^ j := Nat.mul_le_mul_right _ (by omega)
    rw [Nat.pow_succ]; omega
  have hs := sgI_is (m := k) (n := (N : Int)) h1 h8 (by omega) (by exact_mod_cast hN)
  rw [hs]
  clear hs
  rcases m8 h1 h8 with rfl | rfl | rfl | rfl | rfl | rfl | rfl | rfl <;> simp at e hr hN ⊢ <;> refine ⟨?_, ?_, ?_⟩ <;> (try intro _) <;> (try split) <;> omega
theorem last8 {k : Nat} {N I : Int} (h1 : 1 ≤ k) (h8 : k ≤ 7) (n0 : 0 ≤ N) (hN : N < 256 ^ k) (e : I = N - 2 ^ (8 * k)) : wrap64 N = wrap64 (I + wrap64 (2 ^ (8 * k))) := by
  subst e
  rcases m8 h1 (by omega) with rfl | rfl | rfl | rfl | rfl | rfl | rfl | rfl <;> simp at hN ⊢ <;> unfold wrap64 <;> omega

set_option maxHeartbeats 2000000 in
set_option maxRecDepth 100000 in
theorem walk (w : World) (A0 : Option Addr) (l0 : List UInt8) (c0 : Nat) (n0 : l0.length ≤ c0) (m0 : c0 ≤ maxLen) (r0 : Rd w A0 l0) :
    Calls Try.prog 5 #[.slice A0 l0.length c0] w fun e w' => e = .returned (.bool true) ∧ Up w w' := by
  by_cases hz : l0.length = 0
  · have hl : l0 = [] := List.eq_nil_of_length_eq_zero hz
    subst hl
    clear hz r0
    go_enter Try.func5, Try.ntmps5
    go_wp2_with (go_at_call 7; refine (shown_any _).mono ?_; rintro e w1 ⟨rfl, hu⟩; replace hu := Lib.hid hu)
    go_ret
    exact ⟨rfl, hu.out⟩
  · obtain ⟨k, K, hK, k1, k8, kl, hm⟩ : ∃ (k : Nat) (K : Int), K = k ∧ 1 ≤ k ∧ k ≤ 8 ∧ k ≤ l0.length ∧ min (l0.length : Int) 8 = K := ⟨min l0.length 8, _, rfl, by omega, by omega, by omega, by omega⟩
    obtain ⟨b, o, rfl, hc⟩ := r0 (by omega)
    have hx := (l0.getD 0 0).toNat_lt
    obtain ⟨r, hr1, hr2⟩ := first_byte l0 k k1 kl
    have hs := signs k1 k8 hr1 hr2 hx
    have cell0 := hc 0 (by omega)
    rw [Nat.add_zero] at cell0
    have D1 := fun w' (u : Up w w') => uintK _ l0 c0 k K w' n0 m0 k1 k8 kl (Rd.up r0 u) hK
    have D2 := fun w' (u : Up w w') => intK _ l0 c0 k K w' n0 m0 k1 k8 kl (Rd.up r0 u) hK
    have G0 := Lib.hid cell0
    clear hc cell0 r0 hr1 hr2
    generalize (l0.getD 0 0).toNat = x at hx hs G0
    generalize beN (l0.take k) = N at D1 D2 hs
    generalize hI : sgI k N = I at D2 hs
    have D1 := Lib.hid D1
    have D2 := Lib.hid D2
    have hN := Lib.hid hs.2.2
    have HK := Lib.hid hK
    have K1 : 1 ≤ K := by omega
    have K8 : K ≤ 8 := by omega
    have L0 : 0 < l0.length := by omega
    clear hI hK
    have N0 : (0 : Int) ≤ N := by omega
    by_cases hp : 127 < x
    · obtain ⟨e1, e2⟩ := hs.1 hp
      have E1 := Lib.hid e1
      clear e1 hs
      have hp' : (127 : Int) < (x : Int) := by omega
      by_cases h7 : k = 8
      · have K8' : K = 8 := by rw [HK.out, h7]; rfl
        subst K8'
        go_enter Try.func5, Try.ntmps5
        go_wp2_with fail
        refine (shown_any _).mono ?_; rintro e w1 ⟨rfl, hu⟩; have g0 := hu.cell G0.out; replace hu := Lib.hid hu
        go_wp2_with fail
        refine (D1.out _ hu.out).mono ?_; rintro e w' ⟨rfl, rfl⟩
        go_wp2_with fail
        refine (D2.out _ hu.out).mono ?_; rintro e w' ⟨rfl, rfl⟩
        go_wp2
        go_ret
        refine ⟨rtB ?_, hu.out⟩
        have := E1.out; have := hN.out; subst h7
        rw [IntKind.wrap_u64]; simp at *; omega
      · have K7 : K ≤ 7 := by have := HK.out; omega
        have hk8 : ¬ K = 8 := by omega
        go_enter Try.func5, Try.ntmps5
        go_wp2_with fail
        refine (shown_any _).mono ?_; rintro e w1 ⟨rfl, hu⟩; have g0 := hu.cell G0.out; replace hu := Lib.hid hu
        go_wp2_with fail
        refine (D1.out _ hu.out).mono ?_; rintro e w' ⟨rfl, rfl⟩
        go_wp2_with fail
        refine (D2.out _ hu.out).mono ?_; rintro e w' ⟨rfl, rfl⟩
        go_wp2
        go_ret
        refine ⟨rtB ?_, hu.out⟩
        have e := HK.out
        subst e
        rw [show (8 * (k : Int)).toNat = 8 * k by omega]
        have := last8 k1 (by omega) N0 (by exact_mod_cast hN.out) E1.out
        simp [this]
    · obtain ⟨e1, e2⟩ := hs.2.1 (by omega)
      have E1 := Lib.hid e1
      clear e1 hs
      have hp' : ¬ (127 : Int) < (x : Int) := by omega
      have hi' : ¬ I < 0 := by omega
      have hd : (!decide ((127 : Int) < (x : Int)) == decide (I < 0)) = false := by simp [hp', hi']
      by_cases h7 : k = 8
      · have K8' : K = 8 := by rw [HK.out, h7]; rfl
        subst K8'
        go_enter Try.func5, Try.ntmps5
        go_wp2_with fail
        refine (shown_any _).mono ?_; rintro e w1 ⟨rfl, hu⟩; have g0 := hu.cell G0.out; replace hu := Lib.hid hu
        go_wp2_with fail
        refine (D1.out _ hu.out).mono ?_; rintro e w' ⟨rfl, rfl⟩
        go_wp2_with fail
        refine (D2.out _ hu.out).mono ?_; rintro e w' ⟨rfl, rfl⟩
        go_wp2
        go_ret
        refine ⟨rtB ?_, hu.out⟩
        have := E1.out; have := hN.out; subst h7
        rw [IntKind.wrap_u64]; simp at *; omega
      · have K7 : K ≤ 7 := by have := HK.out; omega
        have hk8 : ¬ K = 8 := by omega
        go_enter Try.func5, Try.ntmps5
        go_wp2_with fail
        refine (shown_any _).mono ?_; rintro e w1 ⟨rfl, hu⟩; have g0 := hu.cell G0.out; replace hu := Lib.hid hu
        go_wp2_with fail
        refine (D1.out _ hu.out).mono ?_; rintro e w' ⟨rfl, rfl⟩
        go_wp2_with fail
        refine (D2.out _ hu.out).mono ?_; rintro e w' ⟨rfl, rfl⟩
        go_wp2
        go_ret
        refine ⟨rtB ?_, hu.out⟩
        have e := HK.out
        subst e
        have h1 := E1.out
        have h2 : (N : Int) < 9223372036854775808 := by
          have := hN.out
          have h3 : (256 : Nat) ^ k ≤ 256 ^ 7 := Nat.pow_le_pow_right (by omega) (by omega)
          omega
        rw [h1]
        unfold wrap64
        simp
        omega

theorem readable : ∀ t ∈ Try.f5.params.toList, Try.prog.readableRec t = true ∧ t < Try.prog.types.size := by
  rw [Try.params5]
  intro t ht
  have hall : ([22].all fun u => Try.prog.readableRec u && decide (u < Try.prog.types.size)) = true := by kernel_rfl
  have := List.all_eq_true.1 hall t (by simpa using ht)
  simpa using this

set_option maxRecDepth 100000 in
theorem lifted (os : Os) (started : os.Started) (H : Type) (enc : TypeId × Value → H) :
    ReturnsInHanded {} Try.checked os 5 .any (Rows.octetsSignsSpec.pre6 enc Try.prog Try.f5 Rows.octetsSignsRow.domain false) (Rows.octetsSignsSpec.post enc Try.prog Try.f5 false true false false) := by
  refine returnsInHanded_of_change (C := Try.checked) own started (by kernel_rfl) Try.func5
    (ChangeSpec.witness6 (enc := enc) (C := Try.checked) false ⟨#[], #[.slice none 0 0], []⟩ 8 (by kernel_rfl) (by kernel_rfl) (by kernel_rfl) (by kernel_rfl)) ?_
  intro W base args ds gs before hval0 hW hcnd _
  have hval : ∀ (j : Nat) t v, Try.f5.params[j]? = some t → args[j]? = some v → Value.okWide Try.prog W .any base t v := hval0
  have hW' := hW
  obtain ⟨p, q, hA0, hV, rfl, hfz, hnd⟩ := hW
  have hA : DataW.TrodAll enc Try.prog W 0 (fun _ => true) true Try.f5.params.toList args.toList ds p := hA0
  rw [Try.params5] at hA hval
  obtain ⟨v0, vs0, d0, ds0, p0, q0, hargs, rfl, rfl, h0, r0⟩ := trodAll_cons hA
  obtain ⟨rfl, rfl, rfl⟩ := trodAll_nil r0
  obtain rfl : args = #[v0] := by cases args; simp_all
  obtain ⟨rfl, rfl⟩ := trodVars_none hV
  obtain ⟨A0, l0, c0, rfl, n0, m0, R0⟩ := open_bytes (hval 0 22 v0 rfl rfl) h0
  clear hA0 hval0
  refine (walk W A0 l0 c0 n0 m0 R0).mono fun e W' ⟨he, hg⟩ => ?_
  subst he
  exact ⟨_, rfl, post_up laidOut readable rfl hW' (fun _ _ _ => (trodAll_cons_mk (shut_bool Try.underlying4 _) trodAll_mk0)) rfl rfl
    hg (ok_one (by kernel_rfl) rfl (okWide_bool_mk Try.underlying4 _))⟩

theorem over : Rows.octetsSignsRow.holds Try.pinned (OpenSpec.ofChange Rows.octetsSignsSpec) :=
  OpenClaim.holds_of_wide 5 Try.f5 rfl rfl rfl rfl rfl rfl rfl ⟨rfl, rfl, rfl, rfl, rfl⟩ rfl rfl rfl rfl rfl (by kernel_rfl) Try.func5 (by kernel_rfl)
    (of_decide_eq_true (by kernel_rfl)) (by unfold Func.isWrapper; first | (rw [if_pos (by decide +kernel)]; kernel_rfl) | (rw [if_neg (by decide +kernel)]; exact ⟨rfl, rfl⟩))
    (fun os started H enc _ => lifted os started H enc)

theorem proved : Rows.OctetsSignsSaid :=
  over
end Go.Proofs.Ytdhlcnmiibfhgaa.octetsSigns
