/-
  The document's own answer of layer 8: digits, sixty, time at a place.
-/
import Derived.Test.YtalpbbgkallohaaDoorLcDa
namespace Go.Proofs.YtalpbbgkallohaaDoor
open Go.ChangeShapes Go.WideShapes Go.ChangeAt Go.RowKit Lc

set_option maxRecDepth 100000 in
set_option maxHeartbeats 4000000 in
theorem ddigits_raw (L : List UInt8) (k most : Nat) (w : World) (hL : L.length ≤ 100000) (hk : k ≤ L.length) (hm : most ≤ 3) :
    Calls Tryd.prog 50 #[.string (tx L), .int .i64 (k : Int), .int .i64 (most : Int)] w fun e w' => (e = .returned (.tuple #[.int .i64 (if (dgk most L k).length = 0 then 0 else val (dgk most L k)), .int .i64 (if (dgk most L k).length = 0 then -1 else (k : Int) + ((dgk most L k).length : Int))])) ∧ w = w' := by
  have hsz := tx_size L
  have hg := Lib.hid (tx_get L)
  have hin := Lib.hid (dgk_in most L k)
  have hout := Lib.hid (dgk_out most L k)
  have hbd := Lib.hid (fun j => dgk_bd most L k j hm)
  have hle := dgk_le most L k
  have hend := dgk_end most L k hk
  have hlast : Hid ((dgk most L k).take (dgk most L k).length = dgk most L k) := Lib.hid (List.take_length)
  generalize dgk most L k = d at *
  generalize tx L = s at *
  obtain ⟨R1, hR1⟩ : ∃ R, (if d.length = 0 then (0 : Int) else val d) = R := ⟨_, rfl⟩
  obtain ⟨R2, hR2⟩ : ∃ R, (if d.length = 0 then (-1 : Int) else (k : Int) + (d.length : Int)) = R := ⟨_, rfl⟩
  rw [hR1, hR2]
  have H1 := Lib.hid hR1
  have H2 := Lib.hid hR2
  clear hR1 hR2
  have f0 : (k : Int) + (most : Int) ≤ 200000 := by omega
  go_enter Tryd.func50, Tryd.ntmps50
  go_wp2_with fail
  go_loop [8, 1] (fun a b => ∃ j : Nat, j ≤ d.length ∧ a = .int .i64 (val (d.take j)) ∧ b = .int .i64 ((k : Int) + (j : Int))) (fun a b => d.length + k - (intOf b).toNat)
  case atStart => exact ⟨0, Nat.zero_le _, rfl, by simp⟩
  case round =>
    obtain ⟨j, hj, rfl, rfl⟩ := hrel
    have bd := hbd.out j
    go_wp2_with (go_at_call 37; refine (ddigit_any _ _).mono ?_; rintro e w' ⟨rfl, rfl⟩)
    case roundEnd =>
      have hlt : k + j < L.length := by omega
      have h1 : isDg (s[k + j]'(by omega)) = true := by assumption
      have hm1 : j < most := by omega
      rw [hg.out] at h1
      have hj2 : j < d.length := by
        rcases Nat.lt_or_ge j d.length with h | h
        · exact h
        · have e : j = d.length := by omega
          subst e
          rw [hout.out hlt hm1] at h1; cases h1
      have b2 := isD_bd h1
      have v2 := (hin.out j hj2).2.2.2
      go_round
      case rel => exact ⟨j + 1, by omega, by rw [v2, hg.out]; congr 1; omega, by first | (congr 1; omega) | congr 1⟩
      case measure => simp [intOf]; omega
    all_goals
      have e : j = d.length := by
        rcases Nat.lt_or_ge j d.length with h | h
        · exfalso
          obtain ⟨x1, x2, x3, _⟩ := hin.out j h
          first
            | omega
            | (have h1 : isDg (s[k + j]'(by omega)) = false := by assumption
               rw [hg.out, x3] at h1; cases h1)
        · omega
      subst e
      have hR1 := H1.out
      have hR2 := H2.out
      by_cases z : d.length = 0
      · rw [if_pos z] at hR1 hR2
        subst hR1; subst hR2
        first
          | (have hq : ((k : Int) + (d.length : Int) == (k : Int)) = false := by assumption
             have := beq_eq_false_iff_ne.1 hq
             exfalso; omega)
          | (exact bodyPost_ret (v := .tuple #[.int .i64 0, .int .i64 (-1)]) (by simp [results, Tryd.results50, go_sem]) rfl ⟨rfl, rfl⟩)
      · rw [if_neg z] at hR1 hR2
        subst hR1; subst hR2
        first
          | (have hq : ((k : Int) + (d.length : Int) == (k : Int)) = true := by assumption
             have := beq_iff_eq.1 hq
             exfalso; omega)
          | (exact bodyPost_ret (v := .tuple #[.int .i64 (val d), .int .i64 ((k : Int) + (d.length : Int))]) (by simp [results, Tryd.results50, go_sem, hlast.out]) rfl ⟨rfl, rfl⟩)
/-- No number there. -/
theorem ddigits_no {L : List UInt8} {k : Nat} (most : Nat) (w : World) (hL : L.length ≤ 100000) (hk : k ≤ L.length) (hm : most ≤ 3) (q : numD most (L.drop k) = none) :
    Calls Tryd.prog 50 #[.string (tx L), .int .i64 (k : Int), .int .i64 (most : Int)] w fun e w' => e = .returned (.tuple #[.int .i64 0, .int .i64 (-1)]) ∧ w = w' := by
  have := ddigits_raw L k most w hL hk hm
  rw [if_pos (numD_no.1 q), if_pos (numD_no.1 q)] at this
  exact this
/-- A number, and where it ends. -/
theorem ddigits_yes {L t : List UInt8} {k : Nat} {n : Int} (most : Nat) (hL : L.length ≤ 100000) (hk : k ≤ L.length) (hm : most ≤ 3) (q : numD most (L.drop k) = some (n, t)) :
    ∃ j : Nat, k < j ∧ j ≤ L.length ∧ L.drop j = t ∧ ∀ w, Calls Tryd.prog 50 #[.string (tx L), .int .i64 (k : Int), .int .i64 (most : Int)] w fun e w' => e = .returned (.tuple #[.int .i64 n, .int .i64 (j : Int)]) ∧ w = w' := by
  obtain ⟨h0, rfl, ht⟩ := numD_yes q
  refine ⟨k + (dgk most L k).length, by omega, dgk_end most L k hk, ht, fun w => ?_⟩
  have := ddigits_raw L k most w hL hk hm
  rw [if_neg h0, if_neg h0] at this
  rw [show ((k + (dgk most L k).length : Nat) : Int) = (k : Int) + ((dgk most L k).length : Int) by omega]
  exact this
end Go.Proofs.YtalpbbgkallohaaDoor
