/-
  The program's block: readLeaps, readJumps.
-/
import Derived.Test.YtoijaananjlfpaaLcBkD2
import Derived.StillTailTactics
namespace Go.Proofs.Ytoijaananjlfpaa
open Go.ChangeShapes Go.WideShapes Go.ChangeAt Go.RowKit Lc

theorem flipD {f : FuncId} {args : Array Value} {w : World} {v : Value} (h : Calls Try.prog f args w fun e w' => e = .returned v ∧ w = w') : Calls Try.prog f args w fun e w' => e = .returned v ∧ w' = w :=
  h.mono fun _ _ ⟨a, b⟩ => ⟨a, b.symm⟩
/-- A number at a place that is told as a whole number. -/
theorem number_at (A : Option Addr) (l : List UInt8) (c a k : Nat) (K : Int) (w : World) (hK : K = (a : Int)) (hc : l.length ≤ c) (hcm : c ≤ maxLen) (h1 : 1 ≤ k) (h8 : k ≤ 8) (h : a + k ≤ l.length) (hr : Rd w A l) :
    Calls Try.prog 61 #[.slice A l.length c, .int .i64 K, .int .i64 k] w fun e w' => e = .returned (.int .i64 (sgI k (beN (slcB l a k) : Nat))) ∧ w = w' := by
  subst hK
  exact number_any A l c a k w hc hcm h1 h8 h hr
theorem mul_mono {k n z : Nat} (h : k < n) : k * z + z ≤ n * z := by
  have := Nat.mul_le_mul_right z (show k + 1 ≤ n by omega)
  rw [Nat.succ_mul] at this; exact this

set_option maxHeartbeats 2000000 in
theorem rdleaps_any (A : Option Addr) (l : List UInt8) (c n z : Nat) (hz : z = 4 ∨ z = 8) (w : World) (hc : l.length ≤ c) (hcm : c ≤ maxLen) (hl : n * (z + 4) ≤ l.length) (hn : n ≤ 10000) (hr : Rd w A l) :
    Calls Try.prog 54 #[.slice A l.length c, .int .i64 n, .int .i64 z] w fun e w' => ∃ v, e = .returned v ∧ Sl w' v n (lc (dL l n z)) ∧ Fr w v ∧ Up w w' := by
  have HR := Lib.hid hr
  have hcm' := Lib.hid hcm
  clear hr
  unfold maxLen at hcm
  have mk := make_lep w n (by omega)
  have M0 := Lib.hid (Rw.madeL w n)
  rw [← stL_zero l0 (rdL l z) n] at M0
  have U0 := Lib.hid (Up.alloc w (.cells (madeCells #[.int .i64 0, .int .i64 0] (n * 2)) 67))
  have DM := Lib.hid (show dL l n z = stL l0 (rdL l z) n n from (stL_end _ _ _).symm)
  generalize madeCells #[.int .i64 0, .int .i64 0] (n * 2) = MC at *
  have HL := Lib.hid hl
  clear hl
  go_enter Try.func54, Try.ntmps54
  go_wp2
  clear mk
  go_loopw [13] (fun i wr => ∃ k : Nat, k ≤ n ∧ i = .int .i64 k ∧ Rw wr w.heap.size (lc (stL l0 (rdL l z) n k)) ∧ Up w wr) (fun i _ => n - (intOf i).toNat)
  case atStart => exact ⟨0, Nat.zero_le _, rfl, M0.out, U0.out⟩
  case round =>
    clear M0 U0
    obtain ⟨k, hk, rfl, hw, hu⟩ := hrel
    have HW := Lib.hid hw
    have HU := Lib.hid hu
    clear hw hu
    by_cases hlt : k < n
    · have SL := stL_len l0 (rdL l z) hk
      have mm := mul_mono (z := z + 4) hlt
      have hll := HL.out
      have KB := Lib.hid (HW.out.lep (k := k) (by omega) (rdL l z k))
      rw [stL_set l0 (rdL l z) hlt] at KB
      obtain ⟨c2, f2⟩ := HW.out _ _ (lc_get (i := k) (by omega)).1
      obtain ⟨c3, f3⟩ := HW.out _ _ (lc_get (i := k) (by omega)).2
      have e1 := Lib.hid (show (rdL l z k).t = sgI z (beN (slcB l (k * (z + 4)) z) : Nat) from rfl)
      have e2 := Lib.hid (show (rdL l z k).c = sgI 4 (beN (slcB l (k * (z + 4) + z) 4) : Nat) from rfl)
      have C1 := Lib.hid (fun K (hK : K = ((k * (z + 4) : Nat) : Int)) => number_at A l c (k * (z + 4)) z K wr hK hc hcm'.out (by omega) (by omega) (by omega) (HR.out.up HU.out))
      have C2 := Lib.hid (fun K (hK : K = ((k * (z + 4) + z : Nat) : Int)) => number_at A l c (k * (z + 4) + z) 4 K wr hK hc hcm'.out (by omega) (by omega) (by omega) (HR.out.up HU.out))
      rw [← e1.out] at C1
      rw [← e2.out] at C2
      have HUS := Lib.hid ((HU.out.setCell' (p := ⟨w.heap.size, k * 2, none⟩) (Nat.le_refl _) (.int .i64 (rdL l z k).t)).setCell' (p := ⟨w.heap.size, k * 2 + 1, none⟩) (Nat.le_refl _) (.int .i64 (rdL l z k).c))
      generalize (rdL l z k).t = x1 at *
      generalize (rdL l z k).c = x2 at *
      have HV := Lib.hid SL
      have b1 : ((k : Int) * ((z : Int) + 4)) = ((k * (z + 4) : Nat) : Int) := by simp
      have b2 : ((k * (z + 4) : Nat) : Int) ≤ 200000 := by
        have : k * (z + 4) ≤ 10000 * 12 := Nat.mul_le_mul (by omega) (by omega)
        omega
      have b3 : (0 : Int) ≤ (k : Int) * ((z : Int) + 4) := by rw [b1]; omega
      have b4 : (k : Int) * ((z : Int) + 4) ≤ 200000 := by rw [b1]; exact b2
      have B1 := Lib.hid b1
      have hz8 : z ≤ 8 := by omega
      clear SL b1 b2 mm hll HW e1 e2
      go_wp2_with fail
      refine (C1.out _ ?e1).mono ?_
      case e1 => rw [← B1.out]
      rintro e w' ⟨rfl, rfl⟩
      go_wp2_with fail
      refine (C2.out _ ?e2).mono ?_
      case e2 => rw [Int.natCast_add, ← B1.out]
      rintro e w' ⟨rfl, rfl⟩
      go_wp2_with fail
      go_roundw
      case rel => exact ⟨k + 1, by omega, by go_num, KB.out, HUS.out⟩
      case measure => simp [intOf]; omega
    · have hkq : k = n := by omega
      subst hkq
      go_wp2
      go_ret
      refine ⟨_, rfl, ⟨_, _, rfl, Nat.le_refl _, by unfold maxLen; omega, ?_⟩, Fr.new _ _ _, HU.out⟩
      rw [DM.out]; exact HW.out.rc
end Go.Proofs.Ytoijaananjlfpaa
