/-
  The program's block: readJumps.
-/
import Derived.Test.YtoijaananjlfpaaLcBkD3
namespace Go.Proofs.Ytoijaananjlfpaa
open Go.ChangeShapes Go.WideShapes Go.ChangeAt Go.RowKit Lc

set_option maxRecDepth 100000 in
set_option maxHeartbeats 2000000 in
theorem rdjumps_any (A B : Option Addr) (l m : List UInt8) (c d n z : Nat) (hz : z = 4 ∨ z = 8) (w : World) (hc : l.length ≤ c) (hcm : c ≤ maxLen) (hl : n * z ≤ l.length) (hm : n ≤ m.length) (hn : n ≤ 10000) (hr : Rd w A l) (hs : Rd w B m) :
    Calls Try.prog 53 #[.slice A l.length c, .slice B m.length d, .int .i64 n, .int .i64 z] w fun e w' => ∃ v, e = .returned v ∧ Sl w' v n (jc (dJ l m n z)) ∧ Fr w v ∧ Up w w' := by
  have HR := Lib.hid hr
  have HS := Lib.hid hs
  have hcm' := Lib.hid hcm
  clear hr hs
  unfold maxLen at hcm
  have mk := make_jmp w n (by omega)
  have M0 := Lib.hid (Rw.madeJ w n)
  rw [← stL_zero j0 (rdJ l m z) n] at M0
  have U0 := Lib.hid (Up.alloc w (.cells (madeCells #[.int .i64 0, .int .i64 0] (n * 2)) 54))
  have DM := Lib.hid (show dJ l m n z = stL j0 (rdJ l m z) n n from (stL_end _ _ _).symm)
  generalize madeCells #[.int .i64 0, .int .i64 0] (n * 2) = MC at *
  have HL := Lib.hid hl
  clear hl
  go_enter Try.func53, Try.ntmps53
  go_wp2
  clear mk
  go_loopw [14] (fun i wr => ∃ k : Nat, k ≤ n ∧ i = .int .i64 k ∧ Rw wr w.heap.size (jc (stL j0 (rdJ l m z) n k)) ∧ Up w wr) (fun i _ => n - (intOf i).toNat)
  case atStart => exact ⟨0, Nat.zero_le _, rfl, M0.out, U0.out⟩
  case round =>
    clear M0 U0
    obtain ⟨k, hk, rfl, hw, hu⟩ := hrel
    have HW := Lib.hid hw
    have HU := Lib.hid hu
    clear hw hu
    by_cases hlt : k < n
    · obtain ⟨b, o, rfl, hcell⟩ := (HS.out.up HU.out) (by omega)
      have c1 := hcell k (by omega)
      clear hcell
      have SL := stL_len j0 (rdJ l m z) hk
      have mm := mul_mono (z := z) hlt
      have hll := HL.out
      obtain ⟨c2, f2⟩ := HW.out _ _ (jc_get (i := k) (by omega)).1
      obtain ⟨c3, f3⟩ := HW.out _ _ (jc_get (i := k) (by omega)).2
      have e1 := Lib.hid (show (rdJ l m z k).t = sgI z (beN (slcB l (k * z) z) : Nat) from rfl)
      have e2 := Lib.hid (show (rdJ l m z k).k = ((m.getD k 0).toNat : Int) from rfl)
      have HV := Lib.hid SL
      clear SL
      have b1 : ((k : Int) * (z : Int)) = ((k * z : Nat) : Int) := by simp
      have b2 : ((k * z : Nat) : Int) ≤ 200000 := by
        have : k * z ≤ 10000 * 8 := Nat.mul_le_mul (by omega) (by omega)
        omega
      have b5 : IntKind.i64.wrap ((k : Int) * (z : Int)) = (k : Int) * (z : Int) := IntWalk.i64_in _ (by rw [b1]; omega)
      have b6 : (k : Int) < (n : Int) := by omega
      have b7 : (k : Int) < (m.length : Int) := by omega
      have b8 : (0 : Int) ≤ (k : Int) := by omega
      have B1 := Lib.hid b1
      clear b1 b2
      obtain ⟨y, hy⟩ : ∃ y, m.getD k 0 = y := ⟨_, rfl⟩
      rw [hy] at c1 e2
      have yl := y.toNat_lt
      go_wp2_with fail
      refine wp_region_still_tail 15 (by kernel_rfl) (by kernel_rfl) ?_
      replace c1 : ({ wr with drawn := wr.drawn + 1 } : World).cell? ⟨b, o + k, none⟩ = some (.int .u8 y.toNat) := c1
      replace c2 : ({ wr with drawn := wr.drawn + 1 } : World).cell? ⟨w.heap.size, k * 2, none⟩ = some (.int .i64 ((stL j0 (rdJ l m z) n k).getD k j0).t) := c2
      replace c3 : ({ wr with drawn := wr.drawn + 1 } : World).cell? ⟨w.heap.size, k * 2 + 1, none⟩ = some (.int .i64 ((stL j0 (rdJ l m z) n k).getD k j0).k) := c3
      replace f2 : ({ wr with drawn := wr.drawn + 1 } : World).frozen? ⟨w.heap.size, k * 2, none⟩ = false := f2
      replace f3 : ({ wr with drawn := wr.drawn + 1 } : World).frozen? ⟨w.heap.size, k * 2 + 1, none⟩ = false := f3
      replace HU : Hid (Up w ({ wr with drawn := wr.drawn + 1 } : World)) := Lib.hid (HU.out.drewN' 1)
      replace HW : Hid (Rw ({ wr with drawn := wr.drawn + 1 } : World) w.heap.size (jc (stL j0 (rdJ l m z) n k))) := Lib.hid (HW.out.up (Up.drewN wr 1))
      generalize ({ wr with drawn := wr.drawn + 1 } : World) = V at *
      have KB := Lib.hid (HW.out.jmp (k := k) (by rw [HV.out]; exact hlt) (rdJ l m z k))
      rw [stL_set j0 (rdJ l m z) hlt] at KB
      have C1 := Lib.hid (number_at A l c (k * z) z ((k : Int) * (z : Int)) V B1.out hc hcm'.out (by omega) (by omega) (by omega) (HR.out.up HU.out))
      rw [← e1.out] at C1
      have HUS := Lib.hid ((HU.out.setCell' (p := ⟨w.heap.size, k * 2, none⟩) (Nat.le_refl _) (.int .i64 (rdJ l m z k).t)).setCell' (p := ⟨w.heap.size, k * 2 + 1, none⟩) (Nat.le_refl _) (.int .i64 (rdJ l m z k).k))
      rw [e2.out] at KB HUS
      generalize (rdJ l m z k).t = x1 at *
      clear e1 e2 HW mm hll hy
      simp only [List.take_succ_cons, List.take_zero, List.drop_succ_cons, List.drop_zero]
      repeat still_step
      still_call (flipD C1.out)
      repeat still_step
      refine wpStill_nil ?_
      clear C1
      go_wp2_with fail
      go_roundw
      case rel => exact ⟨k + 1, by omega, by go_num, KB.out, HUS.out⟩
      case measure => simp [intOf]; omega
    · have hkq : k = n := by omega
      subst hkq
      go_wp2
      go_ret
      refine ⟨_, rfl, ⟨_, _, rfl, Nat.le_refl _, by unfold maxLen; omega, ?_⟩, Fr.new _ _ _, HU.out⟩
      rw [DM.out]; exact HW.out.rc
end Go.Proofs.Ytoijaananjlfpaa
