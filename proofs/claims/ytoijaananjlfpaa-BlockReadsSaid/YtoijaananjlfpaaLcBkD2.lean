/-
  The program's block: readMarks.
-/
import Derived.Test.YtoijaananjlfpaaLcBkD1
namespace Go.Proofs.Ytoijaananjlfpaa
open Go.ChangeShapes Go.WideShapes Go.ChangeAt Go.RowKit Lc

theorem snocD {p : Nat → Bool} {k : Nat} (h : ∀ j, j < k → p j = true) (hk : p k = true) : ∀ j, j < k + 1 → p j = true := fun j hj => by
  rcases Nat.lt_or_ge j k with h1 | h1
  · exact h j h1
  · have : j = k := by omega
    subst this; exact hk
theorem ret_vb {v : Value} {c d : Bool} (g : c = d) : Ending.returned (.tuple #[v, .bool c]) = .returned (.tuple #[v, .bool d]) := by rw [g]
set_option maxHeartbeats 2000000 in
theorem rdmarks_any (A : Option Addr) (l : List UInt8) (c n : Nat) (w : World) (hl : n ≤ l.length) (hn : n ≤ 10000) (hr : Rd w A l) :
    Calls Try.prog 52 #[.slice A l.length c, .int .i64 n] w fun e w' => ∃ v, e = .returned (.tuple #[v, .bool (mOk l n)]) ∧ (mOk l n = true → Sl w' v n (oc (dM l n))) ∧ Fr w v ∧ Up w w' := by
  have HR := Lib.hid hr
  clear hr
  have E := Lib.hid (show mOk l n = allB n (fun i => decide ((l.getD i 0).toNat ≤ 1)) from rfl)
  generalize mOk l n = r at *
  have mk := make_bol w n (by omega)
  have M0 := Lib.hid (Rw.madeB w n)
  rw [← stL_zero false (rdM l) n] at M0
  have U0 := Lib.hid (Up.alloc w (.cells (madeCells #[.bool false] n) 4))
  have DM := Lib.hid (show dM l n = stL false (rdM l) n n from (stL_end _ _ _).symm)
  generalize madeCells #[.bool false] n = MC at *
  go_enter Try.func52, Try.ntmps52
  go_wp2
  clear mk
  go_loopw [13] (fun i wr => ∃ k : Nat, k ≤ n ∧ i = .int .i64 k ∧ Rw wr w.heap.size (oc (stL false (rdM l) n k)) ∧ Up w wr ∧ ∀ j, j < k → decide ((l.getD j 0).toNat ≤ 1) = true) (fun i _ => n - (intOf i).toNat)
  case atStart => exact ⟨0, Nat.zero_le _, rfl, M0.out, U0.out, fun j hj => absurd hj (Nat.not_lt_zero j)⟩
  case round =>
    clear M0 U0
    obtain ⟨k, hk, rfl, hw, hu, hall⟩ := hrel
    have HW := Lib.hid hw
    have HU := Lib.hid hu
    have HA := Lib.hid hall
    clear hw hu hall
    by_cases hlt : k < n
    · obtain ⟨b, o, rfl, hcell⟩ := (HR.out.up HU.out) (by omega)
      have c1 := hcell k (by omega)
      clear hcell
      have SL := stL_len false (rdM l) hk
      have KB := Lib.hid (HW.out.bol (k := k) (by omega) (rdM l k))
      rw [stL_set false (rdM l) hlt] at KB
      obtain ⟨c2, f2⟩ := HW.out k _ (oc_get (by omega))
      have HV := Lib.hid SL
      clear SL
      have MK := fun w => rmark_any (l.getD k 0) w
      obtain ⟨y, hy⟩ : ∃ y, l.getD k 0 = y := ⟨_, rfl⟩
      have ED : Hid (rdM l k = decide (y = 1)) := Lib.hid (by unfold rdM; rw [hy])
      rw [hy] at c1 MK
      rw [ED.out] at KB
      have yl := y.toNat_lt
      cases ho : decide (y.toNat ≤ 1)
      · have hf : Hid (r = false) := Lib.hid (by
          rw [E.out]; refine allB_no (k := k) hlt ?_; rw [hy]; exact ho)
        rw [ho] at MK
        clear HA hy ho KB ED
        generalize decide (y = 1) = d at *
        go_wp2_with (go_at_call 59; refine (MK _).mono ?_; rintro e w' ⟨rfl, rfl⟩)
        go_ret2
        exact ⟨_, ret_vb hf.out.symm, (fun h => absurd h (by rw [hf.out]; decide)), Fr.nil _, HU.out⟩
      · have HA' : Hid (∀ j, j < k + 1 → decide ((l.getD j 0).toNat ≤ 1) = true) := Lib.hid (snocD (p := fun j => decide ((l.getD j 0).toNat ≤ 1)) HA.out (by show decide ((l.getD k 0).toNat ≤ 1) = true; rw [hy]; exact ho))
        rw [ho] at MK
        have HUS : Hid (Up w (wr.setCell ⟨w.heap.size, k, none⟩ (.bool (decide (y = 1))))) := Lib.hid (HU.out.setCell' (Nat.le_refl _) _)
        clear HA hy ho ED
        generalize decide (y = 1) = d at *
        go_wp2_with (go_at_call 59; refine (MK _).mono ?_; rintro e w' ⟨rfl, rfl⟩)
        go_roundw
        case rel => exact ⟨k + 1, by omega, by go_num, KB.out, HUS.out, HA'.out⟩
        case measure => simp [intOf]; omega
    · have hkq : k = n := by omega
      subst hkq
      have hf : Hid (r = true) := Lib.hid (by rw [E.out, allB_true]; exact HA.out)
      go_wp2
      go_ret2
      refine ⟨_, ret_vb hf.out.symm, fun _ => ⟨_, _, rfl, Nat.le_refl _, by unfold maxLen; omega, ?_⟩, Fr.new _ _ _, HU.out⟩
      rw [DM.out]; exact HW.out.rc
end Go.Proofs.Ytoijaananjlfpaa
