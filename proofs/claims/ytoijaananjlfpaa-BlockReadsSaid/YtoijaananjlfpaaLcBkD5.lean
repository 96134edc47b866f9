/-
  The program's block: readKinds.
-/
import Derived.Test.YtoijaananjlfpaaLcBkD3
import Derived.Test.YtoijaananjlfpaaLcOctN
import Derived.Lib.IndexLaws
namespace Go.Proofs.Ytoijaananjlfpaa
open Go.ChangeShapes Go.WideShapes Go.ChangeAt Go.RowKit Lc

/-- The program's Name, at a byte's place. -/
theorem name_any (A : Option Addr) (na : List UInt8) (c p : Nat) (w : World) (hc : na.length ≤ c) (hcm : c ≤ maxLen) (hr : Rd w A na) :
    Calls Try.prog 60 #[.slice A na.length c, .int .i64 p] w fun e w' => ∃ s, e = .returned (.tuple #[.string s, .bool (decide (0 ≤ nmIx na p))]) ∧ (0 ≤ nmIx na p → s = nmOf na p) ∧ w = w' := by
  rcases Nat.lt_or_ge na.length p with h | h
  · have hi : nmIx na p = -1 := by unfold nmIx; rw [List.drop_eq_nil_of_le (by omega)]; rfl
    refine (name_out A na.length c p w (.inr (by omega))).mono ?_
    rintro e w' ⟨rfl, rfl⟩
    exact ⟨_, by rw [hi]; rfl, fun g => by rw [hi] at g; omega, rfl⟩
  · have ge := Lib.indexByte_ge (na.drop p) 0
    by_cases g : 0 ≤ nmIx na p
    · obtain ⟨e, he⟩ := Int.eq_ofNat_of_zero_le g
      have hx := (Lib.indexByte_some (l := na.drop p) (c := 0) (o := e) he).1
      have hlt : e < (na.drop p).length := (List.getElem?_eq_some_iff.1 hx).1
      rw [List.length_drop] at hlt
      refine (name_yes A na c p e w hc hcm (by omega) hr he).mono ?_
      rintro e' w' ⟨rfl, rfl⟩
      refine ⟨_, by rw [decide_eq_true g], fun _ => ?_, rfl⟩
      unfold nmOf str
      rw [he]; rfl
    · have hi : nmIx na p = -1 := by unfold nmIx at g ⊢; omega
      refine (name_none A na c p w hc h hr hi).mono ?_
      rintro e w' ⟨rfl, rfl⟩
      exact ⟨_, by rw [hi]; rfl, fun g => by rw [hi] at g; omega, rfl⟩

set_option maxRecDepth 100000 in
set_option maxHeartbeats 4000000 in
theorem rdkinds_any (A B : Option Addr) (l na : List UInt8) (c d n : Nat) (w : World) (hc : l.length ≤ c) (hcm : c ≤ maxLen) (hd : na.length ≤ d) (hdm : d ≤ maxLen) (hl : n * 6 ≤ l.length) (hn : n ≤ 10000) (hr : Rd w A l) (hs : Rd w B na) :
    Calls Try.prog 51 #[.slice A l.length c, .slice B na.length d, .int .i64 n] w fun e w' => ∃ v, e = .returned (.tuple #[v, .bool (kOk l na n)]) ∧ (kOk l na n = true → Sl w' v n (kc (dK l na n))) ∧ Fr w v ∧ Up w w' := by
  have HR := Lib.hid hr
  have HS := Lib.hid hs
  have hcm' := Lib.hid hcm
  have hdm' := Lib.hid hdm
  clear hr hs
  unfold maxLen at hcm hdm
  have E := Lib.hid (show kOk l na n = allB n (kGo l na) from rfl)
  generalize kOk l na n = r at *
  have mk := make_knd w n (by omega)
  have M0 := Lib.hid (Rw.madeK w n)
  rw [← stL_zero k0 (rdK l na) n] at M0
  have U0 := Lib.hid (Up.alloc w (.cells (madeCells #[.int .i64 0, .bool false, .string ByteArray.empty] (n * 3)) 56))
  have DM := Lib.hid (show dK l na n = stL k0 (rdK l na) n n from (stL_end _ _ _).symm)
  generalize madeCells #[.int .i64 0, .bool false, .string ByteArray.empty] (n * 3) = MC at *
  go_enter Try.func51, Try.ntmps51
  go_wp2
  clear mk
  go_loopw [18] (fun i wr => ∃ k : Nat, k ≤ n ∧ i = .int .i64 k ∧ Rw wr w.heap.size (kc (stL k0 (rdK l na) n k)) ∧ Up w wr ∧ ∀ j, j < k → kGo l na j = true) (fun i _ => n - (intOf i).toNat)
  case atStart => exact ⟨0, Nat.zero_le _, rfl, M0.out, U0.out, fun j hj => absurd hj (Nat.not_lt_zero j)⟩
  case round =>
    clear M0 U0
    obtain ⟨k, hk, rfl, hw, hu, hall⟩ := hrel
    have HW := Lib.hid hw
    have HU := Lib.hid hu
    have HA := Lib.hid hall
    clear hw hu hall
    by_cases hlt : k < n
    · obtain ⟨b, o, rfl, hcell⟩ := (HR.out.up HU.out) (by omega)
      have c4 := hcell (k * 6 + 4) (by omega)
      have c5 := hcell (k * 6 + 5) (by omega)
      clear hcell
      have SL := stL_len k0 (rdK l na) hk
      have KB := Lib.hid (HW.out.knd (k := k) (by omega) (rdK l na k))
      rw [stL_set k0 (rdK l na) hlt] at KB
      obtain ⟨g1, f1⟩ := HW.out _ _ (kc_get (i := k) (by omega)).1
      obtain ⟨g2, f2⟩ := HW.out _ _ (kc_get (i := k) (by omega)).2.1
      obtain ⟨g3, f3⟩ := HW.out _ _ (kc_get (i := k) (by omega)).2.2
      have e1 := Lib.hid (show (rdK l na k).off = sgI 4 (beN (slcB l (k * 6) 4) : Nat) from rfl)
      have e2 := Lib.hid (show (rdK l na k).dst = decide (l.getD (k * 6 + 4) 0 = 1) from rfl)
      have e3 := Lib.hid (show (rdK l na k).name = nmOf na (l.getD (k * 6 + 5) 0).toNat from rfl)
      have EG := Lib.hid (show kGo l na k = (decide ((l.getD (k * 6 + 4) 0).toNat ≤ 1) && decide (0 ≤ nmIx na (l.getD (k * 6 + 5) 0).toNat)) from rfl)
      have HUS := Lib.hid (((HU.out.setCell' (p := ⟨w.heap.size, k * 3, none⟩) (Nat.le_refl _) (.int .i64 (rdK l na k).off)).setCell' (p := ⟨w.heap.size, k * 3 + 1, none⟩) (Nat.le_refl _) (.bool (rdK l na k).dst)).setCell' (p := ⟨w.heap.size, k * 3 + 2, none⟩) (Nat.le_refl _) (.string (rdK l na k).name))
      have C1 := Lib.hid (fun K (hK : K = ((k * 6 : Nat) : Int)) => number_at (some ⟨b, o, none⟩) l c (k * 6) 4 K wr hK hc hcm'.out (by omega) (by omega) (by omega) (HR.out.up HU.out))
      rw [← e1.out] at C1
      have MK := Lib.hid (fun w => rmark_any (l.getD (k * 6 + 4) 0) w)
      rw [← e2.out] at MK
      have NN := Lib.hid (name_any B na d (l.getD (k * 6 + 5) 0).toNat wr hd hdm'.out (HS.out.up HU.out))
      rw [← e3.out] at NN
      have z4 := (l.getD (k * 6 + 4) 0).toNat_lt
      have z5 := (l.getD (k * 6 + 5) 0).toNat_lt
      have HV := Lib.hid SL
      have NX : Hid (0 ≤ nmIx na (l.getD (k * 6 + 5) 0).toNat ↔ decide (0 ≤ nmIx na (l.getD (k * 6 + 5) 0).toNat) = true) := Lib.hid (by simp)
      clear SL e1 e2 e3
      generalize (l.getD (k * 6 + 4) 0).toNat = y4 at *
      generalize (l.getD (k * 6 + 5) 0).toNat = y5 at *
      generalize (rdK l na k).off = x1 at *
      generalize (rdK l na k).dst = x2 at *
      generalize (rdK l na k).name = x3 at *
      generalize decide (y4 ≤ 1) = t4 at *
      generalize decide (0 ≤ nmIx na y5) = t5 at *
      go_wp2_with fail
      refine (MK.out _).mono ?_; rintro e w' ⟨rfl, rfl⟩
      go_wp2_with fail
      refine NN.out.mono ?_; rintro e w' ⟨s, rfl, hs, rfl⟩
      have HSN := Lib.hid hs
      clear hs
      clear MK NN c4 c5
      cases t4
      · have hf : Hid (r = false) := Lib.hid (by rw [E.out]; refine allB_no (k := k) hlt ?_; rw [EG.out]; rfl)
        clear HA KB HUS EG
        go_wp2_with fail
        go_ret2
        exact ⟨_, ret_vb hf.out.symm, (fun h => absurd h (by rw [hf.out]; decide)), Fr.nil _, HU.out⟩
      · cases t5
        · have hf : Hid (r = false) := Lib.hid (by rw [E.out]; refine allB_no (k := k) hlt ?_; rw [EG.out]; rfl)
          clear HA KB HUS EG
          go_wp2_with fail
          go_ret2
          exact ⟨_, ret_vb hf.out.symm, (fun h => absurd h (by rw [hf.out]; decide)), Fr.nil _, HU.out⟩
        · obtain rfl : s = x3 := HSN.out (NX.out.2 rfl)
          have HA' : Hid (∀ j, j < k + 1 → kGo l na j = true) := Lib.hid (snocD HA.out (by rw [EG.out]; rfl))
          clear HA EG HSN NX HW
          go_wp2_with fail
          refine (C1.out _ ?e1).mono ?_
          case e1 => omega
          rintro e w' ⟨rfl, rfl⟩
          go_wp2_with fail
          go_roundw
          case rel => exact ⟨k + 1, by omega, by go_num, KB.out, HUS.out, HA'.out⟩
          case measure => simp [intOf]; omega
    · have hkq : k = n := by omega
      subst hkq
      have hf : Hid (r = true) := Lib.hid (by rw [E.out, allB_true]; exact HA.out)
      go_wp2
      go_ret2
      refine ⟨_, ret_vb hf.out.symm, fun _ => ⟨_, _, rfl, Nat.le_refl _, by unfold maxLen; omega, ?_⟩, Fr.new _ _ _, HU.out⟩
      rw [DM.out]; exact HW.out.rc
end Go.Proofs.Ytoijaananjlfpaa
