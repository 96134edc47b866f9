/-
  The program's block: rightKinds.
-/
import Derived.Test.YtoijaananjlfpaaLcBkS
import Derived.Test.YtoijaananjlfpaaLcBkC
import Derived.Test.YtoijaananjlfpaaLcBkJ
import Derived.Test.YtoijaananjlfpaaLcBkN
namespace Go.Proofs.Ytoijaananjlfpaa
open Go.ChangeShapes Go.WideShapes Go.ChangeAt Go.RowKit Lc

theorem rkOne_size {k : Knd} (h : rkOne k = true) : k.name.size ≤ 255 := by
  unfold rkOne at h
  simp only [Bool.and_eq_true, decide_eq_true_eq] at h
  omega
set_option maxRecDepth 100000 in
set_option maxHeartbeats 2000000 in
theorem rkinds_any (A : Option Addr) (ks : List Knd) (c : Nat) (w : World) (ra : Rc w A (kc ks)) :
    Calls Try.prog 33 #[.slice A ks.length c] w fun e w' => e = .returned (.bool (rkB ks)) ∧ Up w w' := by
  have RA := Lib.hid ra
  clear ra
  obtain ⟨q, hq⟩ : ∃ q, ks.length = q := ⟨_, rfl⟩
  have E := Lib.hid (show rkB ks = (decide (1 ≤ ks.length) && decide (ks.length ≤ 256) && allB ks.length (fun i => rkOne (ks.getD i k0)) && decide ((layN (ks.map Knd.name) ks.length).length ≤ 256)) from rfl)
  have LN := Lib.hid (fun (h256 : ks.length ≤ 256) (hsz : ∀ i, i < ks.length → (ks.getD i k0).name.size ≤ 255) w ra => laynames_any A ks c w h256 hsz ra)
  generalize rkB ks = r at *
  simp only [hq]
  have HQ := Lib.hid hq
  clear hq
  have W0 := fun w => bwithin_any q 1 256 w
  cases h5 : (decide ((1 : Int) ≤ (q : Int)) && decide ((q : Int) ≤ 256))
  · have E2 : Hid (r = false) := Lib.hid (by
      rw [E.out, HQ.out]
      have h : (decide (1 ≤ q) && decide (q ≤ 256)) = false := by
        simp only [Bool.and_eq_false_iff, decide_eq_false_iff_not] at h5 ⊢; omega
      rw [h]; rfl)
    rw [h5] at W0
    clear E h5
    go_enter Try.func33, Try.ntmps33
    go_wp2_with (go_at_call 26; refine (W0 _).mono ?_; rintro e w' ⟨rfl, rfl⟩)
    go_ret
    exact ⟨ret_b E2.out.symm, Up.refl _⟩
  · rw [h5] at W0
    have hq1 : 1 ≤ q ∧ q ≤ 256 := by simp only [Bool.and_eq_true, decide_eq_true_eq] at h5; omega
    obtain ⟨hq1, hq2⟩ := hq1
    clear h5
    have E : Hid (r = (allB q (fun i => rkOne (ks.getD i k0)) && decide ((layN (ks.map Knd.name) q).length ≤ 256))) := Lib.hid (by
      rw [E.out, HQ.out]
      have h : (decide (1 ≤ q) && decide (q ≤ 256)) = true := by simp [hq1, hq2]
      rw [h]; rfl)
    go_enter Try.func33, Try.ntmps33
    go_wp2_with (go_at_call 26; refine (W0 _).mono ?_; rintro e w' ⟨rfl, rfl⟩)
    go_loopw [13] (fun i wr => ∃ k : Nat, k ≤ q ∧ i = .int .i64 k ∧ Up w wr ∧ ∀ j, j < k → rkOne (ks.getD j k0) = true) (fun i _ => q - (intOf i).toNat)
    case atStart => exact ⟨0, Nat.zero_le _, rfl, Up.refl _, fun j hj => absurd hj (Nat.not_lt_zero j)⟩
    case round =>
      clear W0
      obtain ⟨k, hk, rfl, hu, hall⟩ := hrel
      have HA := Lib.hid hall
      have HU := Lib.hid hu
      clear hall hu
      by_cases hlt : k < q
      · obtain ⟨b, o, rfl, c1, c2, c3⟩ := (RA.out.up HU.out).knd (i := k) (by rw [HQ.out]; exact hlt)
        obtain ⟨ko, e1⟩ : ∃ x, Hid ((ks.getD k k0).off = x) := ⟨_, rfl⟩
        obtain ⟨kd, e2⟩ : ∃ x, Hid ((ks.getD k k0).dst = x) := ⟨_, rfl⟩
        obtain ⟨kn, e3⟩ : ∃ x, Hid ((ks.getD k k0).name = x) := ⟨_, rfl⟩
        rw [e1.out] at c1
        rw [e2.out] at c2
        rw [e3.out] at c3
        have RO : Hid (rkOne (ks.getD k k0) = ((decide (-2147483647 ≤ ko) && decide (ko ≤ 2147483647)) && decide (kn.size < 256) && noz kn)) := Lib.hid (by unfold rkOne; rw [e1.out, e3.out])
        have NO : Hid (rkOne (ks.getD k k0) = false → r = false) := Lib.hid (fun h => by rw [E.out, allB_no (k := k) hlt h]; rfl)
        have W1 := fun w => bwithin_any ko (-2147483647) 2147483647 w
        have C1 := fun w => contains0_any kn w
        cases t1 : (decide (-2147483647 ≤ ko) && decide (ko ≤ 2147483647))
        · rw [t1] at W1
          have hf : Hid (r = false) := Lib.hid (NO.out (by rw [RO.out, t1]; rfl))
          clear HA t1
          go_wp2_with (go_at_call 26; refine (W1 _).mono ?_; rintro e w' ⟨rfl, rfl⟩)
          go_ret
          exact ⟨ret_b hf.out.symm, HU.out.alloc' _⟩
        · rw [t1] at W1
          by_cases t2 : kn.size < 256
          · cases t3 : noz kn
            · rw [t3] at C1
              have hf : Hid (r = false) := Lib.hid (NO.out (by rw [RO.out, t3]; simp))
              clear HA t1 t3
              go_wp2_with (first | (go_at_call 26; refine (W1 _).mono ?_; rintro e w' ⟨rfl, rfl⟩) | (go_at_call 49; refine (C1 _).mono ?_; rintro e w' ⟨rfl, rfl⟩))
              go_ret
              exact ⟨ret_b hf.out.symm, HU.out.alloc' _⟩
            · rw [t3] at C1
              have HA' : Hid (∀ j, j < k + 1 → rkOne (ks.getD j k0) = true) := Lib.hid (snoc_all (p := fun j => rkOne (ks.getD j k0)) HA.out (by show rkOne (ks.getD k k0) = true; rw [RO.out, t1, t3]; simp [t2]))
              clear HA t1 t3
              go_wp2_with (first | (go_at_call 26; refine (W1 _).mono ?_; rintro e w' ⟨rfl, rfl⟩) | (go_at_call 49; refine (C1 _).mono ?_; rintro e w' ⟨rfl, rfl⟩))
              go_roundw
              case rel => exact ⟨k + 1, by omega, by go_num, HU.out.alloc' _, HA'.out⟩
              case measure => simp [intOf]; omega
          · have hf : Hid (r = false) := Lib.hid (NO.out (by rw [RO.out]; simp [t2]))
            clear HA t1
            go_wp2_with (go_at_call 26; refine (W1 _).mono ?_; rintro e w' ⟨rfl, rfl⟩)
            go_ret
            exact ⟨ret_b hf.out.symm, HU.out.alloc' _⟩
      · have hkq : k = q := by omega
        subst hkq
        have hf : Hid (r = decide ((layN (ks.map Knd.name) k).length ≤ 256)) := Lib.hid (by
          rw [E.out, (allB_true (n := k) (p := fun i => rkOne (ks.getD i k0))).2 HA.out]; rfl)
        have LN1 := Lib.hid (fun w1 (u : Up wr w1) => LN.out (by rw [HQ.out]; exact hq2) (fun i hi => rkOne_size (HA.out i (by rw [HQ.out] at hi; exact hi))) w1 ((RA.out.up HU.out).up u))
        rw [HQ.out] at LN1
        clear LN E HA
        go_wp2_with (go_at_call 27; refine (LN1.out _ (Up.refl _)).mono ?_; rintro e w' ⟨v, rfl, ho, hp, hu⟩; obtain ⟨A', c', rfl, q1, q2, q3, q4⟩ := ho.form; clear q3 q4 ho hp; have HU2 := Lib.hid hu; clear hu)
        go_ret
        exact ⟨ret_b (by rw [hf.out, Bool.eq_iff_iff]; simp; omega), HU.out.trans HU2.out⟩
end Go.Proofs.Ytoijaananjlfpaa
