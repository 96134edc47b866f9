/-
  The program's block: rightKinds.
-/
import Derived.Test.YtaljddoenjgbfaaGreatLcMc
import Derived.Test.YtaljddoenjgbfaaGreatLcMd
import Derived.Test.YtaljddoenjgbfaaGreatLcMe
namespace Go.Proofs.YtaljddoenjgbfaaGreat
open Go.ChangeShapes Go.WideShapes Go.ChangeAt Go.RowKit Lc

set_option maxRecDepth 100000 in
theorem rkOne_size {k : Knd} (h : rkOne k = true) : k.name.size ≤ 255 := by
  unfold rkOne at h
  simp only [Bool.and_eq_true, decide_eq_true_eq] at h
  omega
set_option maxRecDepth 100000 in
set_option maxHeartbeats 2000000 in
theorem rkinds_any (A : Option Addr) (ks : List Knd) (c : Nat) (w : World) (ra : Rc w A (kc ks)) :
    Calls Tryz.prog 30 #[.slice A ks.length c] w fun e w' => e = .returned (.bool (rkB ks)) ∧ Up w w' := by
  have RA := Lib.hid ra
  clear ra
  obtain ⟨q, hq⟩ : ∃ q, ks.length = q := ⟨_, rfl⟩
  have E := Lib.hid (show rkB ks = (decide (1 ≤ ks.length) && decide (ks.length ≤ 256) && allB ks.length (fun i => rkOne (ks.getD i k0)) && decide ((layN (ks.map Knd.name) ks.length).length ≤ 256)) from rfl)
  have LN := Lib.hid (fun (h256 : ks.length ≤ 256) (hsz : ∀ i, i < ks.length → (ks.getD i k0).name.size ≤ 255) w ra => laynames_any A ks c w h256 hsz ra)
  generalize rkB ks = r at *
  simp only [hq]
  have HQ := Lib.hid hq
  clear hq
  have W0 := fun w => bwithin_any q 1 256 w
  cases h5 : (decide ((1 : Int) ≤ (q : Int)) && decide ((q : Int) ≤ 256))
  · have E2 : Hid (r = false) := Lib.hid (by
      rw [E.out, HQ.out]
      have h : (decide (1 ≤ q) && decide (q ≤ 256)) = false := by
        simp only [Bool.and_eq_false_iff, decide_eq_false_iff_not] at h5 ⊢; omega
      rw [h]; rfl)
    rw [h5] at W0
    clear E h5
    go_enter Tryz.func30, Tryz.ntmps30
    go_wp2_with (go_at_call 45; refine (W0 _).mono ?_; rintro e w' ⟨rfl, rfl⟩)
    go_ret
    exact ⟨ret_b E2.out.symm, Up.refl _⟩
  · rw [h5] at W0
    have hq1 : 1 ≤ q ∧ q ≤ 256 := by simp only [Bool.and_eq_true, decide_eq_true_eq] at h5; omega
    obtain ⟨hq1, hq2⟩ := hq1
    clear h5
    have E : Hid (r = (allB q (fun i => rkOne (ks.getD i k0)) && decide ((layN (ks.map Knd.name) q).length ≤ 256))) := Lib.hid (by
      rw [E.out, HQ.out]
      have h : (decide (1 ≤ q) && decide (q ≤ 256)) = true := by simp [hq1, hq2]
      rw [h]; rfl)
    go_enter Tryz.func30, Tryz.ntmps30
    go_wp2_with (go_at_call 45; refine (W0 _).mono ?_; rintro e w' ⟨rfl, rfl⟩)
    go_loopw [13] (fun i wr => ∃ k : Nat, k ≤ q ∧ i = .int .i64 k ∧ Up w wr ∧ ∀ j, j < k → rkOne (ks.getD j k0) = true) (fun i _ => q - (intOf i).toNat)
    case atStart => exact ⟨0, Nat.zero_le _, rfl, Up.refl _, fun j hj => absurd hj (Nat.not_lt_zero j)⟩
    case round =>
      clear W0
      obtain ⟨k, hk, rfl, hu, hall⟩ := hrel
      have HA := Lib.hid hall
      have HU := Lib.hid hu
      clear hall hu
      by_cases hlt : k < q
      · obtain ⟨b, o, rfl, c1, c2, c3⟩ := (RA.out.up HU.out).knd (i := k) (by rw [HQ.out]; exact hlt)
        obtain ⟨ko, e1⟩ : ∃ x, Hid ((ks.getD k k0).off = x) := ⟨_, rfl⟩
        obtain ⟨kd, e2⟩ : ∃ x, Hid ((ks.getD k k0).dst = x) := ⟨_, rfl⟩
        obtain ⟨kn, e3⟩ : ∃ x, Hid ((ks.getD k k0).name = x) := ⟨_, rfl⟩
        rw [e1.out] at c1
        rw [e2.out] at c2
        rw [e3.out] at c3
        have RO : Hid (rkOne (ks.getD k k0) = ((decide (-2147483647 ≤ ko) && decide (ko ≤ 2147483647)) && decide (kn.size < 256) && noz kn)) := Lib.hid (by unfold rkOne; rw [e1.out, e3.out])
        have NO : Hid (rkOne (ks.getD k k0) = false → r = false) := Lib.hid (fun h => by rw [E.out, allB_no (k := k) hlt h]; rfl)
        have W1 := fun w => bwithin_any ko (-2147483647) 2147483647 w
        have C1 := fun w => contains0_any kn w
        cases t1 : (decide (-2147483647 ≤ ko) && decide (ko ≤ 2147483647))
        · rw [t1] at W1
          have hf : Hid (r = false) := Lib.hid (NO.out (by rw [RO.out, t1]; rfl))
          clear HA t1
          go_wp2_with (go_at_call 45; refine (W1 _).mono ?_; rintro e w' ⟨rfl, rfl⟩)
          go_ret
          exact ⟨ret_b hf.out.symm, HU.out.alloc' _⟩
        · rw [t1] at W1
          by_cases t2 : kn.size < 256
          · cases t3 : noz kn
            · rw [t3] at C1
              have hf : Hid (r = false) := Lib.hid (NO.out (by rw [RO.out, t3]; simp))
              clear HA t1 t3
              go_wp2_with (first | (go_at_call 45; refine (W1 _).mono ?_; rintro e w' ⟨rfl, rfl⟩) | (go_at_call 34; refine (C1 _).mono ?_; rintro e w' ⟨rfl, rfl⟩))
              go_ret
              exact ⟨ret_b hf.out.symm, HU.out.alloc' _⟩
            · rw [t3] at C1
              have HA' : Hid (∀ j, j < k + 1 → rkOne (ks.getD j k0) = true) := Lib.hid (snoc_all (p := fun j => rkOne (ks.getD j k0)) HA.out (by show rkOne (ks.getD k k0) = true; rw [RO.out, t1, t3]; simp [t2]))
              clear HA t1 t3
              go_wp2_with (first | (go_at_call 45; refine (W1 _).mono ?_; rintro e w' ⟨rfl, rfl⟩) | (go_at_call 34; refine (C1 _).mono ?_; rintro e w' ⟨rfl, rfl⟩))
              go_roundw
              case rel => exact ⟨k + 1, by omega, by go_num, HU.out.alloc' _, HA'.out⟩
              case measure => simp [intOf]; omega
          · have hf : Hid (r = false) := Lib.hid (NO.out (by rw [RO.out]; simp [t2]))
            clear HA t1
            go_wp2_with (go_at_call 45; refine (W1 _).mono ?_; rintro e w' ⟨rfl, rfl⟩)
            go_ret
            exact ⟨ret_b hf.out.symm, HU.out.alloc' _⟩
      · have hkq : k = q := by omega
        subst hkq
        have hf : Hid (r = decide ((layN (ks.map Knd.name) k).length ≤ 256)) := Lib.hid (by
          rw [E.out, (allB_true (n := k) (p := fun i => rkOne (ks.getD i k0))).2 HA.out]; rfl)
        have LN1 := Lib.hid (fun w1 (u : Up wr w1) => LN.out (by rw [HQ.out]; exact hq2) (fun i hi => rkOne_size (HA.out i (by rw [HQ.out] at hi; exact hi))) w1 ((RA.out.up HU.out).up u))
        rw [HQ.out] at LN1
        clear LN E HA
        go_wp2_with (go_at_call 46; refine (LN1.out _ (Up.refl _)).mono ?_; rintro e w' ⟨v, rfl, ho, hp, hu⟩; obtain ⟨A', c', rfl, q1, q2, q3, q4⟩ := ho.form; clear q3 q4 ho hp; have HU2 := Lib.hid hu; clear hu)
        go_ret
        exact ⟨ret_b (by rw [hf.out, Bool.eq_iff_iff]; simp; omega), HU.out.trans HU2.out⟩
end Go.Proofs.YtaljddoenjgbfaaGreat
/-
  The program's block: Right.
-/
namespace Go.Proofs.YtaljddoenjgbfaaGreat
open Go.ChangeShapes Go.WideShapes Go.ChangeAt Go.RowKit Lc

/-- Block B is a box of five values. -/
def Bx5 (w : World) (B : Nat) (a b c d e : Value) : Prop := w.cell? ⟨B, 0, none⟩ = some a ∧ w.cell? ⟨B, 1, none⟩ = some b ∧ w.cell? ⟨B, 2, none⟩ = some c ∧ w.cell? ⟨B, 3, none⟩ = some d ∧ w.cell? ⟨B, 4, none⟩ = some e
set_option maxRecDepth 100000 in
theorem Bx5.up {w w' : World} {B : Nat} {a b c d e : Value} (h : Bx5 w B a b c d e) (u : Up w w') : Bx5 w' B a b c d e :=
  ⟨u.cell h.1, u.cell h.2.1, u.cell h.2.2.1, u.cell h.2.2.2.1, u.cell h.2.2.2.2⟩
set_option maxRecDepth 100000 in
theorem Bx5.new (w : World) (a b c d e : Value) (t : TypeId) : Bx5 (w.alloc (.cells #[a, b, c, d, e] t)) w.heap.size a b c d e := by
  refine ⟨?_, ?_, ?_, ?_, ?_⟩ <;> simp

set_option maxRecDepth 100000 in
theorem rkB_len {ks : List Knd} (h : rkB ks = true) : 1 ≤ ks.length ∧ ks.length ≤ 256 := by
  unfold rkB at h
  simp only [Bool.and_eq_true, decide_eq_true_eq] at h
  exact ⟨h.1.1.1, h.1.1.2⟩
set_option maxRecDepth 100000 in
set_option maxHeartbeats 2000000 in
theorem bright_any (v : Value) (x : Blk) (z ver : Int) (w : World) (hv : BkR w v x) :
    Calls Tryz.prog 17 #[v, .int .i64 z, .int .i64 ver] w fun e w' => e = .returned (.bool (rightB x z ver)) ∧ Up w w' := by
  obtain ⟨_, _, _, _, _, rfl, ⟨A0, c0, rfl, m0, n0, r0⟩, ⟨A1, c1, rfl, m1, n1, r1⟩, ⟨A2, c2, rfl, m2, n2, r2⟩, ⟨A3, c3, rfl, m3, n3, r3⟩, ⟨A4, c4, rfl, m4, n4, r4⟩⟩ := hv
  have E := Lib.hid (show rightB x z ver = (zB z && rkB x.ks && rmB x.sd x.ut x.ks.length && rjB x.js x.ks.length z && rlB x.ls z ver) from rfl)
  have K0 := fun w => rsize_any z w
  have K1 := Lib.hid (fun w1 (u : Up w w1) => rkinds_any A0 x.ks c0 w1 (r0.up u))
  have K2 := Lib.hid (fun w1 (u : Up w w1) => rmarks_any A3 A4 x.sd x.ut c3 c4 x.ks.length w1 m3 n3 m4 n4 (r3.up u) (r4.up u))
  have K3 := Lib.hid (fun (h : 1 ≤ x.ks.length ∧ x.ks.length ≤ 256) w1 (u : Up w w1) => rjumps_any A1 x.js c1 x.ks.length z w1 h.1 (by omega) (r1.up u))
  have K4 := Lib.hid (fun w1 (u : Up w w1) => rleaps_any A2 x.ls c2 z ver w1 (r2.up u))
  have HL := Lib.hid (fun (h : rkB x.ks = true) => rkB_len h)
  unfold maxLen at n0 n1 n2 n3 n4
  clear r0 r1 r2 r3 r4
  generalize rightB x z ver = r at *
  generalize rlB x.ls z ver = r4 at *
  generalize rjB x.js x.ks.length z = r3 at *
  generalize rmB x.sd x.ut x.ks.length = r2 at *
  generalize rkB x.ks = r1 at *
  generalize zB z = r0 at *
  generalize x.ks.length = q0 at *
  generalize x.js.length = q1 at *
  generalize x.ls.length = q2 at *
  generalize x.sd.length = q3 at *
  generalize x.ut.length = q4 at *
  have BX := Lib.hid (Bx5.new w (.slice A0 q0 c0) (.slice A1 q1 c1) (.slice A2 q2 c2) (.slice A3 q3 c3) (.slice A4 q4 c4) 27)
  cases r0
  · go_enter Tryz.func17, Tryz.ntmps17
    go_wp2_with (go_at_call 29; refine (K0 _).mono ?_; rintro e w' ⟨rfl, rfl⟩)
    go_ret
    exact ⟨ret_b (by rw [E.out]; rfl), Up.alloc _ _⟩
  · go_enter Tryz.func17, Tryz.ntmps17
    go_wp2_with fail
    refine (K0 _).mono ?_; rintro e w' ⟨rfl, rfl⟩
    have U0 := Lib.hid (Up.alloc w (.cells #[.slice A0 q0 c0, .slice A1 q1 c1, .slice A2 q2 c2, .slice A3 q3 c3, .slice A4 q4 c4] 27))
    have lw : w.heap.size < (w.alloc (.cells #[.slice A0 q0 c0, .slice A1 q1 c1, .slice A2 q2 c2, .slice A3 q3 c3, .slice A4 q4 c4] 27)).heap.size := by simp
    generalize hB : w.heap.size = B at *
    generalize w.alloc (.cells #[.slice A0 q0 c0, .slice A1 q1 c1, .slice A2 q2 c2, .slice A3 q3 c3, .slice A4 q4 c4] 27) = wa at *
    clear hB
    obtain ⟨b0, b1, b2, b3, b4⟩ := BX.out
    go_wp2_with fail
    clear b0 b1 b2 b3 b4
    refine (K1.out _ U0.out).mono ?_; rintro e w1 ⟨rfl, u1⟩
    have U1 := Lib.hid (U0.out.trans u1)
    have BX := Lib.hid (BX.out.up u1)
    clear u1 U0
    cases r1
    · go_wp2_with fail
      go_ret
      exact ⟨ret_b (by rw [E.out]; rfl), U1.out⟩
    · obtain ⟨b0, b1, b2, b3, b4⟩ := BX.out
      go_wp2_with fail
      clear b0 b1 b2 b3 b4
      refine (K2.out _ U1.out).mono ?_; rintro e w2 ⟨rfl, rfl⟩
      cases r2
      · go_wp2_with fail
        go_ret
        exact ⟨ret_b (by rw [E.out]; rfl), U1.out⟩
      · obtain ⟨b0, b1, b2, b3, b4⟩ := BX.out
        go_wp2_with fail
        clear b0 b1 b2 b3 b4
        refine (K3.out (HL.out (by trivial)) _ U1.out).mono ?_; rintro e w3 ⟨rfl, u3⟩
        have U3 := Lib.hid (U1.out.trans u3)
        have BX := Lib.hid (BX.out.up u3)
        clear u3 U1
        cases r3
        · go_wp2_with fail
          go_ret
          exact ⟨ret_b (by rw [E.out]; rfl), U3.out⟩
        · obtain ⟨b0, b1, b2, b3, b4⟩ := BX.out
          go_wp2_with fail
          clear b0 b1 b2 b3 b4
          refine (K4.out _ U3.out).mono ?_; rintro e w4 ⟨rfl, u4⟩
          go_wp2_with fail
          go_ret
          exact ⟨ret_b (by rw [E.out]; cases r4 <;> rfl), U3.out.trans u4⟩
end Go.Proofs.YtaljddoenjgbfaaGreat
