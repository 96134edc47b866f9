/-
  The document's bools and Same, of blocks that are the same; a block as the document's.
-/
import Derived.Test.YtaljddoenjgbfaaGreatLcMz
import Derived.BigQuiet
namespace Go.Proofs.YtaljddoenjgbfaaGreat
open Go.ChangeShapes Go.WideShapes Go.ChangeAt Go.RowKit Lc

set_option maxRecDepth 100000 in
set_option maxHeartbeats 2000000 in
theorem bools_yes (a b : Value) (bs : List Bool) (w : World) (ha : Sl w a bs.length (oc bs)) (hb : Sl w b bs.length (oc bs)) :
    Calls Tryz.prog 35 #[a, b] w fun e w' => e = .returned (.bool true) ∧ Up w w' := by
  obtain ⟨A, c, rfl, m1, n1, r1⟩ := ha
  obtain ⟨B, d, rfl, m2, n2, r2⟩ := hb
  have R1 := Lib.hid r1
  have R2 := Lib.hid r2
  unfold maxLen at n1 n2
  obtain ⟨q, hq⟩ : ∃ q, bs.length = q := ⟨_, rfl⟩
  have HQ := Lib.hid hq
  rw [hq] at m1 m2 ⊢
  clear r1 r2 hq
  go_enter Tryz.func35, Tryz.ntmps35
  go_wp2
  go_loopw [5] (fun i wr => ∃ k : Nat, k ≤ q ∧ i = .int .i64 k ∧ Up w wr) (fun i _ => q - (intOf i).toNat)
  case atStart => exact ⟨0, Nat.zero_le _, rfl, Up.refl _⟩
  case round =>
    obtain ⟨k, hk, rfl, hu⟩ := hrel
    have HU := Lib.hid hu
    by_cases hlt : k < q
    · have kl : k < bs.length := by rw [HQ.out]; exact hlt
      obtain ⟨b1, o1, rfl, c1⟩ := (R1.out.up hu).bol kl
      obtain ⟨b2, o2, rfl, c2⟩ := (R2.out.up hu).bol kl
      have b6 : (k : Int) < (q : Int) := by omega
      have b8 : (0 : Int) ≤ (k : Int) := by omega
      generalize bs.getD k false = y at *
      clear hu
      go_wp2_with fail
      go_quiet (fail)
      go_wp2_with fail
      go_roundw
      case rel => exact ⟨k + 1, by omega, by go_num, HU.out.drewN' _⟩
      case measure => simp [intOf]; omega
    · have hkq : k = q := by omega
      subst hkq
      clear hu
      go_wp2
      go_ret
      exact ⟨rfl, HU.out⟩
set_option maxRecDepth 100000 in
set_option maxHeartbeats 4000000 in
theorem same_yes (a b : Value) (x : Blk) (w : World) (ha : BkR w a x) (hb : BkR w b x) :
    Calls Tryz.prog 20 #[a, b] w fun e w' => e = .returned (.bool true) ∧ Up w w' := by
  obtain ⟨_, _, _, _, _, rfl, ⟨A0, c0, rfl, m0, n0, r0⟩, ⟨A1, c1, rfl, m1, n1, r1⟩, ⟨A2, c2, rfl, m2, n2, r2⟩, ha3, ha4⟩ := ha
  obtain ⟨_, _, _, _, _, rfl, ⟨B0, d0, rfl, p0, q0, s0⟩, ⟨B1, d1, rfl, p1, q1, s1⟩, ⟨B2, d2, rfl, p2, q2, s2⟩, hb3, hb4⟩ := hb
  have C3 := Lib.hid (fun w1 (u : Up w w1) => bools_yes _ _ _ w1 (ha3.up u) (hb3.up u))
  have C4 := Lib.hid (fun w1 (u : Up w w1) => bools_yes _ _ _ w1 (ha4.up u) (hb4.up u))
  obtain ⟨A3, c3, rfl, _, _, _⟩ := ha3
  obtain ⟨A4, c4, rfl, _, _, _⟩ := ha4
  obtain ⟨B3, d3, rfl, _, _, _⟩ := hb3
  obtain ⟨B4, d4, rfl, _, _, _⟩ := hb4
  have R0 := Lib.hid r0; have R1 := Lib.hid r1; have R2 := Lib.hid r2
  have S0 := Lib.hid s0; have S1 := Lib.hid s1; have S2 := Lib.hid s2
  unfold maxLen at n0 n1 n2 q0 q1 q2
  clear r0 r1 r2 s0 s1 s2
  obtain ⟨l0n, hl0⟩ : ∃ k, x.ks.length = k := ⟨_, rfl⟩
  obtain ⟨l1n, hl1⟩ : ∃ k, x.js.length = k := ⟨_, rfl⟩
  obtain ⟨l2n, hl2⟩ : ∃ k, x.ls.length = k := ⟨_, rfl⟩
  have H0 := Lib.hid hl0; have H1 := Lib.hid hl1; have H2 := Lib.hid hl2
  rw [hl0] at m0 p0 ⊢
  rw [hl1] at m1 p1 ⊢
  rw [hl2] at m2 p2 ⊢
  clear hl0 hl1 hl2
  generalize x.sd.length = l3n at *
  generalize x.ut.length = l4n at *
  have UU := Lib.hid ((Up.alloc w (.cells #[.slice A0 l0n c0, .slice A1 l1n c1, .slice A2 l2n c2, .slice A3 l3n c3, .slice A4 l4n c4] 37)).alloc' (.cells #[.slice B0 l0n d0, .slice B1 l1n d1, .slice B2 l2n d2, .slice B3 l3n d3, .slice B4 l4n d4] 37))
  have X1 := Lib.hid ((Bx5.new w (.slice A0 l0n c0) (.slice A1 l1n c1) (.slice A2 l2n c2) (.slice A3 l3n c3) (.slice A4 l4n c4) 37).up (Up.alloc _ (.cells #[.slice B0 l0n d0, .slice B1 l1n d1, .slice B2 l2n d2, .slice B3 l3n d3, .slice B4 l4n d4] 37)))
  have X2 := Lib.hid (Bx5.new (w.alloc (.cells #[.slice A0 l0n c0, .slice A1 l1n c1, .slice A2 l2n c2, .slice A3 l3n c3, .slice A4 l4n c4] 37)) (.slice B0 l0n d0) (.slice B1 l1n d1) (.slice B2 l2n d2) (.slice B3 l3n d3) (.slice B4 l4n d4) 37)
  rw [World.size_alloc] at X2
  go_enter Tryz.func20, Tryz.ntmps20
  go_wp2_with fail
  refine (C3.out _ UU.out).mono ?_; rintro e w1 ⟨rfl, u1⟩
  obtain ⟨a0, a1, a2, a3, a4⟩ := X1.out.up u1
  obtain ⟨b0, b1, b2, b3, b4⟩ := X2.out.up u1
  go_wp2_with fail
  clear a0 a1 a2 a3 a4 b0 b1 b2 b3 b4
  refine (C4.out _ (UU.out.trans u1)).mono ?_; rintro e w2 ⟨rfl, u2⟩
  have Y1 := Lib.hid ((X1.out.up u1).up u2)
  have Y2 := Lib.hid ((X2.out.up u1).up u2)
  have U2 := Lib.hid ((UU.out.trans u1).trans u2)
  clear u1 u2 X1 X2 UU C3 C4
  go_wp2_with fail
  go_loopw [5] (fun i wr => ∃ k : Nat, k ≤ l0n ∧ i = .int .i64 k ∧ Up w2 wr) (fun i _ => l0n - (intOf i).toNat)
  case atStart => exact ⟨0, Nat.zero_le _, rfl, Up.refl _⟩
  case round =>
    obtain ⟨k, hk, rfl, hu⟩ := hrel
    have HU := Lib.hid hu
    obtain ⟨a0, a1, a2, a3, a4⟩ := Y1.out.up hu
    obtain ⟨b0, b1, b2, b3, b4⟩ := Y2.out.up hu
    by_cases hlt : k < l0n
    · have kl : k < x.ks.length := by rw [H0.out]; exact hlt
      obtain ⟨g1, o1, rfl, e1, e2, e3⟩ := (R0.out.up (U2.out.trans hu)).knd kl
      obtain ⟨g2, o2, rfl, f1, f2, f3⟩ := (S0.out.up (U2.out.trans hu)).knd kl
      have b6 : (k : Int) < (l0n : Int) := by omega
      have b8 : (0 : Int) ≤ (k : Int) := by omega
      generalize (x.ks.getD k k0).off = y1 at *
      generalize (x.ks.getD k k0).dst = y2 at *
      generalize (x.ks.getD k k0).name = y3 at *
      clear hu
      go_wp2_with fail
      go_quiet (fail)
      go_wp2_with fail
      go_roundw
      case rel => exact ⟨k + 1, by omega, by go_num, HU.out.drewN' _⟩
      case measure => simp [intOf]; omega
    · have hkq : k = l0n := by omega
      subst hkq
      replace Y1 := Lib.hid (Y1.out.up hu)
      replace Y2 := Lib.hid (Y2.out.up hu)
      replace U2 := Lib.hid (U2.out.trans hu)
      clear hu HU R0 S0
      go_wp2_with fail
      clear a0 a1 a2 a3 a4 b0 b1 b2 b3 b4
      generalize hwv : wr = wv1 at *
      clear hwv
      go_loopw [6] (fun i wr => ∃ k : Nat, k ≤ l1n ∧ i = .int .i64 k ∧ Up wv1 wr) (fun i _ => l1n - (intOf i).toNat)
      case atStart => exact ⟨0, Nat.zero_le _, rfl, Up.refl _⟩
      case round =>
        obtain ⟨k, hk, rfl, hu⟩ := hrel
        have HU := Lib.hid hu
        obtain ⟨a0, a1, a2, a3, a4⟩ := Y1.out.up hu
        obtain ⟨b0, b1, b2, b3, b4⟩ := Y2.out.up hu
        by_cases hlt : k < l1n
        · have kl : k < x.js.length := by rw [H1.out]; exact hlt
          obtain ⟨g1, o1, rfl, hj1⟩ := (R1.out.up (U2.out.trans hu)).jmp kl
          obtain ⟨e1, e2⟩ := hj1 k kl
          obtain ⟨g2, o2, rfl, hj2⟩ := (S1.out.up (U2.out.trans hu)).jmp kl
          obtain ⟨f1, f2⟩ := hj2 k kl
          clear hj1 hj2
          have b6 : (k : Int) < (l1n : Int) := by omega
          have b8 : (0 : Int) ≤ (k : Int) := by omega
          generalize (x.js.getD k j0).t = y1 at *
          generalize (x.js.getD k j0).k = y2 at *
          clear hu
          go_wp2_with fail
          go_quiet (fail)
          go_wp2_with fail
          go_roundw
          case rel => exact ⟨k + 1, by omega, by go_num, HU.out.drewN' _⟩
          case measure => simp [intOf]; omega
        · have hkq : k = l1n := by omega
          subst hkq
          replace Y1 := Lib.hid (Y1.out.up hu)
          replace Y2 := Lib.hid (Y2.out.up hu)
          replace U2 := Lib.hid (U2.out.trans hu)
          clear hu HU R1 S1
          go_wp2_with fail
          clear a0 a1 a2 a3 a4 b0 b1 b2 b3 b4
          generalize hwv : wr = wv2 at *
          clear hwv
          go_loopw [7] (fun i wr => ∃ k : Nat, k ≤ l2n ∧ i = .int .i64 k ∧ Up wv2 wr) (fun i _ => l2n - (intOf i).toNat)
          case atStart => exact ⟨0, Nat.zero_le _, rfl, Up.refl _⟩
          case round =>
            obtain ⟨k, hk, rfl, hu⟩ := hrel
            have HU := Lib.hid hu
            obtain ⟨a0, a1, a2, a3, a4⟩ := Y1.out.up hu
            obtain ⟨b0, b1, b2, b3, b4⟩ := Y2.out.up hu
            by_cases hlt : k < l2n
            · have kl : k < x.ls.length := by rw [H2.out]; exact hlt
              obtain ⟨g1, o1, rfl, e1, e2⟩ := (R2.out.up (U2.out.trans hu)).lep kl
              obtain ⟨g2, o2, rfl, f1, f2⟩ := (S2.out.up (U2.out.trans hu)).lep kl
              have b6 : (k : Int) < (l2n : Int) := by omega
              have b8 : (0 : Int) ≤ (k : Int) := by omega
              generalize (x.ls.getD k l0).t = y1 at *
              generalize (x.ls.getD k l0).c = y2 at *
              clear hu
              go_wp2_with fail
              go_quiet (fail)
              go_wp2_with fail
              go_roundw
              case rel => exact ⟨k + 1, by omega, by go_num, HU.out.drewN' _⟩
              case measure => simp [intOf]; omega
            · have hkq : k = l2n := by omega
              subst hkq
              replace Y1 := Lib.hid (Y1.out.up hu)
              replace Y2 := Lib.hid (Y2.out.up hu)
              replace U2 := Lib.hid (U2.out.trans hu)
              clear hu HU R2 S2
              go_wp2_with fail
              clear a0 a1 a2 a3 a4 b0 b1 b2 b3 b4
              go_ret
              exact ⟨rfl, U2.out⟩
end Go.Proofs.YtaljddoenjgbfaaGreat
