/-
  RuleWhole is proved: for every rule, year and number the statement answers true: a year is parted by its turns. Conditions: the tied card's own (the listed variable, the lengths of months, as the text of the program lays it).
-/
import Derived.Test.YtbneokgeochinaaDoorLcShown9
import Derived.Test.YtbneokgeochinaaDoorLcPs8
import Derived.Test.YtbneokgeochinaaDoorLcOpC
import Derived.Test.YtbneokgeochinaaDoorLcDb
import Derived.Test.YtbneokgeochinaaDoorLcRy4
import Derived.Test.YtbneokgeochinaaDoorTie
import Derived.Test.YtbneokgeochinaaDoorCards
import Derived.WalkKit
import Derived.ProofKit
import Derived.OpenShut
import Derived.LaidMore
import Derived.Stop.Joined
import Derived.SevenTiedAt
namespace Go.Proofs.YtbneokgeochinaaDoor.ruleWhole
open Go.ChangeShapes Go.WideShapes Go.ChangeAt Go.RowKit Lc
set_option linter.unusedVariables false

theorem own : ownKnob Tryd.prog.godebug = none := by kernel_rfl

theorem mask_any (a : Int) (k : Nat) (hk : k ≤ 16777215) : ∃ n : Nat, n ≤ k ∧ bits .and .i64 a (k : Int) = n := by
  refine ⟨(BitVec.ofInt 64 a).toNat &&& k, Nat.and_le_right, ?_⟩
  have l := Nat.and_le_right (n := (BitVec.ofInt 64 a).toNat) (m := k)
  show IntKind.i64.wrap (((BitVec.ofInt 64 a &&& BitVec.ofInt 64 (k : Int)).toNat : Nat) : Int) = _
  have e : (BitVec.ofInt 64 (k : Int)).toNat = k := by
    rw [BitVec.toNat_ofInt]
    omega
  rw [BitVec.toNat_and, e]
  exact IntWalk.i64_in _ (by omega)
/-- What stands behind k of the four years. -/
structure WhI (r : Ru) (t y : Int) (k : Nat) (L : Int) (D : Bool) : Prop where
  low : -4611686018427387904 ≤ L
  ex : (L = -4611686018427387904 ∧ D = false ∧ ∀ n, y - 1 ≤ n → n < y - 1 + (k : Int) → t < tnS r n ∧ t < tnE r n) ∨
    (D = true ∧ L ≤ t ∧ (∀ n, y - 1 ≤ n → n < y - 1 + (k : Int) → (tnS r n ≤ t → tnS r n ≤ L) ∧ (tnE r n ≤ t → tnE r n ≤ L)) ∧ ∃ n, y - 1 ≤ n ∧ n < y - 1 + (k : Int) ∧ tnS r n = L) ∨
    (D = false ∧ L ≤ t ∧ (∀ n, y - 1 ≤ n → n < y - 1 + (k : Int) → (tnS r n ≤ t → tnS r n < L) ∧ (tnE r n ≤ t → tnE r n ≤ L)) ∧ ∃ n, y - 1 ≤ n ∧ n < y - 1 + (k : Int) ∧ tnE r n = L)
theorem WhI.start (r : Ru) (t y : Int) : WhI r t y 0 (-4611686018427387904) false := ⟨by omega, .inl ⟨rfl, rfl, fun n h1 h2 => by omega⟩⟩
def whS (t c L : Int) (D : Bool) (L1 : Int) (D1 : Bool) : Prop :=
  (decide (c ≤ t) = true ∧ decide (L ≤ c) = true ∧ L1 = c ∧ D1 = true) ∨ (decide (c ≤ t) = true ∧ decide (L ≤ c) = false ∧ L1 = L ∧ D1 = D) ∨ (decide (c ≤ t) = false ∧ L1 = L ∧ D1 = D)
def whE (t c L : Int) (D : Bool) (L1 : Int) (D1 : Bool) : Prop :=
  (decide (c ≤ t) = true ∧ decide (L < c) = true ∧ L1 = c ∧ D1 = false) ∨ (decide (c ≤ t) = true ∧ decide (L < c) = false ∧ L1 = L ∧ D1 = D) ∨ (decide (c ≤ t) = false ∧ L1 = L ∧ D1 = D)
theorem whS_ex (t c L : Int) (D : Bool) : ∃ L1 D1, whS t c L D L1 D1 := by
  by_cases a : c ≤ t
  · by_cases b : L ≤ c
    · exact ⟨_, _, .inl ⟨by simpa using a, by simpa using b, rfl, rfl⟩⟩
    · exact ⟨_, _, .inr (.inl ⟨by simpa using a, by simpa using b, rfl, rfl⟩)⟩
  · exact ⟨_, _, .inr (.inr ⟨by simpa using a, rfl, rfl⟩)⟩
theorem whE_ex (t c L : Int) (D : Bool) : ∃ L1 D1, whE t c L D L1 D1 := by
  by_cases a : c ≤ t
  · by_cases b : L < c
    · exact ⟨_, _, .inl ⟨by simpa using a, by simpa using b, rfl, rfl⟩⟩
    · exact ⟨_, _, .inr (.inl ⟨by simpa using a, by simpa using b, rfl, rfl⟩)⟩
  · exact ⟨_, _, .inr (.inr ⟨by simpa using a, rfl, rfl⟩)⟩
theorem WhI.step {r : Ru} {t y : Int} {k : Nat} {L L1 L2 : Int} {D D1 D2 : Bool} (h : WhI r t y k L D) (b1 : -4611686018427387904 < tnS r (y - 1 + (k : Int))) (b2 : -4611686018427387904 < tnE r (y - 1 + (k : Int)))
    (h1 : whS t (tnS r (y - 1 + (k : Int))) L D L1 D1) (h2 : whE t (tnE r (y - 1 + (k : Int))) L1 D1 L2 D2) : WhI r t y (k + 1) L2 D2 := by
  have up : ∀ {P : Int → Prop}, (∀ n, y - 1 ≤ n → n < y - 1 + (k : Int) → P n) → P (y - 1 + (k : Int)) → ∀ n, y - 1 ≤ n → n < y - 1 + ((k + 1 : Nat) : Int) → P n := fun f g n a b => by
    by_cases c : n = y - 1 + (k : Int)
    · rw [c]; exact g
    · exact f n a (by omega)
  obtain ⟨low, ex⟩ := h
  generalize hc : tnS r (y - 1 + (k : Int)) = c at *
  generalize hd : tnE r (y - 1 + (k : Int)) = d at *
  unfold whS at h1
  unfold whE at h2
  simp only [decide_eq_true_eq, decide_eq_false_iff_not] at h1 h2
  -- behind the start
  have m : -4611686018427387904 ≤ L1 ∧ ((L1 = -4611686018427387904 ∧ D1 = false ∧ t < c ∧ ∀ n, y - 1 ≤ n → n < y - 1 + (k : Int) → t < tnS r n ∧ t < tnE r n) ∨
    (D1 = true ∧ L1 ≤ t ∧ (c ≤ t → c ≤ L1) ∧ (∀ n, y - 1 ≤ n → n < y - 1 + (k : Int) → (tnS r n ≤ t → tnS r n ≤ L1) ∧ (tnE r n ≤ t → tnE r n ≤ L1)) ∧ ∃ n, y - 1 ≤ n ∧ n < y - 1 + ((k + 1 : Nat) : Int) ∧ tnS r n = L1) ∨
    (D1 = false ∧ L1 ≤ t ∧ (c ≤ t → c < L1) ∧ (∀ n, y - 1 ≤ n → n < y - 1 + (k : Int) → (tnS r n ≤ t → tnS r n < L1) ∧ (tnE r n ≤ t → tnE r n ≤ L1)) ∧ ∃ n, y - 1 ≤ n ∧ n < y - 1 + ((k + 1 : Nat) : Int) ∧ tnE r n = L1)) := by
    rcases h1 with ⟨a, b, rfl, rfl⟩ | ⟨a, b, rfl, rfl⟩ | ⟨a, rfl, rfl⟩
    · refine ⟨by omega, .inr (.inl ⟨rfl, a, fun _ => Int.le_refl _, fun n g1 g2 => ?_, ⟨_, by omega, by omega, hc⟩⟩)⟩
      rcases ex with ⟨e1, _, e3⟩ | ⟨_, e2, e3, _⟩ | ⟨_, e2, e3, _⟩
      · have := e3 n g1 g2; exact ⟨fun _ => by omega, fun _ => by omega⟩
      · have := e3 n g1 g2; exact ⟨fun q => by have := this.1 q; omega, fun q => by have := this.2 q; omega⟩
      · have := e3 n g1 g2; exact ⟨fun q => by have := this.1 q; omega, fun q => by have := this.2 q; omega⟩
    · refine ⟨low, ?_⟩
      rcases ex with ⟨e1, _, e3⟩ | ⟨e1, e2, e3, n, g1, g2, g3⟩ | ⟨e1, e2, e3, n, g1, g2, g3⟩
      · exfalso; omega
      · exact .inr (.inl ⟨e1, e2, fun _ => by omega, e3, n, g1, by omega, g3⟩)
      · exact .inr (.inr ⟨e1, e2, fun _ => by omega, e3, n, g1, by omega, g3⟩)
    · refine ⟨low, ?_⟩
      rcases ex with ⟨e1, e2, e3⟩ | ⟨e1, e2, e3, n, g1, g2, g3⟩ | ⟨e1, e2, e3, n, g1, g2, g3⟩
      · exact .inl ⟨e1, e2, by omega, e3⟩
      · exact .inr (.inl ⟨e1, e2, fun q => absurd q a, e3, n, g1, by omega, g3⟩)
      · exact .inr (.inr ⟨e1, e2, fun q => absurd q a, e3, n, g1, by omega, g3⟩)
  clear ex low h1
  obtain ⟨low, ex⟩ := m
  rcases h2 with ⟨a, b, rfl, rfl⟩ | ⟨a, b, rfl, rfl⟩ | ⟨a, rfl, rfl⟩
  · refine ⟨by omega, .inr (.inr ⟨rfl, a, ?_, ⟨_, by omega, by omega, hd⟩⟩)⟩
    rcases ex with ⟨e1, _, e2, e3⟩ | ⟨_, e2, e4, e3, _⟩ | ⟨_, e2, e4, e3, _⟩
    · refine up (fun n g1 g2 => ?_) ⟨fun q => by rw [hc] at q; omega, fun _ => by rw [hd]; omega⟩
      have := e3 n g1 g2; exact ⟨fun _ => by omega, fun _ => by omega⟩
    · refine up (fun n g1 g2 => ?_) ⟨fun q => by rw [hc] at q ⊢; have := e4 q; omega, fun _ => by rw [hd]; omega⟩
      have := e3 n g1 g2; exact ⟨fun q => by have := this.1 q; omega, fun q => by have := this.2 q; omega⟩
    · refine up (fun n g1 g2 => ?_) ⟨fun q => by rw [hc] at q ⊢; have := e4 q; omega, fun _ => by rw [hd]; omega⟩
      have := e3 n g1 g2; exact ⟨fun q => by have := this.1 q; omega, fun q => by have := this.2 q; omega⟩
  · refine ⟨low, ?_⟩
    rcases ex with ⟨e1, _, e2, e3⟩ | ⟨e1, e2, e4, e3, e5⟩ | ⟨e1, e2, e4, e3, e5⟩
    · exfalso; omega
    · exact .inr (.inl ⟨e1, e2, up e3 ⟨fun q => by rw [hc] at q ⊢; exact e4 q, fun _ => by rw [hd]; omega⟩, e5⟩)
    · exact .inr (.inr ⟨e1, e2, up e3 ⟨fun q => by rw [hc] at q ⊢; exact e4 q, fun _ => by rw [hd]; omega⟩, e5⟩)
  · refine ⟨low, ?_⟩
    rcases ex with ⟨e1, e2, e4, e3⟩ | ⟨e1, e2, e4, e3, e5⟩ | ⟨e1, e2, e4, e3, e5⟩
    · exact .inl ⟨e1, e2, up e3 ⟨by rw [hc]; exact e4, by rw [hd]; omega⟩⟩
    · exact .inr (.inl ⟨e1, e2, up e3 ⟨fun q => by rw [hc] at q ⊢; exact e4 q, fun q => by rw [hd] at q; exact absurd q a⟩, e5⟩)
    · exact .inr (.inr ⟨e1, e2, up e3 ⟨fun q => by rw [hc] at q ⊢; exact e4 q, fun q => by rw [hd] at q; exact absurd q a⟩, e5⟩)
theorem whole_at {r : Ru} {t y L : Int} {D : Bool} (hr : rightB r true = true) (hb : r.both = true) (y1 : 1800 ≤ y) (y2 : y ≤ 2200)
    (t1 : tnS r y ≤ t ∨ tnE r y ≤ t) (t2 : t ≤ tnS r y + 16777215) (t3 : t ≤ tnE r y + 16777215) (h : WhI r t y 4 L D) : AtS r t (if D = true then r.dst else r.std) 0 := by
  have N := tn_near (n := y) hr hb
  have n1 := ny_le y1
  have n2 := ny_le y2
  have c1 : ny 1800 = -62091 := by decide
  have c2 : ny 2200 = 84006 := by decide
  have lb := lp_01 y
  have b1 : ny (-2147483648) ≤ t / 86400 := by rw [ny_first]; omega
  have b2 : t / 86400 < ny 2147483648 := by rw [ny_last]; omega
  obtain ⟨Y, m, d, hd, hn⟩ := date_ex (t / 86400) b1 b2
  obtain ⟨d1, d2⟩ := day_year hd
  rw [hn] at d1 d2
  refine .inr (.inr (.inr ⟨hr, hb, Y, m, d, hd, hn, ?_, rfl⟩))
  have z : ∀ {P : Int → Prop}, (∀ n, y - 1 ≤ n → n < y - 1 + ((4 : Nat) : Int) → P n) → P (y - 1) ∧ P y ∧ P (y + 1) ∧ P (y + 2) := fun f => ⟨f _ (by omega) (by omega), f _ (by omega) (by omega), f _ (by omega) (by omega), f _ (by omega) (by omega)⟩
  have cs : ∀ n, y - 1 ≤ n → n < y - 1 + ((4 : Nat) : Int) → n = y - 1 ∨ n = y ∨ n = y + 1 ∨ n = y + 2 := fun n a b => by omega
  rcases h.ex with ⟨e1, e2, e3⟩ | ⟨e1, e2, e3, n, g1, g2, g3⟩ | ⟨e1, e2, e3, n, g1, g2, g3⟩
  · exfalso
    have := e3 y (by omega) (by omega)
    omega
  · rw [e1, if_pos rfl]
    obtain ⟨a, b, c, e⟩ := z e3
    rw [whole_yes (L := L) hr hb (by omega) (by omega) (by omega) (by omega) t1 t2 t3 e2 a.1 a.2 b.1 b.2 c.1 c.2 e.1 e.2 (by rcases cs n g1 g2 with rfl | rfl | rfl | rfl <;> simp [g3])]
    rfl
  · rw [e1, if_neg (by decide)]
    obtain ⟨a, b, c, e⟩ := z e3
    rw [whole_no (L := L) hr hb (by omega) (by omega) (by omega) (by omega) t1 t2 t3 e2 a.1 a.2 b.1 b.2 c.1 c.2 e.1 e.2 (by rcases cs n g1 g2 with rfl | rfl | rfl | rfl <;> simp [g3])]
    rfl
structure RelW (r : Ru) (t y : Int) (w1 : World) (l d n : Value) (wr : World) : Prop where
  ex : ∃ (k : Nat) (L : Int) (D : Bool), k ≤ 4 ∧ l = .int .i64 L ∧ d = .bool D ∧ n = .int .i64 (y - 1 + (k : Int)) ∧ WhI r t y k L D ∧ Up w1 wr

set_option maxHeartbeats 16000000 in
set_option maxRecDepth 100000 in
theorem walk (x0 : Ru) (a1 : Int) (a2 : Int) (fo0 : fitB x0.std.off = true) (fd0 : fitB x0.dst.off = true) (ns0 : x0.std.name.length ≤ maxLen) (nd0 : x0.dst.name.length ≤ maxLen) (ft0 : fitB x0.st.tm = true) (fe0 : fitB x0.en.tm = true) (w1 : (Lit.int .i64 a1).wf = true) (w2 : (Lit.int .i64 a2).wf = true) (w : World) (T : Tab w) :
    Calls Tryd.prog 8 #[.agg (rA x0), .int .i64 a1, .int .i64 a2] w fun e w' => e = .returned (.bool true) ∧ Up w w' := by
  have SH := Lib.hid (fun w T => shown_any w T)
  have B0 := Lib.hid (Bk.new w (rA x0) 27 (by decide))
  have U0 := Lib.hid (Up.alloc w (.cells (rA x0) 27))
  have TT := Lib.hid T
  clear T
  have DR := Lib.hid (fun w => dright_any x0 true w ns0 nd0)
  cases hr : rightB x0 true
  · rw [hr] at DR
    go_enter Tryd.func8, Tryd.ntmps8
    go_wp2_with fail
    refine (SH.out _ (Tab.up TT.out U0.out)).mono ?_; rintro e w3 ⟨rfl, u1⟩
    have B1 := Lib.hid (B0.out.up u1)
    have U1 := Lib.hid (U0.out.trans u1)
    clear u1 B0 U0 SH
    go_upto_region 2 with (fail)
    refine wp_region_lit ?_
    refine wpList_ld rfl 3 w.heap.size x0 _ rfl B1.out rfl ?_
    go_wp2_with fail
    refine (DR.out _).mono ?_; rintro e w4 ⟨rfl, u2⟩
    have B2 := Lib.hid (B1.out.up u2)
    have U2 := Lib.hid (U1.out.trans u2)
    clear u2 B1 U1 DR
    go_wp2_with fail
    go_ret
    exact ⟨rfl, U2.out⟩
  · rw [hr] at DR
    cases hb : x0.both
    · skip
      go_enter Tryd.func8, Tryd.ntmps8
      go_wp2_with fail
      refine (SH.out _ (Tab.up TT.out U0.out)).mono ?_; rintro e w3 ⟨rfl, u1⟩
      have B1 := Lib.hid (B0.out.up u1)
      have U1 := Lib.hid (U0.out.trans u1)
      clear u1 B0 U0 SH
      go_upto_region 2 with (fail)
      refine wp_region_lit ?_
      refine wpList_ld rfl 3 w.heap.size x0 _ rfl B1.out rfl ?_
      go_wp2_with fail
      refine (DR.out _).mono ?_; rintro e w4 ⟨rfl, u2⟩
      have B2 := Lib.hid (B1.out.up u2)
      have U2 := Lib.hid (U1.out.trans u2)
      clear u2 B1 U1 DR
      have q6 : w4.cell? ⟨w.heap.size, 6, none⟩ = some (.bool false) := by rw [← hb]; exact B2.out.cell 6
      go_wp2_with fail
      go_ret
      exact ⟨rfl, U2.out⟩
    · skip
      have hl := right_lens hr
      obtain ⟨ya, hya, eya⟩ := mask_any a1 65535 (by decide)
      obtain ⟨ma, hma, ema⟩ := mask_any a2 16777215 (by decide)
      have eya : bits .and .i64 a1 65535 = (ya : Int) := eya
      have ema : bits .and .i64 a2 16777215 = (ma : Int) := ema
      obtain ⟨yb, hyb⟩ : ∃ yb, (ya : Int).tmod 401 = yb := ⟨_, rfl⟩
      have yb1 : 0 ≤ yb ∧ yb ≤ 400 := by rw [← hyb, Int.tmod_eq_emod_of_nonneg (by omega)]; omega
      obtain ⟨y, hy⟩ : ∃ y, 1800 + yb = y := ⟨_, rfl⟩
      have xy : IntKind.i64.wrap (1800 + yb) = y := by rw [IntWalk.i64_in _ (by omega)]; exact hy
      have y1 : 1800 ≤ y ∧ y ≤ 2200 := by omega
      have ok : Hid (∀ n, 1700 ≤ n → n ≤ 2300 → okT x0 n = true) := Lib.hid (fun n h1 h2 => by unfold okT yrB inB; rw [hr, hb]; simp; omega)
      have TP : Hid (∀ n, 1700 ≤ n → n ≤ 2300 → ∀ w, Tab w → Calls Tryd.prog 14 #[.agg (rA x0), .int .i64 n] w fun e w' => e = .returned (.tuple #[.int .i64 (tnS x0 n), .int .i64 (tnE x0 n), .int .i64 0]) ∧ Up w w') := Lib.hid (fun n h1 h2 w T => by
        have := turnsP_any x0 n w T ns0 nd0
        unfold tuS tuN tuE at this
        rw [ok.out n h1 h2, if_pos rfl, if_pos rfl, if_pos rfl] at this
        exact this)
      have BD : Hid (∀ n, 1700 ≤ n → n ≤ 2300 → -4611686018427387904 < tnS x0 n ∧ -4611686018427387904 < tnE x0 n) := Lib.hid (fun n h1 h2 => by
        have := tnS_bd (ok.out n h1 h2)
        have := tnE_bd (ok.out n h1 h2)
        omega)
      obtain ⟨t, M, hM, ht, t1, t2, t3, ft⟩ : ∃ t M, min (tnS x0 y) (tnE x0 y) = M ∧ IntKind.i64.wrap (M + (ma : Int)) = t ∧ (tnS x0 y ≤ t ∨ tnE x0 y ≤ t) ∧ t ≤ tnS x0 y + 16777215 ∧ t ≤ tnE x0 y + 16777215 ∧ fitB t = true := by
        have s1 := tnS_bd (ok.out y (by omega) (by omega))
        have s2 := tnE_bd (ok.out y (by omega) (by omega))
        refine ⟨_, _, rfl, IntWalk.i64_in _ (by omega), by omega, by omega, by omega, fitB_true.2 (by omega)⟩
      have FIN := Lib.hid (fun L D h => whole_at (L := L) (D := D) hr hb y1.1 y1.2 t1 t2 t3 h)
      have ATK := Lib.hid (fun K h w T => at_of (r := x0) (t := t) (K := K) (E := 0) h w T ns0 nd0 ft)
      have T1 := TP.out y (by omega) (by omega)
      have hM := hM
      clear hy t1 t2 t3 ft yb1 hya hma ok
      generalize hS1 : tnS x0 y = S1 at T1 hM
      generalize hE1 : tnE x0 y = E1 at T1 hM
      clear hS1 hE1
      go_enter Tryd.func8, Tryd.ntmps8
      go_wp2_with fail
      refine (SH.out _ (Tab.up TT.out U0.out)).mono ?_; rintro e w3 ⟨rfl, u1⟩
      have B1 := Lib.hid (B0.out.up u1)
      have U1 := Lib.hid (U0.out.trans u1)
      clear u1 B0 U0 SH
      go_upto_region 2 with (fail)
      refine wp_region_lit ?_
      refine wpList_ld rfl 3 w.heap.size x0 _ rfl B1.out rfl ?_
      go_wp2_with fail
      refine (DR.out _).mono ?_; rintro e w4 ⟨rfl, u2⟩
      have B2 := Lib.hid (B1.out.up u2)
      have U2 := Lib.hid (U1.out.trans u2)
      clear u2 B1 U1 DR
      have q6 : w4.cell? ⟨w.heap.size, 6, none⟩ = some (.bool true) := by rw [← hb]; exact B2.out.cell 6
      go_upto_region 6 with (fail)
      refine wp_region_lit ?_
      refine wpList_ld rfl 3 w.heap.size x0 _ rfl B2.out rfl ?_
      go_wp2_with fail
      refine (T1 _ (Tab.up TT.out U2.out)).mono ?_; rintro e w5 ⟨rfl, u5⟩
      have B5 := Lib.hid (B2.out.up u5)
      have U5 := Lib.hid (U2.out.trans u5)
      clear u5 B2 U2 T1 q6
      go_wp2_with fail
      clear hM ht eya ema hyb xy
      go_loopw [13, 14, 15] (fun l d n wr => RelW x0 t y w5 l d n wr) (fun _ _ n _ => (y + 4 - intOf n).toNat)
      case atStart => exact ⟨⟨0, _, _, by omega, rfl, rfl, by simp, WhI.start x0 t y, Up.refl _⟩⟩
      case round =>
        obtain ⟨k, L, D, k4, rfl, rfl, rfl, wi, ur⟩ := hrel.ex
        have WI := Lib.hid wi
        have B6 := Lib.hid (B5.out.up ur)
        have U6 := Lib.hid (U5.out.trans ur)
        have UR := Lib.hid ur
        clear wi ur hrel
        by_cases kk : k = 4
        · subst kk
          have gg : decide (y - 1 + ((4 : Nat) : Int) ≤ y + 2) = false := by simp; omega
          have AZ := Lib.hid (ATK.out _ (FIN.out _ _ WI.out))
          clear FIN ATK TP BD WI UR
          go_upto_region 24 with (fail)
          refine wp_region_lit ?_
          refine wpList_ld rfl 3 w.heap.size x0 _ rfl B6.out rfl ?_
          cases D
          · have AT : Hid (∀ w, Tab w → Calls Tryd.prog 16 #[.agg (rA x0), .int .i64 t] w fun e w' => e = .returned (.tuple #[.agg #[.int .i64 x0.std.off, .bool x0.std.dst, .string (tx x0.std.name)], .int .i64 0]) ∧ Up w w') := AZ
            clear AZ
            have QE : ∀ w, (binOp .eql 23 (.agg #[.int .i64 x0.std.off, .bool x0.std.dst, .string (tx x0.std.name)]) (.agg #[.int .i64 x0.std.off, .bool x0.std.dst, .string (tx x0.std.name)])).run Tryd.prog w = .ok (.bool true) w := fun w => by have := kd_eql x0.std x0.std w; rw [decide_eq_true rfl] at this; exact this
            go_wp2_with fail
            refine (AT.out _ (Tab.up TT.out U6.out)).mono ?_; rintro e w7 ⟨rfl, u7⟩
            have KB := Lib.hid (Bk.new w7 #[.int .i64 x0.std.off, .bool x0.std.dst, .string (tx x0.std.name)] 23 (by decide))
            have u7' := u7.trans (Up.alloc w7 (.cells #[.int .i64 x0.std.off, .bool x0.std.dst, .string (tx x0.std.name)] 23))
            have B7 := Lib.hid (B6.out.up u7')
            have U7 := Lib.hid (U6.out.trans u7')
            clear u7 u7' B6 U6 AT
            go_upto_region 25 with (fail)
            generalize w7.alloc _ = W at *
            have p0 : W.cell? ⟨w7.heap.size, 0, none⟩ = some (.int .i64 x0.std.off) := KB.out.cell 0
            have p1 : W.cell? ⟨w7.heap.size, 1, none⟩ = some (.bool x0.std.dst) := KB.out.cell 1
            have p2 : W.cell? ⟨w7.heap.size, 2, none⟩ = some (.string (tx x0.std.name)) := KB.out.cell 2
            have s0 : W.cell? ⟨w.heap.size, 0, none⟩ = some (.int .i64 x0.std.off) := B7.out.cell 0
            have s1 : W.cell? ⟨w.heap.size, 1, none⟩ = some (.bool x0.std.dst) := B7.out.cell 1
            have s2 : W.cell? ⟨w.heap.size, 2, none⟩ = some (.string (tx x0.std.name)) := B7.out.cell 2
            go_wp2_with fail
            go_ret
            exact ⟨ret_b (by simp), U7.out⟩
          · have AT : Hid (∀ w, Tab w → Calls Tryd.prog 16 #[.agg (rA x0), .int .i64 t] w fun e w' => e = .returned (.tuple #[.agg #[.int .i64 x0.dst.off, .bool x0.dst.dst, .string (tx x0.dst.name)], .int .i64 0]) ∧ Up w w') := AZ
            clear AZ
            have QE : ∀ w, (binOp .eql 23 (.agg #[.int .i64 x0.dst.off, .bool x0.dst.dst, .string (tx x0.dst.name)]) (.agg #[.int .i64 x0.dst.off, .bool x0.dst.dst, .string (tx x0.dst.name)])).run Tryd.prog w = .ok (.bool true) w := fun w => by have := kd_eql x0.dst x0.dst w; rw [decide_eq_true rfl] at this; exact this
            go_wp2_with fail
            refine (AT.out _ (Tab.up TT.out U6.out)).mono ?_; rintro e w7 ⟨rfl, u7⟩
            have KB := Lib.hid (Bk.new w7 #[.int .i64 x0.dst.off, .bool x0.dst.dst, .string (tx x0.dst.name)] 23 (by decide))
            have u7' := u7.trans (Up.alloc w7 (.cells #[.int .i64 x0.dst.off, .bool x0.dst.dst, .string (tx x0.dst.name)] 23))
            have B7 := Lib.hid (B6.out.up u7')
            have U7 := Lib.hid (U6.out.trans u7')
            clear u7 u7' B6 U6 AT
            go_upto_region 25 with (fail)
            generalize w7.alloc _ = W at *
            have p0 : W.cell? ⟨w7.heap.size, 0, none⟩ = some (.int .i64 x0.dst.off) := KB.out.cell 0
            have p1 : W.cell? ⟨w7.heap.size, 1, none⟩ = some (.bool x0.dst.dst) := KB.out.cell 1
            have p2 : W.cell? ⟨w7.heap.size, 2, none⟩ = some (.string (tx x0.dst.name)) := KB.out.cell 2
            have s0 : W.cell? ⟨w.heap.size, 3, none⟩ = some (.int .i64 x0.dst.off) := B7.out.cell 3
            have s1 : W.cell? ⟨w.heap.size, 4, none⟩ = some (.bool x0.dst.dst) := B7.out.cell 4
            have s2 : W.cell? ⟨w.heap.size, 5, none⟩ = some (.string (tx x0.dst.name)) := B7.out.cell 5
            go_wp2_with fail
            go_ret
            exact ⟨ret_b (by simp), U7.out⟩
        · have gg : decide (y - 1 + (k : Int) ≤ y + 2) = true := by simp; omega
          have TK := Lib.hid (TP.out (y - 1 + (k : Int)) (by omega) (by omega))
          have bd := BD.out (y - 1 + (k : Int)) (by omega) (by omega)
          obtain ⟨L1, D1, h1⟩ := whS_ex t (tnS x0 (y - 1 + (k : Int))) L D
          obtain ⟨L2, D2, h2⟩ := whE_ex t (tnE x0 (y - 1 + (k : Int))) L1 D1
          have W2 := Lib.hid (WI.out.step bd.1 bd.2 h1 h2)
          clear FIN ATK TP BD WI bd
          generalize tnS x0 (y - 1 + (k : Int)) = c at *
          generalize tnE x0 (y - 1 + (k : Int)) = d at *
          unfold whS at h1
          unfold whE at h2
          go_upto_region 15 with (fail)
          refine wp_region_lit ?_
          refine wpList_ld rfl 3 w.heap.size x0 _ rfl B6.out rfl ?_
          go_wp2_with fail
          refine (TK.out _ (Tab.up TT.out U6.out)).mono ?_; rintro e w7 ⟨rfl, u7⟩
          have U7 := Lib.hid (UR.out.trans u7)
          clear u7 TK B6 U6 UR
          rcases h1 with ⟨g1, g2, rfl, rfl⟩ | ⟨g1, g2, rfl, rfl⟩ | ⟨g1, rfl, rfl⟩ <;> rcases h2 with ⟨g3, g4, rfl, rfl⟩ | ⟨g3, g4, rfl, rfl⟩ | ⟨g3, rfl, rfl⟩
          all_goals
            go_wp2_with fail
            go_roundw
            case rel => exact ⟨⟨k + 1, _, _, by omega, rfl, rfl, by go_num, W2.out, U7.out⟩⟩
            case measure => simp [intOf]; omega

theorem readable : ∀ t ∈ Tryd.f8.params.toList, Tryd.prog.readableRec t = true ∧ t < Tryd.prog.types.size := by
  rw [Tryd.params8]
  intro t ht
  have hall : ([27, 3, 3].all fun u => Tryd.prog.readableRec u && decide (u < Tryd.prog.types.size)) = true := by kernel_rfl
  have := List.all_eq_true.1 hall t (by simpa using ht)
  simpa using this

set_option maxRecDepth 100000 in
theorem lifted (os : Os) (started : os.Started) (H : Type) (enc : TypeId × Value → H) :
    ReturnsInHanded {} Tryd.checked os 8 .any (fun w args => (Rows.ruleWholeSpec.pre enc Tryd.prog Tryd.f8 [] false w args ∧ laidMetH Tryd.prog laidC w) ∧ sizedMet enc Tryd.prog Tryd.f8 (OpenSpec.ofChange Rows.ruleWholeSpec) false w args) (Rows.ruleWholeSpec.post enc Tryd.prog Tryd.f8 false true false false) := by
  refine returnsInHanded_of_change_and (C := Tryd.checked) (X := fun w _ => laidMetH Tryd.prog laidC w) (fun _ _ _ hh h => h.of_heap hh) own started (by kernel_rfl) Tryd.func8
    (ChangeSpec.witness_shaped (enc := enc) (C := Tryd.checked) (os := os) (X := fun w _ => laidMetH Tryd.prog laidC w) false (World.doorLaid Tryd.prog 400 os) #[.agg #[.int .i64 0, .bool false, .string ⟨#[]⟩, .int .i64 0, .bool false, .string ⟨#[]⟩, .bool false, .int .i64 0, .int .i64 0, .int .i64 0, .int .i64 0, .int .i64 0, .int .i64 0, .int .i64 0, .int .i64 0, .int .i64 0, .int .i64 0], .int .i64 0, .int .i64 0] 8 rfl (World.shaped_of_RefB (by kernel_rfl) (by kernel_rfl)) (by kernel_rfl) (by kernel_rfl) (by kernel_rfl) (door_met os _)) ?_
  intro W base args ds gs before hval0 hW _ _ hL _
  have hval : ∀ (j : Nat) t v, Tryd.f8.params[j]? = some t → args[j]? = some v → Value.okWide Tryd.prog W .any base t v := hval0
  have hW' := hW
  obtain ⟨p, q, hA0, hV, rfl, hfz, hnd⟩ := hW
  have hA : DataW.TrodAll enc Tryd.prog W 0 (fun _ => true) true Tryd.f8.params.toList args.toList ds p := hA0
  rw [Tryd.params8] at hA hval
  obtain ⟨v0, vs0, d0, ds0, p0, q0, hargs, rfl, rfl, h0, r0⟩ := trodAll_cons hA
  obtain ⟨v1, vs1, d1, ds1, p1, q1, rfl, rfl, rfl, h1, r1⟩ := trodAll_cons r0
  obtain ⟨v2, vs2, d2, ds2, p2, q2, rfl, rfl, rfl, h2, r2⟩ := trodAll_cons r1
  obtain ⟨rfl, rfl, rfl⟩ := trodAll_nil r2
  obtain rfl : args = #[v0, v1, v2] := by cases args; simp_all
  obtain ⟨rfl, rfl⟩ := trodVars_none hV
  obtain ⟨x0, rfl, fo0, fd0, ns0, nd0, ft0, fe0⟩ := open_rul (hval 0 27 v0 rfl rfl) h0
  obtain ⟨a1, rfl, rfl, rfl, w1⟩ := open_int Tryd.underlying3 (hval 1 3 v1 rfl rfl) h1
  obtain ⟨a2, rfl, rfl, rfl, w2⟩ := open_int Tryd.underlying3 (hval 2 3 v2 rfl rfl) h2
  clear hA0 hval0
  refine (walk x0 a1 a2 fo0 fd0 ns0 nd0 ft0 fe0 w1 w2 W (tab_of_laid hL)).mono fun e W' ⟨he, hg⟩ => ?_
  subst he
  exact ⟨_, rfl, post_up laidOut readable rfl hW' (fun _ _ _ => (trodAll_cons_mk (shut_bool Tryd.underlying4 _) trodAll_mk0)) rfl rfl
    hg (ok_one (by kernel_rfl) rfl (okWide_bool_mk Tryd.underlying4 _))⟩

theorem over : Rows.ruleWholeRow.holds Tryd.pinned (OpenSpec.ofChange Rows.ruleWholeSpec) :=
  OpenClaim.holds_of_wide 8 Tryd.f8 rfl rfl rfl rfl rfl rfl rfl ⟨rfl, rfl, rfl, rfl, rfl⟩ rfl rfl rfl rfl rfl (by kernel_rfl) Tryd.func8 (by kernel_rfl)
    (of_decide_eq_true (by kernel_rfl)) (by unfold Func.isWrapper; first | (rw [if_pos (by decide +kernel)]; kernel_rfl) | (rw [if_neg (by decide +kernel)]; exact ⟨rfl, rfl⟩))
    (fun os started H enc _ => lifted os started H enc)

set_option maxRecDepth 100000 in
theorem proved : Rows.RuleWholeCardSaid :=
  Claim7.holds_tied_plain_at .later [] [.data] true _ false
    over (fun _ h => by cases h) (by kernel_rfl) (fun _ h => by cases h) ruleWhole_row_tie rfl ⟨rfl, rfl⟩ (by kernel_rfl) rfl
    (fun f fn hf hfn => by
      obtain rfl : f = 8 := Option.some.inj ((show Tryd.prog.funcNamed "longcase/longcaselaw09.RuleWhole" = some 8 by kernel_rfl).symm.trans hf) |>.symm
      obtain rfl : fn = Tryd.f8 := (Option.some.inj (Tryd.func8.symm.trans hfn)).symm
      exact ⟨by kernel_rfl, fun j t ht => by
        rw [Tryd.params8] at ht
        have hm : t ∈ [27, 3, 3] := by simpa using Array.mem_of_getElem? ht
        have hall : ([27, 3, 3].all fun u => !Tryd.prog.wantsStandIn u) = true := by kernel_rfl
        exact (show Tryd.prog.wantsStandIn t = false by simpa using List.all_eq_true.1 hall t hm)⟩)
    (by kernel_rfl)
end Go.Proofs.YtbneokgeochinaaDoor.ruleWhole
