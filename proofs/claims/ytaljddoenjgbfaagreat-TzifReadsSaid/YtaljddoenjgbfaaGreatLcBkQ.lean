/-
  The program's block: read.
-/
import Derived.Test.YtaljddoenjgbfaaGreatLcMr
import Derived.Test.YtaljddoenjgbfaaGreatLcBkE
import Derived.Deep.RegionHeld
namespace Go.Proofs.YtaljddoenjgbfaaGreat
open Go.ChangeShapes Go.WideShapes Go.ChangeAt Go.RowKit Lc

set_option maxRecDepth 100000 in
theorem Sl.form {w : World} {v : Value} {n : Nat} {vs : List Value} (h : Sl w v n vs) : ∃ A c, v = .slice A n c := by
  obtain ⟨A, c, e, _⟩ := h
  exact ⟨A, c, e⟩
set_option maxRecDepth 100000 in
theorem gb_set {w V : World} {b : Nat} (h : w.grownBy V (some b)) (o : Nat) (u : Value) : w.grownBy (V.setCell ⟨b, o, none⟩ u) (some b) :=
  ⟨h.os, h.tape, h.output, by rw [World.size_setCell]; exact h.size, fun k hk hne => by
    rw [Below.heap_setCell _ _ _ _ (fun e => hne (by rw [e]))]; exact h.block k hk hne⟩
set_option maxRecDepth 100000 in
theorem gb_up {w0 w V : World} {b : Nat} (u : Up w0 w) (h : w.grownBy V (some b)) (hb : w0.heap.size ≤ b) : Up w0 V :=
  Below.grown u h u.size (fun j hj => by cases hj; exact hb)
set_option maxRecDepth 100000 in
theorem gb_sl {w V : World} {b : Nat} (h : w.grownBy V (some b)) {v : Value} {n : Nat} {vs : List Value} (hs : Sl w v n vs) (hf : ∀ k, v.ownBlock = some k → k ≠ b) : Sl V v n vs := by
  obtain ⟨A, c, rfl, h1, h2, hr⟩ := hs
  refine ⟨A, c, rfl, h1, h2, fun h0 => ?_⟩
  obtain ⟨b', o', rfl, hc⟩ := hr h0
  refine ⟨b', o', rfl, fun i v hi => ?_⟩
  rw [h.cell_far _ (cell_lt (hc i v hi)) (fun e => hf b' rfl (by injection e))]
  exact hc i v hi
set_option maxRecDepth 100000 in
theorem Fr.ne {w : World} {v : Value} (h : Fr w v) {b : Nat} (hb : b < w.heap.size) : ∀ k, v.ownBlock = some k → k ≠ b := fun k hk => by
  have := h k hk; omega
/-- The world behind five stores into one block. -/
abbrev five (w : World) (b : Nat) (v0 v1 v2 v3 v4 : Value) : World := ((((w.setCell ⟨b, 0, none⟩ v0).setCell ⟨b, 1, none⟩ v1).setCell ⟨b, 2, none⟩ v2).setCell ⟨b, 3, none⟩ v3).setCell ⟨b, 4, none⟩ v4
set_option maxRecDepth 100000 in
theorem gb_five {w V : World} {b : Nat} (h : w.grownBy V (some b)) (v0 v1 v2 v3 v4 : Value) : w.grownBy (five V b v0 v1 v2 v3 v4) (some b) :=
  gb_set (gb_set (gb_set (gb_set (gb_set h 0 v0) 1 v1) 2 v2) 3 v3) 4 v4
/-- Seven values in a box. -/
def Bx7 (w : World) (B : Nat) (a b c d e f g : Value) : Prop := w.cell? ⟨B, 0, none⟩ = some a ∧ w.cell? ⟨B, 1, none⟩ = some b ∧ w.cell? ⟨B, 2, none⟩ = some c ∧ w.cell? ⟨B, 3, none⟩ = some d ∧ w.cell? ⟨B, 4, none⟩ = some e ∧ w.cell? ⟨B, 5, none⟩ = some f ∧ w.cell? ⟨B, 6, none⟩ = some g
set_option maxRecDepth 100000 in
theorem Bx7.up {w w' : World} {B : Nat} {a b c d e f g : Value} (h : Bx7 w B a b c d e f g) (u : Up w w') : Bx7 w' B a b c d e f g :=
  ⟨u.cell h.1, u.cell h.2.1, u.cell h.2.2.1, u.cell h.2.2.2.1, u.cell h.2.2.2.2.1, u.cell h.2.2.2.2.2.1, u.cell h.2.2.2.2.2.2⟩
set_option maxRecDepth 100000 in
theorem Bx7.new (w : World) (a b c d e f g : Value) (t : TypeId) : Bx7 (w.alloc (.cells #[a, b, c, d, e, f, g] t)) w.heap.size a b c d e f g := by
  refine ⟨?_, ?_, ?_, ?_, ?_, ?_, ?_⟩ <;> simp
set_option maxRecDepth 100000 in
theorem gb_c {w V : World} {b : Nat} (h : w.grownBy V (some b)) {g o : Nat} {u : Value} (hc : w.cell? ⟨g, o, none⟩ = some u) (hn : g ≠ b) : V.cell? ⟨g, o, none⟩ = some u := by
  rw [h.cell_far _ (cell_lt hc) (fun e => hn (by injection e))]; exact hc
set_option maxRecDepth 100000 in
theorem Bx7.gb {w V : World} {x : Nat} (h : w.grownBy V (some x)) {B : Nat} {a b c d e f g : Value} (hb : Bx7 w B a b c d e f g) (hn : B ≠ x) : Bx7 V B a b c d e f g :=
  ⟨gb_c h hb.1 hn, gb_c h hb.2.1 hn, gb_c h hb.2.2.1 hn, gb_c h hb.2.2.2.1 hn, gb_c h hb.2.2.2.2.1 hn, gb_c h hb.2.2.2.2.2.1 hn, gb_c h hb.2.2.2.2.2.2 hn⟩
/-- A zero block. -/
abbrev bz : Value := .agg #[.slice none 0 0, .slice none 0 0, .slice none 0 0, .slice none 0 0, .slice none 0 0]
set_option maxRecDepth 100000 in
theorem Sl.nil (w : World) : Sl w (.slice none 0 0) 0 [] := ⟨none, 0, rfl, Nat.le_refl _, Nat.zero_le _, Rc.nil _ _⟩
set_option maxRecDepth 100000 in
theorem bz_read (w : World) : BkR w bz bk0 := ⟨_, _, _, _, _, rfl, Sl.nil w, Sl.nil w, Sl.nil w, Sl.nil w, Sl.nil w⟩

/-- What is read, of parts. -/
def rOk (ki na sd ut : List UInt8) (y s u : Nat) : Bool := kOk ki na y && mOk sd s && mOk ut u
def rBk (mo ju ki na le sd ut : List UInt8) (u s l t y z : Nat) : Blk := ⟨dK ki na y, dJ mo ju t z, dL le l z, dM sd s, dM ut u⟩

set_option maxRecDepth 100000 in
theorem Fr.base {w w1 : World} {v : Value} (h : Fr w1 v) (u : Up w w1) : Fr w v := fun k hk => Nat.le_trans u.size (h k hk)
/-- The block v lies in new memory. -/
def BkF (w : World) (v : Value) : Prop := ∃ a b c d e, v = .agg #[a, b, c, d, e] ∧ Fr w a ∧ Fr w b ∧ Fr w c ∧ Fr w d ∧ Fr w e
/-- A block was read, or none. -/
def RdP (w : World) (ok : Bool) (X : Blk) (e : Ending) (w' : World) : Prop := ∃ v, e = .returned (.tuple #[v, .bool ok]) ∧ BkR w' v (if ok then X else bk0) ∧ BkF w v ∧ Up w w'
set_option maxRecDepth 100000 in
theorem bz_new (w : World) : BkF w bz := ⟨_, _, _, _, _, rfl, Fr.nil _, Fr.nil _, Fr.nil _, Fr.nil _, Fr.nil _⟩
set_option maxRecDepth 100000 in
theorem RdP.no {w w' : World} {ok : Bool} {X : Blk} (h : ok = false) (u : Up w w') : RdP w ok X (.returned (.tuple #[bz, .bool false])) w' := by
  subst h; exact ⟨_, rfl, bz_read _, bz_new _, u⟩
set_option maxRecDepth 100000 in
theorem RdP.yes {w w' : World} {ok : Bool} {X : Blk} (h : ok = true) {v : Value} (b : BkR w' v X) (f : BkF w v) (u : Up w w') : RdP w ok X (.returned (.tuple #[v, .bool true])) w' := by
  subst h; exact ⟨_, rfl, b, f, u⟩
set_option maxRecDepth 100000 in
set_option maxHeartbeats 4000000 in
theorem read_any (v0 v1 v2 v3 v4 v5 v6 : Value) (mo ju ki na le sd ut : List UInt8) (ver : Int) (u s l t y c z : Nat) (hz : z = 4 ∨ z = 8) (w : World) (hu : u ≤ 256) (hs : s ≤ 256) (hl : l ≤ 5000) (ht : t ≤ 5000) (hy : y ≤ 256)
    (l0 : t * z ≤ mo.length) (l1 : t ≤ ju.length) (l2 : y * 6 ≤ ki.length) (l4 : l * (z + 4) ≤ le.length) (l5 : s ≤ sd.length) (l6 : u ≤ ut.length)
    (h0 : Sb w v0 mo) (h1 : Sb w v1 ju) (h2 : Sb w v2 ki) (h3 : Sb w v3 na) (h4 : Sb w v4 le) (h5 : Sb w v5 sd) (h6 : Sb w v6 ut) :
    Calls Tryz.prog 89 #[.agg #[v0, v1, v2, v3, v4, v5, v6], hv ver u s l t y c, .int .i64 z] w fun e w' => RdP w (rOk ki na sd ut y s u) (rBk mo ju ki na le sd ut u s l t y z) e w' := by
  obtain ⟨A0, c0, rfl, m0, n0, r0⟩ := h0
  obtain ⟨A1, c1, rfl, m1, n1, r1⟩ := h1
  obtain ⟨A2, c2, rfl, m2, n2, r2⟩ := h2
  obtain ⟨A3, c3, rfl, m3, n3, r3⟩ := h3
  obtain ⟨A4, c4, rfl, m4, n4, r4⟩ := h4
  obtain ⟨A5, c5, rfl, m5, n5, r5⟩ := h5
  obtain ⟨A6, c6, rfl, m6, n6, r6⟩ := h6
  have K1 := Lib.hid (fun w1 (q : Up w w1) => rdkinds_any A2 A3 ki na c2 c3 y w1 m2 n2 m3 n3 l2 (by omega) (r2.up q) (r3.up q))
  have K2 := Lib.hid (fun w1 (q : Up w w1) => rdmarks_any A5 sd c5 s w1 l5 (by omega) (r5.up q))
  have K3 := Lib.hid (fun w1 (q : Up w w1) => rdmarks_any A6 ut c6 u w1 l6 (by omega) (r6.up q))
  have K4 := Lib.hid (fun w1 (q : Up w w1) => rdjumps_any A0 A1 mo ju c0 c1 t z hz w1 m0 n0 l0 l1 (by omega) (r0.up q) (r1.up q))
  have K5 := Lib.hid (fun w1 (q : Up w w1) => rdleaps_any A4 le c4 l z hz w1 m4 n4 l4 (by omega) (r4.up q))
  have EO := Lib.hid (show rOk ki na sd ut y s u = (kOk ki na y && mOk sd s && mOk ut u) from rfl)
  have EB := Lib.hid (show rBk mo ju ki na le sd ut u s l t y z = ⟨dK ki na y, dJ mo ju t z, dL le l z, dM sd s, dM ut u⟩ from rfl)
  have N1 := Lib.hid (show (dK ki na y).length = y by simp [dK])
  have N2 := Lib.hid (show (dJ mo ju t z).length = t by simp [dJ])
  have N3 := Lib.hid (show (dL le l z).length = l by simp [dL])
  have N4 := Lib.hid (show (dM sd s).length = s by simp [dM])
  have N5 := Lib.hid (show (dM ut u).length = u by simp [dM])
  clear r0 r1 r2 r3 r4 r5 r6 l0 l1 l2 l4 l5 l6
  unfold maxLen at n0 n1 n2 n3 n4 n5 n6
  generalize rOk ki na sd ut y s u = ok at *
  generalize rBk mo ju ki na le sd ut u s l t y z = X at *
  generalize kOk ki na y = o1 at *
  generalize mOk sd s = o2 at *
  generalize mOk ut u = o3 at *
  generalize dK ki na y = D1 at *
  generalize dJ mo ju t z = D2 at *
  generalize dL le l z = D3 at *
  generalize dM sd s = D4 at *
  generalize dM ut u = D5 at *
  generalize mo.length = g0 at *
  generalize ju.length = g1 at *
  generalize ki.length = g2 at *
  generalize na.length = g3 at *
  generalize le.length = g4 at *
  generalize sd.length = g5 at *
  generalize ut.length = g6 at *
  have U0 := Lib.hid (((Up.alloc w (.cells #[.slice A0 g0 c0, .slice A1 g1 c1, .slice A2 g2 c2, .slice A3 g3 c3, .slice A4 g4 c4, .slice A5 g5 c5, .slice A6 g6 c6] 154)).alloc' (.cells #[.int .i64 ver, .int .i64 u, .int .i64 s, .int .i64 l, .int .i64 t, .int .i64 y, .int .i64 c] 90)).alloc' (.cells #[.slice none 0 0, .slice none 0 0, .slice none 0 0, .slice none 0 0, .slice none 0 0] 27))
  have P0 := Lib.hid ((Bx7.new w (.slice A0 g0 c0) (.slice A1 g1 c1) (.slice A2 g2 c2) (.slice A3 g3 c3) (.slice A4 g4 c4) (.slice A5 g5 c5) (.slice A6 g6 c6) 154).up ((Up.alloc _ (.cells #[.int .i64 ver, .int .i64 u, .int .i64 s, .int .i64 l, .int .i64 t, .int .i64 y, .int .i64 c] 90)).alloc' (.cells #[.slice none 0 0, .slice none 0 0, .slice none 0 0, .slice none 0 0, .slice none 0 0] 27)))
  have H0 := Lib.hid ((Bx7.new (w.alloc (.cells #[.slice A0 g0 c0, .slice A1 g1 c1, .slice A2 g2 c2, .slice A3 g3 c3, .slice A4 g4 c4, .slice A5 g5 c5, .slice A6 g6 c6] 154)) (.int .i64 ver) (.int .i64 u) (.int .i64 s) (.int .i64 l) (.int .i64 t) (.int .i64 y) (.int .i64 c) 90).up (Up.alloc _ (.cells #[.slice none 0 0, .slice none 0 0, .slice none 0 0, .slice none 0 0, .slice none 0 0] 27)))
  have B0 := Lib.hid (Bx5.new ((w.alloc (.cells #[.slice A0 g0 c0, .slice A1 g1 c1, .slice A2 g2 c2, .slice A3 g3 c3, .slice A4 g4 c4, .slice A5 g5 c5, .slice A6 g6 c6] 154)).alloc (.cells #[.int .i64 ver, .int .i64 u, .int .i64 s, .int .i64 l, .int .i64 t, .int .i64 y, .int .i64 c] 90)) (.slice none 0 0) (.slice none 0 0) (.slice none 0 0) (.slice none 0 0) (.slice none 0 0) 27)
  have F0 := Lib.hid (Free.new ((w.alloc (.cells #[.slice A0 g0 c0, .slice A1 g1 c1, .slice A2 g2 c2, .slice A3 g3 c3, .slice A4 g4 c4, .slice A5 g5 c5, .slice A6 g6 c6] 154)).alloc (.cells #[.int .i64 ver, .int .i64 u, .int .i64 s, .int .i64 l, .int .i64 t, .int .i64 y, .int .i64 c] 90)) #[.slice none 0 0, .slice none 0 0, .slice none 0 0, .slice none 0 0, .slice none 0 0] 27)
  simp only [World.size_alloc] at H0 B0 F0
  go_enter Tryz.func89, Tryz.ntmps89
  go_wp2_with fail
  refine (K1.out _ U0.out).mono ?_; rintro e w1 ⟨k1, rfl, s1, f1, u1⟩
  have U1 := Lib.hid (U0.out.trans u1)
  have P1 := Lib.hid (P0.out.up u1)
  have H1 := Lib.hid (H0.out.up u1)
  have B1 := Lib.hid (B0.out.up u1)
  have F1 := Lib.hid (F0.out.up u1)
  have S1 := Lib.hid s1
  have N1' := Lib.hid (f1.ne F0.out.1)
  have W1' := Lib.hid (f1.base U0.out)
  clear K1 s1 f1 u1 U0 P0 H0 B0 F0
  obtain ⟨a0, a1, a2, a3, a4, a5, a6⟩ := P1.out
  obtain ⟨b0, b1, b2, b3, b4, b5, b6⟩ := H1.out
  go_wp2_with fail
  clear a0 a1 a2 a3 a4 a5 a6 b0 b1 b2 b3 b4 b5 b6
  refine (K2.out _ U1.out).mono ?_; rintro e w2 ⟨k2, rfl, s2, f2, u2⟩
  have U2 := Lib.hid (U1.out.trans u2)
  have P2 := Lib.hid (P1.out.up u2)
  have H2 := Lib.hid (H1.out.up u2)
  have B2 := Lib.hid (B1.out.up u2)
  have F2 := Lib.hid (F1.out.up u2)
  have S12 := Lib.hid (fun h => (S1.out h).up u2)
  have S2 := Lib.hid s2
  have N2' := Lib.hid (f2.ne F1.out.1)
  have W2' := Lib.hid (f2.base U1.out)
  clear K2 s2 f2 u2 U1 P1 H1 B1 F1 S1
  obtain ⟨a0, a1, a2, a3, a4, a5, a6⟩ := P2.out
  obtain ⟨b0, b1, b2, b3, b4, b5, b6⟩ := H2.out
  go_wp2_with fail
  clear a0 a1 a2 a3 a4 a5 a6 b0 b1 b2 b3 b4 b5 b6
  refine (K3.out _ U2.out).mono ?_; rintro e w3 ⟨k3, rfl, s3, f3, u3⟩
  have U3 := Lib.hid (U2.out.trans u3)
  have P3 := Lib.hid (P2.out.up u3)
  have H3 := Lib.hid (H2.out.up u3)
  have B3 := Lib.hid (B2.out.up u3)
  have F3 := Lib.hid (F2.out.up u3)
  have S13 := Lib.hid (fun h => (S12.out h).up u3)
  have S23 := Lib.hid (fun h => (S2.out h).up u3)
  have S3 := Lib.hid s3
  have N3' := Lib.hid (f3.ne F2.out.1)
  have W3' := Lib.hid (f3.base U2.out)
  clear K3 s3 f3 u3 U2 P2 H2 B2 F2 S12 S2
  by_cases hall : o1 = true ∧ o2 = true ∧ o3 = true
  · obtain ⟨rfl, rfl, rfl⟩ := hall
    have OK : Hid (ok = true) := Lib.hid (by rw [EO.out]; rfl)
    have T1 := Lib.hid (S13.out rfl)
    have T2 := Lib.hid (S23.out rfl)
    have T3 := Lib.hid (S3.out rfl)
    obtain ⟨E1, d1, rfl⟩ := T1.out.form
    obtain ⟨E2, d2, rfl⟩ := T2.out.form
    obtain ⟨E3, d3, rfl⟩ := T3.out.form
    clear S13 S23 S3 EO
    have KS : Hid (∀ V, w3.grownBy V (some (w.heap.size + 1 + 1)) → (V.cell? ⟨w.heap.size, 0, none⟩ = some (.slice A0 g0 c0) ∧ V.cell? ⟨w.heap.size, 1, none⟩ = some (.slice A1 g1 c1) ∧ V.cell? ⟨w.heap.size, 4, none⟩ = some (.slice A4 g4 c4)) ∧ (V.cell? ⟨w.heap.size + 1, 3, none⟩ = some (.int .i64 l) ∧ V.cell? ⟨w.heap.size + 1, 4, none⟩ = some (.int .i64 t))) := Lib.hid (fun V hV =>
      ⟨⟨gb_c hV P3.out.1 (by omega), gb_c hV P3.out.2.1 (by omega), gb_c hV P3.out.2.2.2.2.1 (by omega)⟩, ⟨gb_c hV H3.out.2.2.2.1 (by omega), gb_c hV H3.out.2.2.2.2.1 (by omega)⟩⟩)
    have UU : Hid (Up w3 w3.drew) := Lib.hid (Up.drewN w3 1)
    go_wp2_with fail
    go_region_held (fun V => (V.cell? ⟨w.heap.size, 0, none⟩ = some (.slice A0 g0 c0) ∧ V.cell? ⟨w.heap.size, 1, none⟩ = some (.slice A1 g1 c1) ∧ V.cell? ⟨w.heap.size, 4, none⟩ = some (.slice A4 g4 c4)) ∧ (V.cell? ⟨w.heap.size + 1, 3, none⟩ = some (.int .i64 l) ∧ V.cell? ⟨w.heap.size + 1, 4, none⟩ = some (.int .i64 t)))
      (first | exact KS.out _ (UU.out.gb _) | exact KS.out _ (gb_five (UU.out.gb _) _ _ _ _ _))
      (first | (go_at_call 103; refine (K4.out _ (U3.out.trans UU.out)).mono ?_; rintro e w4 ⟨j4, rfl, s4, f4, u4⟩; obtain ⟨E4, d4, rfl⟩ := s4.form; have S4 := Lib.hid s4; have N4' := Lib.hid (f4.ne (Nat.lt_of_lt_of_le F3.out.1 UU.out.size)); have W4' := Lib.hid (f4.base (U3.out.trans UU.out)); replace UU := Lib.hid (UU.out.trans u4); clear s4 f4 u4) | (go_at_call 104; refine (K5.out _ (U3.out.trans UU.out)).mono ?_; rintro e w5 ⟨j5, rfl, s5, f5, u5⟩; obtain ⟨E5, d5, rfl⟩ := s5.form; have S5 := Lib.hid s5; have S45 := Lib.hid (S4.out.up u5); have N5' := Lib.hid (f5.ne (Nat.lt_of_lt_of_le F3.out.1 UU.out.size)); have W5' := Lib.hid (f5.base (U3.out.trans UU.out)); replace UU := Lib.hid (UU.out.trans u5); obtain ⟨a0, a1, a2, a3, a4⟩ := B3.out.up UU.out; obtain ⟨_, fz⟩ := F3.out.up UU.out; have x0 := fz 0; have x1 := fz 1; have x2 := fz 2; have x3 := fz 3; have x4 := fz 4; clear fz s5 f5 u5))
    have GV := Lib.hid (UU.out.gb (some (w.heap.size + 1 + 1)))
    have G5 := Lib.hid (gb_five (w := w5) (V := w5) (b := w.heap.size + 1 + 1) ((Up.refl w5).gb _) (.slice E1 y d1) (.slice E4 t d4) (.slice E5 l d5) (.slice E2 s d2) (.slice E3 u d3))
    have UF := Lib.hid (gb_up (U3.out.trans UU.out) G5.out (by omega))
    have BF : Hid (BkR (five w5 (w.heap.size + 1 + 1) (.slice E1 y d1) (.slice E4 t d4) (.slice E5 l d5) (.slice E2 s d2) (.slice E3 u d3)) (.agg #[.slice E1 y d1, .slice E4 t d4, .slice E5 l d5, .slice E2 s d2, .slice E3 u d3]) X) := Lib.hid (by
      rw [EB.out]
      refine ⟨_, _, _, _, _, rfl, ?_, ?_, ?_, ?_, ?_⟩
      · rw [N1.out]; exact gb_sl G5.out (T1.out.up UU.out) N1'.out
      · rw [N2.out]; exact gb_sl G5.out S45.out N4'.out
      · rw [N3.out]; exact gb_sl G5.out S5.out N5'.out
      · rw [N4.out]; exact gb_sl G5.out (T2.out.up UU.out) N2'.out
      · rw [N5.out]; exact gb_sl G5.out (T3.out.up UU.out) N3'.out)
    clear GV G5
    go_wp2_with fail
    exact bodyPost_ret (v := .tuple #[.agg #[.slice E1 y d1, .slice E4 t d4, .slice E5 l d5, .slice E2 s d2, .slice E3 u d3], .bool true]) (by simp [results, Tryz.results89, go_sem, a0, a1, a2, a3, a4]) rfl (RdP.yes OK.out BF.out ⟨_, _, _, _, _, rfl, W1'.out, W4'.out, W5'.out, W2'.out, W3'.out⟩ UF.out)
  · have OK : Hid (ok = false) := Lib.hid (by
      rw [EO.out]; revert hall; cases o1 <;> cases o2 <;> cases o3 <;> simp)
    clear S13 S23 S3 K4 K5
    obtain ⟨a0, a1, a2, a3, a4⟩ := B3.out
    obtain ⟨_, fz⟩ := F3.out
    have x0 := fz 0; have x1 := fz 1; have x2 := fz 2; have x3 := fz 3; have x4 := fz 4
    clear fz
    have UF := Lib.hid (gb_up (b := w.heap.size + 1 + 1) U3.out (gb_five (w := w3) (V := w3) (b := w.heap.size + 1 + 1) ((Up.refl w3).gb _) (.slice none 0 0) (.slice none 0 0) (.slice none 0 0) (.slice none 0 0) (.slice none 0 0)) (by omega))
    cases o1
    · go_wp2_with fail
      refine bodyPost_ret (v := .tuple #[bz, .bool false]) (by simp [results, Tryz.results89, go_sem, a0, a1, a2, a3, a4]) rfl (RdP.no OK.out UF.out)
    · cases o2
      · go_wp2_with fail
        refine bodyPost_ret (v := .tuple #[bz, .bool false]) (by simp [results, Tryz.results89, go_sem, a0, a1, a2, a3, a4]) rfl (RdP.no OK.out UF.out)
      · cases o3
        · go_wp2_with fail
          refine bodyPost_ret (v := .tuple #[bz, .bool false]) (by simp [results, Tryz.results89, go_sem, a0, a1, a2, a3, a4]) rfl (RdP.no OK.out UF.out)
        · exact absurd ⟨rfl, rfl, rfl⟩ hall
end Go.Proofs.YtaljddoenjgbfaaGreat
