/-
  few: a block, cut, in new memory.
-/
import Derived.Test.YtoijaananjlfpaaLcFewB
import Derived.StillTailTactics
import Derived.Laws.OwnMore
namespace Go.Proofs.Ytoijaananjlfpaa
open Go.ChangeShapes Go.WideShapes Go.ChangeAt Go.RowKit Lc

/-- A name, cut. -/
def cut60 (s : ByteArray) : ByteArray := s.extract 0 (min (s.size : Int) 60).toNat
def cutK (k : Knd) : Knd := ⟨k.off, k.dst, cut60 k.name⟩
/-- The first k names cut. -/
def mixK (ks : List Knd) (k : Nat) : List Knd := (ks.take k).map cutK ++ ks.drop k
/-- The block, cut. -/
def cutB (x : Blk) : Blk := ⟨(x.ks.take 40).map cutK, x.js.take 100, x.ls.take 50, x.sd.take 40, x.ut.take 40⟩
def cutI (x : Blk) (k : Nat) : Blk := ⟨mixK (cut5 x).ks k, x.js.take 100, x.ls.take 50, x.sd.take 40, x.ut.take 40⟩
theorem mixK_len (ks : List Knd) (k : Nat) : (mixK ks k).length = ks.length := by
  unfold mixK; simp; omega
theorem mixK_zero (ks : List Knd) : mixK ks 0 = ks := by simp [mixK]
theorem mixK_end (ks : List Knd) : mixK ks ks.length = ks.map cutK := by simp [mixK]
theorem mixK_get {ks : List Knd} {k : Nat} (h : k < ks.length) : (mixK ks k).getD k k0 = ks.getD k k0 := by
  unfold mixK
  have e : ((ks.take k).map cutK).length = k := by simp; omega
  rw [List.getD_eq_getElem?_getD, List.getElem?_append_right (by omega), e, Nat.sub_self, List.getElem?_drop]
  simp [List.getD]
theorem mixK_set {ks : List Knd} {k : Nat} (h : k < ks.length) : (mixK ks k).set k (cutK (ks.getD k k0)) = mixK ks (k + 1) := by
  unfold mixK
  have e : ((ks.take k).map cutK).length = k := by simp; omega
  rw [List.set_append_right _ _ (by omega), e, Nat.sub_self, List.take_succ_eq_append_getElem h, List.map_append, List.append_assoc]
  congr 1
  have e2 : ks.getD k k0 = ks[k] := by simp [List.getD, h]
  rw [e2, List.drop_eq_getElem_cons h]
  rfl
theorem kc_set1 {ks : List Knd} {k : Nat} (h : k < ks.length) (s : ByteArray) : (kc ks).set (k * 3 + 2) (.string s) = kc (ks.set k ⟨(ks.getD k k0).off, (ks.getD k k0).dst, s⟩) := by
  induction ks generalizing k with
  | nil => simp at h
  | cons y ks ih =>
    have e : kc (y :: ks) = .int .i64 y.off :: .bool y.dst :: .string y.name :: kc ks := rfl
    cases k with
    | zero => rw [e]; rfl
    | succ k =>
      rw [e, show (k + 1) * 3 + 2 = k * 3 + 2 + 1 + 1 + 1 by omega]
      simp only [List.set_cons_succ, List.getD_cons_succ]
      show _ = Value.int .i64 y.off :: .bool y.dst :: .string y.name :: kc (ks.set k _)
      rw [← ih (k := k) (by simpa using h)]
theorem row_else {w : World} {base : Nat} {e : TypeId} {size : Nat} {v : Value} {n : Nat} {xs : List Value} (h : w.ownsRow base e size v n xs) {b : Nat} (hn : v.ownBlock ≠ some b) (o : Nat) (u : Value) : (w.setCell ⟨b, o, none⟩ u).ownsRow base e size v n xs := by
  refine ⟨h.1, ?_⟩
  rcases h.2 with h2 | ⟨g, cap, cur, rfl, hb, hh, rest⟩
  · exact .inl h2
  · exact .inr ⟨g, cap, cur, rfl, hb, by rw [Below.heap_setCell _ _ _ _ (fun e => hn (by have e' : g = b := e; rw [e']; rfl))]; exact hh, rest⟩
theorem row_ty {w : World} {base : Nat} {e t : TypeId} {size : Nat} {v : Value} {n : Nat} {xs : List Value} (h : w.ownsRow base e size v n xs) {b : Nat} {cs : Array Value} {fr : Nat × Nat} (hb : w.heap[b]? = some (.cells cs t fr)) (ht : t ≠ e) : v.ownBlock ≠ some b := by
  rcases h.2 with ⟨rfl, _⟩ | ⟨g, cap, cur, rfl, _, hh, _⟩
  · exact fun h => by cases h
  · intro h
    have : g = b := by injection h
    subst this
    rw [hh] at hb
    injection hb with hb
    injection hb with _ hb
    exact ht hb.symm
theorem row_five {w : World} {base : Nat} {e : TypeId} {size : Nat} {v : Value} {n : Nat} {xs : List Value} (h : w.ownsRow base e size v n xs) {b : Nat} (hn : v.ownBlock ≠ some b) (v0 v1 v2 v3 v4 : Value) : (five w b v0 v1 v2 v3 v4).ownsRow base e size v n xs :=
  row_else (row_else (row_else (row_else (row_else h hn 0 v0) hn 1 v1) hn 2 v2) hn 3 v3) hn 4 v4
theorem OwB.five {w : World} {base : Nat} {v : Value} {x : Blk} (h : OwB w base v x) {b : Nat} {cs : Array Value} {fr : Nat × Nat} (hb : w.heap[b]? = some (.cells cs 27 fr)) (v0 v1 v2 v3 v4 : Value) : OwB (five w b v0 v1 v2 v3 v4) base v x := by
  obtain ⟨a, b', c, d, e, rfl, h1, h2, h3, h4, h5⟩ := h
  exact ⟨_, _, _, _, _, rfl, row_five h1 (row_ty h1 hb (by decide)) _ _ _ _ _, row_five h2 (row_ty h2 hb (by decide)) _ _ _ _ _, row_five h3 (row_ty h3 hb (by decide)) _ _ _ _ _, row_five h4 (row_ty h4 hb (by decide)) _ _ _ _ _, row_five h5 (row_ty h5 hb (by decide)) _ _ _ _ _⟩
/-- One name stored. -/
theorem OwB.name {w : World} {base g n d : Nat} {b c e f : Value} {x : Blk} (h : OwB w base (.agg #[.slice (some ⟨g, 0, none⟩) n d, b, c, e, f]) x) {k : Nat} (hk : k < x.ks.length) (s : ByteArray) :
    OwB (w.setCell ⟨g, k * 3 + 2, none⟩ (.string s)) base (.agg #[.slice (some ⟨g, 0, none⟩) n d, b, c, e, f]) ⟨x.ks.set k ⟨(x.ks.getD k k0).off, (x.ks.getD k k0).dst, s⟩, x.js, x.ls, x.sd, x.ut⟩ := by
  obtain ⟨_, _, _, _, _, he, h1, h2, h3, h4, h5⟩ := h
  simp only [Value.agg.injEq, Array.mk.injEq, List.cons.injEq, and_true] at he
  obtain ⟨rfl, rfl, rfl, rfl, rfl⟩ := he
  have hh : ∃ cur : Array Value, w.heap[g]? = some (.cells cur 56 (0, 0)) := by
    rcases h1.2 with ⟨hv, _⟩ | ⟨g', cap, cur, hv, _, hg, _⟩
    · cases hv
    · have : g = g' := by injection hv with hv; injection hv with hv; injection hv
      subst this; exact ⟨cur, hg⟩
  obtain ⟨cur, hh⟩ := hh
  have hn : n = x.ks.length := by
    rcases h1.2 with ⟨hv, _⟩ | ⟨g', cap, cur, hv, _⟩
    · cases hv
    · injection hv
  subst hn
  have k1 := (World.ownsRow.stored h1 (k * 3 + 2) (.string s)).1
  rw [kc_set1 hk] at k1
  refine ⟨_, _, _, _, _, rfl, ?_, row_else h2 (row_ty h2 hh (by decide)) _ _, row_else h3 (row_ty h3 hh (by decide)) _ _, row_else h4 (row_ty h4 hh (by decide)) _ _, row_else h5 (row_ty h5 hh (by decide)) _ _⟩
  simp only [List.length_set]
  exact k1
theorem bx_heap {w : World} {b : Nat} {a c d e f : Value} {t : TypeId} (h : w.heap[b]? = some (.cells #[a, c, d, e, f] t (0, 0))) : Bx5 w b a c d e f ∧ Free w b := by
  have lt : b < w.heap.size := by
    rcases Nat.lt_or_ge b w.heap.size with g | g
    · exact g
    · rw [Array.getElem?_eq_none g] at h; cases h
  refine ⟨?_, lt, fun j => frozen_of_row w b j _ t h⟩
  unfold Bx5
  simp [World.cell?, h]
theorem five_heap {w : World} {b : Nat} {a c d e f : Value} {t : TypeId} (h : w.heap[b]? = some (.cells #[a, c, d, e, f] t (0, 0))) (v0 v1 v2 v3 v4 : Value) : (five w b v0 v1 v2 v3 v4).heap[b]? = some (.cells #[v0, v1, v2, v3, v4] t (0, 0)) := by
  have h0 := heap_setCell_same w b 0 _ t v0 h
  have h1 := heap_setCell_same _ b 1 _ t v1 h0
  have h2 := heap_setCell_same _ b 2 _ t v2 h1
  have h3 := heap_setCell_same _ b 3 _ t v3 h2
  have h4 := heap_setCell_same _ b 4 _ t v4 h3
  exact h4
theorem OwB.len {w : World} {base q0 d0 : Nat} {P0 : Option Addr} {b c d e : Value} {x : Blk} (h : OwB w base (.agg #[.slice P0 q0 d0, b, c, d, e]) x) : q0 = x.ks.length := by
  obtain ⟨_, _, _, _, _, he, h1, _⟩ := h
  simp only [Value.agg.injEq, Array.mk.injEq, List.cons.injEq, and_true] at he
  obtain ⟨rfl, _⟩ := he
  obtain ⟨A, c, hv⟩ := row_form h1
  injection hv
theorem OwB.knd {w : World} {base q0 d0 : Nat} {P0 : Option Addr} {b c d e : Value} {x : Blk} (h : OwB w base (.agg #[.slice P0 q0 d0, b, c, d, e]) x) {k : Nat} (hk : k < x.ks.length) : ∃ g, P0 = some ⟨g, 0, none⟩ ∧ base ≤ g ∧ w.cell? ⟨g, k * 3 + 2, none⟩ = some (.string (x.ks.getD k k0).name) ∧ w.frozen? ⟨g, k * 3 + 2, none⟩ = false ∧ ∃ cs, w.heap[g]? = some (.cells cs 56 (0, 0)) := by
  obtain ⟨_, _, _, _, _, he, h1, _⟩ := h
  simp only [Value.agg.injEq, Array.mk.injEq, List.cons.injEq, and_true] at he
  obtain ⟨rfl, _⟩ := he
  rcases h1.2 with ⟨_, h0⟩ | ⟨g, cap, cur, hv, hb, hh, _⟩
  · omega
  · injection hv with hv _ _
    subst hv
    refine ⟨g, rfl, hb, ?_, frozen_of_row w g _ cur _ hh, cur, hh⟩
    obtain ⟨A, c', hs, _, _, hr⟩ := row_sl h1
    injection hs with hs _ _
    subst hs
    obtain ⟨g', o', e', _, _, hc⟩ := hr.knd hk
    injection e' with e'
    injection e' with e1 e2
    subst e1 e2
    rw [Nat.zero_add] at hc
    exact hc
theorem OwB.base {w : World} {base base' : Nat} {v : Value} {x : Blk} (h : OwB w base v x) (hb : base' ≤ base) : OwB w base' v x := by
  have mono : ∀ {e : TypeId} {size : Nat} {v : Value} {n : Nat} {xs : List Value}, w.ownsRow base e size v n xs → w.ownsRow base' e size v n xs := fun h => by
    refine ⟨h.1, ?_⟩
    rcases h.2 with h | ⟨g, cap, cur, h1, h2, h3⟩
    · exact .inl h
    · exact .inr ⟨g, cap, cur, h1, by omega, h3⟩
  obtain ⟨a, b, c, d, e, hv, h1, h2, h3, h4, h5⟩ := h
  exact ⟨a, b, c, d, e, hv, mono h1, mono h2, mono h3, mono h4, mono h5⟩
theorem heap_up {w w' : World} (u : Up w w') {b : Nat} {o : Obj} (h : w.heap[b]? = some o) : w'.heap[b]? = some o := by
  have lt : b < w.heap.size := by
    rcases Nat.lt_or_ge b w.heap.size with g | g
    · exact g
    · rw [Array.getElem?_eq_none g] at h; cases h
  rw [u.block b lt]; exact h
theorem cutI_zero (x : Blk) : cutI x 0 = cut5 x := by unfold cutI; rw [mixK_zero]; rfl
theorem cutI_end (x : Blk) : cutI x (cut5 x).ks.length = cutB x := by unfold cutI; rw [mixK_end]; rfl
theorem wp_sto (w : World) (a : Act) (o : Oper) (b : Nat) (P0 P1 P2 P3 P4 : Option Addr) (n0 n1 n2 n3 n4 d0 d1 d2 d3 d4 : Nat) (h3 : a.tmps.getD 3 undef = .pointer (some ⟨b, 0, none⟩)) (h50 : a.tmps.getD 50 undef = .agg #[.slice P0 n0 d0, .slice P1 n1 d1, .slice P2 n2 d2, .slice P3 n3 d3, .slice P4 n4 d4])
    {x0 x1 x2 x3 x4 : Value} (hx : Bx5 w b x0 x1 x2 x3 x4) (hf : Free w b) (hd : o.dst = none) (ho : o.op = .store 27 (.tmp 3) (.tmp 50)) {K : Act → World → Prop} {Q : Exit → Act → World → Prop}
    (k : K a (five w b (.slice P0 n0 d0) (.slice P1 n1 d1) (.slice P2 n2 d2) (.slice P3 n3 d3) (.slice P4 n4 d4))) : o.wp Try.prog a w K Q := by
  obtain ⟨e0, e1, e2, e3, e4⟩ := hx
  have f0 := hf.2 0; have f1 := hf.2 1; have f2 := hf.2 2; have f3 := hf.2 3; have f4 := hf.2 4
  unfold Oper.wp execOp
  rw [ho]
  simp [go_sem, tg h3, tg h50, e0, e1, e2, e3, e4, f0, f1, f2, f3, f4, Oper.upon, Act.put, hd]
  exact k

theorem arr79 {t : Array Value} (h : t.size = 79) : ∃ x0 x1 x2 x3 x4 x5 x6 x7 x8 x9 x10 x11 x12 x13 x14 x15 x16 x17 x18 x19 x20 x21 x22 x23 x24 x25 x26 x27 x28 x29 x30 x31 x32 x33 x34 x35 x36 x37 x38 x39 x40 x41 x42 x43 x44 x45 x46 x47 x48 x49 x50 x51 x52 x53 x54 x55 x56 x57 x58 x59 x60 x61 x62 x63 x64 x65 x66 x67 x68 x69 x70 x71 x72 x73 x74 x75 x76 x77 x78 : Value, t = #[x0, x1, x2, x3, x4, x5, x6, x7, x8, x9, x10, x11, x12, x13, x14, x15, x16, x17, x18, x19, x20, x21, x22, x23, x24, x25, x26, x27, x28, x29, x30, x31, x32, x33, x34, x35, x36, x37, x38, x39, x40, x41, x42, x43, x44, x45, x46, x47, x48, x49, x50, x51, x52, x53, x54, x55, x56, x57, x58, x59, x60, x61, x62, x63, x64, x65, x66, x67, x68, x69, x70, x71, x72, x73, x74, x75, x76, x77, x78] := by
  obtain ⟨l⟩ := t
  match l, h with
  | x0 :: x1 :: x2 :: x3 :: x4 :: x5 :: x6 :: x7 :: x8 :: x9 :: x10 :: x11 :: x12 :: x13 :: x14 :: x15 :: x16 :: x17 :: x18 :: x19 :: x20 :: x21 :: x22 :: x23 :: x24 :: x25 :: x26 :: x27 :: x28 :: x29 :: x30 :: x31 :: x32 :: x33 :: x34 :: x35 :: x36 :: x37 :: x38 :: x39 :: x40 :: x41 :: x42 :: x43 :: x44 :: x45 :: x46 :: x47 :: x48 :: x49 :: x50 :: x51 :: x52 :: x53 :: x54 :: x55 :: x56 :: x57 :: x58 :: x59 :: x60 :: x61 :: x62 :: x63 :: x64 :: x65 :: x66 :: x67 :: x68 :: x69 :: x70 :: x71 :: x72 :: x73 :: x74 :: x75 :: x76 :: x77 :: x78 :: [], _ => exact ⟨x0, x1, x2, x3, x4, x5, x6, x7, x8, x9, x10, x11, x12, x13, x14, x15, x16, x17, x18, x19, x20, x21, x22, x23, x24, x25, x26, x27, x28, x29, x30, x31, x32, x33, x34, x35, x36, x37, x38, x39, x40, x41, x42, x43, x44, x45, x46, x47, x48, x49, x50, x51, x52, x53, x54, x55, x56, x57, x58, x59, x60, x61, x62, x63, x64, x65, x66, x67, x68, x69, x70, x71, x72, x73, x74, x75, x76, x77, x78, rfl⟩

set_option maxRecDepth 100000 in
set_option maxHeartbeats 4000000 in
theorem few_any (v : Value) (x : Blk) (w : World) (hb : BkR w v x) :
    Calls Try.prog 12 #[v] w fun e w' => ∃ v', e = .returned v' ∧ OwB w' w.heap.size v' (cutB x) ∧ Up w w' := by
  obtain ⟨_, _, _, _, _, rfl, ⟨A0, c0, rfl, m0, n0, r0⟩, ⟨A1, c1, rfl, m1, n1, r1⟩, ⟨A2, c2, rfl, m2, n2, r2⟩, ⟨A3, c3, rfl, m3, n3, r3⟩, ⟨A4, c4, rfl, m4, n4, r4⟩⟩ := hb
  obtain ⟨W, hW⟩ : ∃ W, (w.alloc (.cells #[.slice A0 x.ks.length c0, .slice A1 x.js.length c1, .slice A2 x.ls.length c2, .slice A3 x.sd.length c3, .slice A4 x.ut.length c4] 27)).alloc (.cells #[.slice none 0 0, .slice none 0 0, .slice none 0 0, .slice none 0 0, .slice none 0 0] 27) = W := ⟨_, rfl⟩
  have UW : Hid (Up w W) := by rw [← hW]; exact (Up.alloc w _).alloc' _
  have SZ : Hid (W.heap.size = w.heap.size + 2) := by unfold Hid; rw [← hW]; simp
  have bx : Hid (Bx5 W w.heap.size (.slice A0 x.ks.length c0) (.slice A1 x.js.length c1) (.slice A2 x.ls.length c2) (.slice A3 x.sd.length c3) (.slice A4 x.ut.length c4)) := by
    rw [← hW]; exact (Bx5.new w _ _ _ _ _ _).up (Up.alloc _ _)
  have rx : Hid (W.heap[w.heap.size + 1]? = some (.cells #[.slice none 0 0, .slice none 0 0, .slice none 0 0, .slice none 0 0, .slice none 0 0] 27 (0, 0))) := by
    unfold Hid
    have := heap_alloc_new (w.alloc (.cells #[.slice A0 x.ks.length c0, .slice A1 x.js.length c1, .slice A2 x.ls.length c2, .slice A3 x.sd.length c3, .slice A4 x.ut.length c4] 27)) (.cells #[.slice none 0 0, .slice none 0 0, .slice none 0 0, .slice none 0 0, .slice none 0 0] 27)
    rw [World.size_alloc, hW] at this
    exact this
  have R0 := Lib.hid (r0.up UW.out)
  have R1 := Lib.hid (r1.up UW.out)
  have R2 := Lib.hid (r2.up UW.out)
  have R3 := Lib.hid (r3.up UW.out)
  have R4 := Lib.hid (r4.up UW.out)
  clear r0 r1 r2 r3 r4
  go_enter Try.func12, Try.ntmps12
  go_wp2_with fail
  clear hW
  refine wp_region_mid (n := 47) (G := fG W.heap.size w.heap.size A0 A1 A2 A3 A4 c0 c1 c2 c3 c4 x) (by kernel_rfl) (by kernel_rfl) (by kernel_rfl) (by kernel_rfl) (by kernel_rfl) fG_up ?step ?last
  case step =>
    intro i o hi ho a w' u old pre
    have p1 : a.tmps.getD 1 undef = .pointer (some ⟨w.heap.size, 0, none⟩) := getD_some ((old 1 (by kernel_rfl)).trans rfl)
    clear old
    have hi' : i = 0 ∨ i = 1 ∨ i = 2 ∨ i = 3 ∨ i = 4 ∨ i = 5 ∨ i = 6 ∨ i = 7 ∨ i = 8 ∨ i = 9 ∨ i = 10 ∨ i = 11 ∨ i = 12 ∨ i = 13 ∨ i = 14 ∨ i = 15 ∨ i = 16 ∨ i = 17 ∨ i = 18 ∨ i = 19 ∨ i = 20 ∨ i = 21 ∨ i = 22 ∨ i = 23 ∨ i = 24 ∨ i = 25 ∨ i = 26 ∨ i = 27 ∨ i = 28 ∨ i = 29 ∨ i = 30 ∨ i = 31 ∨ i = 32 ∨ i = 33 ∨ i = 34 ∨ i = 35 ∨ i = 36 ∨ i = 37 ∨ i = 38 ∨ i = 39 ∨ i = 40 ∨ i = 41 ∨ i = 42 ∨ i = 43 ∨ i = 44 ∨ i = 45 ∨ i = 46 := by omega
    rcases hi' with rfl | rfl | rfl | rfl | rfl | rfl | rfl | rfl | rfl | rfl | rfl | rfl | rfl | rfl | rfl | rfl | rfl | rfl | rfl | rfl | rfl | rfl | rfl | rfl | rfl | rfl | rfl | rfl | rfl | rfl | rfl | rfl | rfl | rfl | rfl | rfl | rfl | rfl | rfl | rfl | rfl | rfl | rfl | rfl | rfl | rfl | rfl
    · injection ho with ho; subst ho
      exact st0_0 W w.heap.size A0 A1 A2 A3 A4 c0 c1 c2 c3 c4 x w' a _ u  rfl rfl
    · injection ho with ho; subst ho
      exact st0_1 W w.heap.size A0 A1 A2 A3 A4 c0 c1 c2 c3 c4 x w' a _ u p1 rfl rfl
    · injection ho with ho; subst ho
      exact st0_2 W w.heap.size A0 A1 A2 A3 A4 c0 c1 c2 c3 c4 x w' a _ u bx.out.1 (pre ⟨1, .data⟩ (by simp) rfl _ 6 rfl rfl) rfl rfl
    · injection ho with ho; subst ho
      exact st0_3 W w.heap.size A0 A1 A2 A3 A4 c0 c1 c2 c3 c4 x w' a _ u p1 rfl rfl
    · injection ho with ho; subst ho
      exact st0_4 W w.heap.size A0 A1 A2 A3 A4 c0 c1 c2 c3 c4 x w' a _ u bx.out.1 (pre ⟨3, .data⟩ (by simp) rfl _ 8 rfl rfl) rfl rfl
    · injection ho with ho; subst ho
      exact st0_5 W w.heap.size A0 A1 A2 A3 A4 c0 c1 c2 c3 c4 x w' a _ u (pre ⟨4, .data⟩ (by simp) rfl _ 9 rfl rfl) rfl rfl
    · injection ho with ho; subst ho
      exact st0_6 W w.heap.size A0 A1 A2 A3 A4 c0 c1 c2 c3 c4 x w' a _ u (pre ⟨5, .data⟩ (by simp) rfl _ 10 rfl rfl) rfl rfl rfl
    · injection ho with ho; subst ho
      exact st0_7 W w.heap.size A0 A1 A2 A3 A4 c0 c1 c2 c3 c4 x w' a _ u m0 (pre ⟨2, .data⟩ (by simp) rfl _ 7 rfl rfl) (pre ⟨6, .data⟩ (by simp) rfl _ 11 rfl rfl) rfl rfl
    · injection ho with ho; subst ho
      exact st0_8 W w.heap.size A0 A1 A2 A3 A4 c0 c1 c2 c3 c4 x w' a _ u R0.out (pre ⟨0, .data⟩ (by simp) rfl _ 5 rfl rfl) (pre ⟨7, .data⟩ (by simp) rfl _ 12 rfl rfl) rfl rfl
    · injection ho with ho; subst ho
      exact st1_0 W w.heap.size A0 A1 A2 A3 A4 c0 c1 c2 c3 c4 x w' a _ u  rfl rfl
    · injection ho with ho; subst ho
      exact st1_1 W w.heap.size A0 A1 A2 A3 A4 c0 c1 c2 c3 c4 x w' a _ u p1 rfl rfl
    · injection ho with ho; subst ho
      exact st1_2 W w.heap.size A0 A1 A2 A3 A4 c0 c1 c2 c3 c4 x w' a _ u bx.out.2.1 (pre ⟨10, .data⟩ (by simp) rfl _ 15 rfl rfl) rfl rfl
    · injection ho with ho; subst ho
      exact st1_3 W w.heap.size A0 A1 A2 A3 A4 c0 c1 c2 c3 c4 x w' a _ u p1 rfl rfl
    · injection ho with ho; subst ho
      exact st1_4 W w.heap.size A0 A1 A2 A3 A4 c0 c1 c2 c3 c4 x w' a _ u bx.out.2.1 (pre ⟨12, .data⟩ (by simp) rfl _ 17 rfl rfl) rfl rfl
    · injection ho with ho; subst ho
      exact st1_5 W w.heap.size A0 A1 A2 A3 A4 c0 c1 c2 c3 c4 x w' a _ u (pre ⟨13, .data⟩ (by simp) rfl _ 18 rfl rfl) rfl rfl
    · injection ho with ho; subst ho
      exact st1_6 W w.heap.size A0 A1 A2 A3 A4 c0 c1 c2 c3 c4 x w' a _ u (pre ⟨14, .data⟩ (by simp) rfl _ 19 rfl rfl) rfl rfl rfl
    · injection ho with ho; subst ho
      exact st1_7 W w.heap.size A0 A1 A2 A3 A4 c0 c1 c2 c3 c4 x w' a _ u m1 (pre ⟨11, .data⟩ (by simp) rfl _ 16 rfl rfl) (pre ⟨15, .data⟩ (by simp) rfl _ 20 rfl rfl) rfl rfl
    · injection ho with ho; subst ho
      exact st1_8 W w.heap.size A0 A1 A2 A3 A4 c0 c1 c2 c3 c4 x w' a _ u R1.out (pre ⟨9, .data⟩ (by simp) rfl _ 14 rfl rfl) (pre ⟨16, .data⟩ (by simp) rfl _ 21 rfl rfl) rfl rfl
    · injection ho with ho; subst ho
      exact st2_0 W w.heap.size A0 A1 A2 A3 A4 c0 c1 c2 c3 c4 x w' a _ u  rfl rfl
    · injection ho with ho; subst ho
      exact st2_1 W w.heap.size A0 A1 A2 A3 A4 c0 c1 c2 c3 c4 x w' a _ u p1 rfl rfl
    · injection ho with ho; subst ho
      exact st2_2 W w.heap.size A0 A1 A2 A3 A4 c0 c1 c2 c3 c4 x w' a _ u bx.out.2.2.1 (pre ⟨19, .data⟩ (by simp) rfl _ 24 rfl rfl) rfl rfl
    · injection ho with ho; subst ho
      exact st2_3 W w.heap.size A0 A1 A2 A3 A4 c0 c1 c2 c3 c4 x w' a _ u p1 rfl rfl
    · injection ho with ho; subst ho
      exact st2_4 W w.heap.size A0 A1 A2 A3 A4 c0 c1 c2 c3 c4 x w' a _ u bx.out.2.2.1 (pre ⟨21, .data⟩ (by simp) rfl _ 26 rfl rfl) rfl rfl
    · injection ho with ho; subst ho
      exact st2_5 W w.heap.size A0 A1 A2 A3 A4 c0 c1 c2 c3 c4 x w' a _ u (pre ⟨22, .data⟩ (by simp) rfl _ 27 rfl rfl) rfl rfl
    · injection ho with ho; subst ho
      exact st2_6 W w.heap.size A0 A1 A2 A3 A4 c0 c1 c2 c3 c4 x w' a _ u (pre ⟨23, .data⟩ (by simp) rfl _ 28 rfl rfl) rfl rfl rfl
    · injection ho with ho; subst ho
      exact st2_7 W w.heap.size A0 A1 A2 A3 A4 c0 c1 c2 c3 c4 x w' a _ u m2 (pre ⟨20, .data⟩ (by simp) rfl _ 25 rfl rfl) (pre ⟨24, .data⟩ (by simp) rfl _ 29 rfl rfl) rfl rfl
    · injection ho with ho; subst ho
      exact st2_8 W w.heap.size A0 A1 A2 A3 A4 c0 c1 c2 c3 c4 x w' a _ u R2.out (pre ⟨18, .data⟩ (by simp) rfl _ 23 rfl rfl) (pre ⟨25, .data⟩ (by simp) rfl _ 30 rfl rfl) rfl rfl
    · injection ho with ho; subst ho
      exact st3_0 W w.heap.size A0 A1 A2 A3 A4 c0 c1 c2 c3 c4 x w' a _ u  rfl rfl
    · injection ho with ho; subst ho
      exact st3_1 W w.heap.size A0 A1 A2 A3 A4 c0 c1 c2 c3 c4 x w' a _ u p1 rfl rfl
    · injection ho with ho; subst ho
      exact st3_2 W w.heap.size A0 A1 A2 A3 A4 c0 c1 c2 c3 c4 x w' a _ u bx.out.2.2.2.1 (pre ⟨28, .data⟩ (by simp) rfl _ 33 rfl rfl) rfl rfl
    · injection ho with ho; subst ho
      exact st3_3 W w.heap.size A0 A1 A2 A3 A4 c0 c1 c2 c3 c4 x w' a _ u p1 rfl rfl
    · injection ho with ho; subst ho
      exact st3_4 W w.heap.size A0 A1 A2 A3 A4 c0 c1 c2 c3 c4 x w' a _ u bx.out.2.2.2.1 (pre ⟨30, .data⟩ (by simp) rfl _ 35 rfl rfl) rfl rfl
    · injection ho with ho; subst ho
      exact st3_5 W w.heap.size A0 A1 A2 A3 A4 c0 c1 c2 c3 c4 x w' a _ u (pre ⟨31, .data⟩ (by simp) rfl _ 36 rfl rfl) rfl rfl
    · injection ho with ho; subst ho
      exact st3_6 W w.heap.size A0 A1 A2 A3 A4 c0 c1 c2 c3 c4 x w' a _ u (pre ⟨32, .data⟩ (by simp) rfl _ 37 rfl rfl) rfl rfl rfl
    · injection ho with ho; subst ho
      exact st3_7 W w.heap.size A0 A1 A2 A3 A4 c0 c1 c2 c3 c4 x w' a _ u m3 (pre ⟨29, .data⟩ (by simp) rfl _ 34 rfl rfl) (pre ⟨33, .data⟩ (by simp) rfl _ 38 rfl rfl) rfl rfl
    · injection ho with ho; subst ho
      exact st3_8 W w.heap.size A0 A1 A2 A3 A4 c0 c1 c2 c3 c4 x w' a _ u R3.out (pre ⟨27, .data⟩ (by simp) rfl _ 32 rfl rfl) (pre ⟨34, .data⟩ (by simp) rfl _ 39 rfl rfl) rfl rfl
    · injection ho with ho; subst ho
      exact st4_0 W w.heap.size A0 A1 A2 A3 A4 c0 c1 c2 c3 c4 x w' a _ u  rfl rfl
    · injection ho with ho; subst ho
      exact st4_1 W w.heap.size A0 A1 A2 A3 A4 c0 c1 c2 c3 c4 x w' a _ u p1 rfl rfl
    · injection ho with ho; subst ho
      exact st4_2 W w.heap.size A0 A1 A2 A3 A4 c0 c1 c2 c3 c4 x w' a _ u bx.out.2.2.2.2 (pre ⟨37, .data⟩ (by simp) rfl _ 42 rfl rfl) rfl rfl
    · injection ho with ho; subst ho
      exact st4_3 W w.heap.size A0 A1 A2 A3 A4 c0 c1 c2 c3 c4 x w' a _ u p1 rfl rfl
    · injection ho with ho; subst ho
      exact st4_4 W w.heap.size A0 A1 A2 A3 A4 c0 c1 c2 c3 c4 x w' a _ u bx.out.2.2.2.2 (pre ⟨39, .data⟩ (by simp) rfl _ 44 rfl rfl) rfl rfl
    · injection ho with ho; subst ho
      exact st4_5 W w.heap.size A0 A1 A2 A3 A4 c0 c1 c2 c3 c4 x w' a _ u (pre ⟨40, .data⟩ (by simp) rfl _ 45 rfl rfl) rfl rfl
    · injection ho with ho; subst ho
      exact st4_6 W w.heap.size A0 A1 A2 A3 A4 c0 c1 c2 c3 c4 x w' a _ u (pre ⟨41, .data⟩ (by simp) rfl _ 46 rfl rfl) rfl rfl rfl
    · injection ho with ho; subst ho
      exact st4_7 W w.heap.size A0 A1 A2 A3 A4 c0 c1 c2 c3 c4 x w' a _ u m4 (pre ⟨38, .data⟩ (by simp) rfl _ 43 rfl rfl) (pre ⟨42, .data⟩ (by simp) rfl _ 47 rfl rfl) rfl rfl
    · injection ho with ho; subst ho
      exact st4_8 W w.heap.size A0 A1 A2 A3 A4 c0 c1 c2 c3 c4 x w' a _ u R4.out (pre ⟨36, .data⟩ (by simp) rfl _ 41 rfl rfl) (pre ⟨43, .data⟩ (by simp) rfl _ 48 rfl rfl) rfl rfl
    · injection ho with ho; subst ho
      exact st_bld W w.heap.size A0 A1 A2 A3 A4 c0 c1 c2 c3 c4 x w' a _ (pre ⟨8, .data⟩ (by simp) rfl _ 13 rfl rfl) (pre ⟨17, .data⟩ (by simp) rfl _ 22 rfl rfl) (pre ⟨26, .data⟩ (by simp) rfl _ 31 rfl rfl) (pre ⟨35, .data⟩ (by simp) rfl _ 40 rfl rfl) (pre ⟨44, .data⟩ (by simp) rfl _ 49 rfl rfl) rfl rfl
    · injection ho with ho; subst ho
      exact st_box W w.heap.size A0 A1 A2 A3 A4 c0 c1 c2 c3 c4 x w' a _ u rfl rfl
  case last =>
    intro o ho a w' u sz df old all
    injection ho with ho; subst ho
    obtain ⟨b, h3, hbb, hbx⟩ := (show ∃ b, a.tmps.getD 3 undef = .pointer (some ⟨b, 0, none⟩) ∧ W.heap.size ≤ b ∧ w'.heap[b]? = some (.cells #[.slice none 0 0, .slice none 0 0, .slice none 0 0, .slice none 0 0, .slice none 0 0] 27 (0, 0)) from all 46 _ 3 (by omega) rfl rfl)
    have h50 : OwB w' W.heap.size (a.tmps.getD 50 undef) (cut5 x) := all 45 _ 50 (by omega) rfl rfl
    have h2 : a.tmps[2]? = some (.pointer (some ⟨w.heap.size + 1, 0, none⟩)) := (old 2 (by kernel_rfl)).trans rfl
    obtain ⟨P0, q0, d0, P1, q1, d1, P2, q2, d2, P3, q3, d3, P4, q4, d4, e50⟩ := h50.rd.form
    rw [e50] at h50
    have HB := Lib.hid (five_heap hbx (.slice P0 q0 d0) (.slice P1 q1 d1) (.slice P2 q2 d2) (.slice P3 q3 d3) (.slice P4 q4 d4))
    have HO := Lib.hid (h50.five hbx (.slice P0 q0 d0) (.slice P1 q1 d1) (.slice P2 q2 d2) (.slice P3 q3 d3) (.slice P4 q4 d4))
    have HU := Lib.hid (u.five hbb (.slice P0 q0 d0) (.slice P1 q1 d1) (.slice P2 q2 d2) (.slice P3 q3 d3) (.slice P4 q4 d4))
    refine wp_sto w' a _ b P0 P1 P2 P3 P4 q0 q1 q2 q3 q4 d0 d1 d2 d3 d4 h3 e50 (bx_heap hbx).1 (bx_heap hbx).2 rfl rfl ?_
    clear e50 all old h50 hbx u bx R0 R1 R2 R3 R4 m0 m1 m2 m3 m4 n0 n1 n2 n3 n4
    generalize five w' b (.slice P0 q0 d0) (.slice P1 q1 d1) (.slice P2 q2 d2) (.slice P3 q3 d3) (.slice P4 q4 d4) = V at *
    obtain ⟨t, df'⟩ := a
    have sz' : t.size = 79 := sz
    obtain ⟨x0, x1, x2, x3, x4, x5, x6, x7, x8, x9, x10, x11, x12, x13, x14, x15, x16, x17, x18, x19, x20, x21, x22, x23, x24, x25, x26, x27, x28, x29, x30, x31, x32, x33, x34, x35, x36, x37, x38, x39, x40, x41, x42, x43, x44, x45, x46, x47, x48, x49, x50, x51, x52, x53, x54, x55, x56, x57, x58, x59, x60, x61, x62, x63, x64, x65, x66, x67, x68, x69, x70, x71, x72, x73, x74, x75, x76, x77, x78, rfl⟩ := arr79 sz'
    have g2 : x2 = .pointer (some ⟨w.heap.size + 1, 0, none⟩) := Option.some.inj h2
    have g3 : x3 = .pointer (some ⟨b, 0, none⟩) := h3
    have gd : df' = [] := df
    subst g2 g3 gd
    clear h2 h3 df sz sz'
    have Q0 := HO.out.len
    have q40 : q0 ≤ 40 := by rw [Q0]; show (x.ks.take 40).length ≤ 40; rw [List.length_take]; omega
    rw [← cutI_zero x] at HO
    go_wp2_with fail
    go_loopw [4] (fun i wr => ∃ k : Nat, k ≤ q0 ∧ i = .int .i64 k ∧ OwB wr W.heap.size (.agg #[.slice P0 q0 d0, .slice P1 q1 d1, .slice P2 q2 d2, .slice P3 q3 d3, .slice P4 q4 d4]) (cutI x k) ∧ wr.heap[b]? = some (.cells #[.slice P0 q0 d0, .slice P1 q1 d1, .slice P2 q2 d2, .slice P3 q3 d3, .slice P4 q4 d4] 27 (0, 0)) ∧ Up W wr) (fun i _ => q0 - (intOf i).toNat)
    case atStart => exact ⟨0, Nat.zero_le _, rfl, HO.out, HB.out, HU.out⟩
    case round =>
      clear HO HB HU
      obtain ⟨k, hk, rfl, ho, hb, hu⟩ := hrel
      have HO := Lib.hid ho
      have HB := Lib.hid hb
      have HU := Lib.hid hu
      clear ho hb hu
      by_cases hlt : k < q0
      · have kl : k < (cutI x k).ks.length := by show k < (mixK (cut5 x).ks k).length; rw [mixK_len]; omega
        obtain ⟨g, rfl, hg, c2, f2, cs, hh⟩ := HO.out.knd kl
        have eg : (cutI x k).ks.getD k k0 = (cut5 x).ks.getD k k0 := mixK_get (by omega)
        have SE : Hid ((mixK (cut5 x).ks k).set k (cutK ((cut5 x).ks.getD k k0)) = mixK (cut5 x).ks (k + 1)) := mixK_set (by omega)
        have bg : b ≠ g := fun e => by
          rw [← e, HB.out] at hh
          injection hh with hh
          injection hh with _ hh
          exact absurd hh (by decide)
        rw [eg] at c2
        obtain ⟨x0, x1, x2, x3, x4⟩ := (bx_heap HB.out).1
        have b6 : (k : Int) < (q0 : Int) := by omega
        have b8 : (0 : Int) ≤ (k : Int) := by omega
        have e1 : Hid (cutK ((cut5 x).ks.getD k k0) = ⟨((cut5 x).ks.getD k k0).off, ((cut5 x).ks.getD k k0).dst, cut60 ((cut5 x).ks.getD k k0).name⟩) := rfl
        have e2 : Hid (cut60 ((cut5 x).ks.getD k k0).name = (((cut5 x).ks.getD k k0).name).extract 0 (min ((((cut5 x).ks.getD k k0).name).size : Int) 60).toNat) := rfl
        go_wp2_with fail
        refine wp_region_still_tail 20 (by kernel_rfl) (by kernel_rfl) ?_
        replace x0 : ({ wr with drawn := wr.drawn + 1 } : World).cell? ⟨b, 0, none⟩ = some (.slice (some ⟨g, 0, none⟩) q0 d0) := x0
        replace c2 : ({ wr with drawn := wr.drawn + 1 } : World).cell? ⟨g, k * 3 + 2, none⟩ = some (.string ((cut5 x).ks.getD k k0).name) := c2
        replace f2 : ({ wr with drawn := wr.drawn + 1 } : World).frozen? ⟨g, k * 3 + 2, none⟩ = false := f2
        replace HU : Hid (Up W ({ wr with drawn := wr.drawn + 1 } : World)) := Lib.hid (HU.out.drewN' 1)
        replace HB : Hid (({ wr with drawn := wr.drawn + 1 } : World).heap[b]? = some (.cells #[.slice (some ⟨g, 0, none⟩) q0 d0, .slice P1 q1 d1, .slice P2 q2 d2, .slice P3 q3 d3, .slice P4 q4 d4] 27 (0, 0))) := HB
        replace HO : Hid (OwB ({ wr with drawn := wr.drawn + 1 } : World) W.heap.size (.agg #[.slice (some ⟨g, 0, none⟩) q0 d0, .slice P1 q1 d1, .slice P2 q2 d2, .slice P3 q3 d3, .slice P4 q4 d4]) (cutI x k)) := Lib.hid (HO.out.up (Up.drewN wr 1))
        clear x1 x2 x3 x4
        generalize ({ wr with drawn := wr.drawn + 1 } : World) = V' at *
        have KB := Lib.hid (HO.out.name kl (cut60 ((cut5 x).ks.getD k k0).name))
        rw [eg, ← e1.out, show (cutI x k).ks = mixK (cut5 x).ks k from rfl, SE.out] at KB
        rw [show (⟨mixK (cut5 x).ks (k + 1), (cutI x k).js, (cutI x k).ls, (cutI x k).sd, (cutI x k).ut⟩ : Blk) = cutI x (k + 1) from rfl, e2.out] at KB
        have HB' := Lib.hid ((Below.heap_setCell V' ⟨g, k * 3 + 2, none⟩ (.string ((((cut5 x).ks.getD k k0).name).extract 0 (min ((((cut5 x).ks.getD k k0).name).size : Int) 60).toNat)) b bg).trans HB.out)
        have HU' := Lib.hid (HU.out.setCell' (p := ⟨g, k * 3 + 2, none⟩) hg (.string ((((cut5 x).ks.getD k k0).name).extract 0 (min ((((cut5 x).ks.getD k k0).name).size : Int) 60).toNat)))
        generalize ((cut5 x).ks.getD k k0).name = nm at *
        have z1 : (0 : Int) ≤ min (nm.size : Int) 60 := by omega
        have z2 : min (nm.size : Int) 60 ≤ (nm.size : Int) := by omega
        clear HO HB HU e1 e2 SE eg
        simp only [List.take_succ_cons, List.take_zero, List.drop_succ_cons, List.drop_zero]
        repeat still_step
        refine wpStill_nil ?_
        go_wp2_with fail
        go_roundw
        case rel => exact ⟨k + 1, by omega, by go_num, KB.out, HB'.out, HU'.out⟩
        case measure => simp [intOf]; omega
      · have hkq : k = q0 := by omega
        subst hkq
        rw [Q0, cutI_end] at HO
        obtain ⟨x0, x1, x2, x3, x4⟩ := (bx_heap HB.out).1
        have HR := heap_up HU.out rx.out
        obtain ⟨⟨y0, y1, y2, y3, y4⟩, _, fz⟩ := bx_heap HR
        have z0 := fz 0; have z1 := fz 1; have z2 := fz 2; have z3 := fz 3; have z4 := fz 4
        clear fz
        have UF := Lib.hid (Up.five (UW.out.trans HU.out) (b := w.heap.size + 1) (by omega) (.slice P0 (cut5 x).ks.length d0) (.slice P1 q1 d1) (.slice P2 q2 d2) (.slice P3 q3 d3) (.slice P4 q4 d4))
        have OF := Lib.hid ((HO.out.five HR (.slice P0 (cut5 x).ks.length d0) (.slice P1 q1 d1) (.slice P2 q2 d2) (.slice P3 q3 d3) (.slice P4 q4 d4)).base UW.out.size)
        go_wp2_with fail
        exact bodyPost_ret (v := .agg #[.slice P0 (cut5 x).ks.length d0, .slice P1 q1 d1, .slice P2 q2 d2, .slice P3 q3 d3, .slice P4 q4 d4]) (by simp [results, Try.results12, go_sem, y0, y1, y2, y3, y4]) rfl ⟨_, rfl, OF.out, UF.out⟩
end Go.Proofs.Ytoijaananjlfpaa
