/-
  The nineteen bytes of a text of a year from 0 to 9999, and a row of numbers in memory: plain.
-/
import Derived.Test.YtdmobmblkbmkhaaDoorLcTxI
import Derived.Test.YtdmobmblkbmkhaaDoorLcFree
namespace Go.Proofs.YtdmobmblkbmkhaaDoor
open Go.ChangeShapes Go.WideShapes Go.ChangeAt Go.RowKit Lc

def fromN (j : Nat) : Nat := [0, 5, 8, 11, 14, 17].getD j 0
def tilN (j : Nat) : Nat := [4, 7, 10, 13, 16, 19].getD j 0
/-- The numbers of a civil time, in their order. -/
def fld (y m d h i s : Int) (j : Nat) : Int := [y, m, d, h, i, s].getD j 0
/-- Digits read on. -/
def readL (v : Nat) (l : List UInt8) : Nat := l.foldl (fun a b => 10 * a + (b.toNat - 48)) v
theorem n6 {n : Nat} (h : n < 6) : n = 0 ∨ n = 1 ∨ n = 2 ∨ n = 3 ∨ n = 4 ∨ n = 5 := by omega
def okD (b : UInt8) : Prop := 48 ≤ b.toNat ∧ b.toNat ≤ 57

theorem list4 {α : Type} {l : List α} (h : l.length = 4) : ∃ a b c d, l = [a, b, c, d] := by
  match l, h with
  | [a, b, c, d], _ => exact ⟨a, b, c, d, rfl⟩
theorem two_ok {n : Nat} (h : n < 100) : ∃ a b, two n = [a, b] ∧ okD a ∧ okD b ∧ readL 0 [a, b] = n := by
  refine ⟨_, _, rfl, ?_, ?_, ?_⟩
  · unfold okD; rw [byte_nat (by omega)]; omega
  · unfold okD; rw [byte_nat (by omega)]; omega
  · have := val_dig n 2
    rw [two_is h] at this; exact this
/-- The text, byte by byte. -/
theorem txt19 {y m d h i s : Int} (r : rightC y m d h i s = true) (y1 : 0 ≤ y) (y2 : y ≤ 9999) :
    ∃ b0 b1 b2 b3 m0 m1 d0 d1 h0 h1 i0 i1 s0 s1 : UInt8, (textB y m d h i s).data.toList = [b0, b1, b2, b3, 45, m0, m1, 45, d0, d1, 32, h0, h1, 58, i0, i1, 58, s0, s1] ∧
      (okD b0 ∧ okD b1 ∧ okD b2 ∧ okD b3 ∧ okD m0 ∧ okD m1 ∧ okD d0 ∧ okD d1 ∧ okD h0 ∧ okD h1 ∧ okD i0 ∧ okD i1 ∧ okD s0 ∧ okD s1) ∧
      (readL 0 [b0, b1, b2, b3] : Int) = y ∧ (readL 0 [m0, m1] : Int) = m ∧ (readL 0 [d0, d1] : Int) = d ∧ (readL 0 [h0, h1] : Int) = h ∧ (readL 0 [i0, i1] : Int) = i ∧ (readL 0 [s0, s1] : Int) = s := by
  obtain ⟨rb, h1, h2, i1, i2, s1, s2⟩ := rightC_true.1 r
  obtain ⟨_, _, d1, d2⟩ := right_true.1 rb
  obtain ⟨m1, m2⟩ := right_month rb
  have ld := (len_bd y m).2
  have ye : yearL y = dig y.toNat 4 := by unfold yearL; rw [dgB_pos y1]; rfl
  have yl : (dig y.toNat 4).length = 4 := by
    rw [dig_len, Lib.decDigits_length]
    have := nd_le 3 y.toNat (by omega)
    omega
  obtain ⟨b0, b1, b2, b3, eb⟩ := list4 yl
  have ya := dig_all y.toNat 4
  have yv := val_dig y.toNat 4
  rw [eb] at ya yv
  obtain ⟨m0, m1', em, om0, om1, vm⟩ := two_ok (n := m.toNat) (by omega)
  obtain ⟨d0, d1', ed, od0, od1, vd⟩ := two_ok (n := d.toNat) (by omega)
  obtain ⟨h0, h1', eh, oh0, oh1, vh⟩ := two_ok (n := h.toNat) (by omega)
  obtain ⟨i0, i1', ei, oi0, oi1, vi⟩ := two_ok (n := i.toNat) (by omega)
  obtain ⟨s0, s1', es, os0, os1, vs⟩ := two_ok (n := s.toNat) (by omega)
  refine ⟨b0, b1, b2, b3, m0, m1', d0, d1', h0, h1', i0, i1', s0, s1', ?_, ⟨ya b0 (by simp), ya b1 (by simp), ya b2 (by simp), ya b3 (by simp), om0, om1, od0, od1, oh0, oh1, oi0, oi1, os0, os1⟩, ?_, ?_, ?_, ?_, ?_, ?_⟩
  · rw [text_list r, ye, eb]
    unfold dateL timeL
    rw [em, ed, eh, ei, es]; rfl
  · have : readL 0 [b0, b1, b2, b3] = y.toNat := yv
    omega
  · omega
  · omega
  · omega
  · omega
  · omega

/-- What the law's loops find. -/
structure Bytes19 (L : List UInt8) (y m d h i s : Int) : Prop where
  len : L.length = 19
  dgt : ∀ n k, n < 6 → fromN n ≤ k → k < tilN n → okD (L.getD k 0)
  val : ∀ n, n < 6 → (readL 0 ((L.take (tilN n)).drop (fromN n)) : Int) = fld y m d h i s n
  seps : L.getD 4 0 = 45 ∧ L.getD 7 0 = 45 ∧ L.getD 10 0 = 32 ∧ L.getD 13 0 = 58 ∧ L.getD 16 0 = 58
theorem bytes19 {y m d h i s : Int} (r : rightC y m d h i s = true) (y1 : 0 ≤ y) (y2 : y ≤ 9999) : Bytes19 (textB y m d h i s).data.toList y m d h i s := by
  obtain ⟨b0, b1, b2, b3, m0, m1, d0, d1, h0, h1, i0, i1, s0, s1, e, ⟨o0, o1, o2, o3, o4, o5, o6, o7, o8, o9, o10, o11, o12, o13⟩, v0, v1, v2, v3, v4, v5⟩ := txt19 r y1 y2
  rw [e]
  refine ⟨rfl, ?_, ?_, rfl, rfl, rfl, rfl, rfl⟩
  · intro n k hn h1 h2
    rcases n6 hn with rfl | rfl | rfl | rfl | rfl | rfl
    · have h2' : k < 4 := h2
      have : k = 0 ∨ k = 1 ∨ k = 2 ∨ k = 3 := by omega
      rcases this with rfl | rfl | rfl | rfl <;> assumption
    · have h1' : 5 ≤ k := h1; have h2' : k < 7 := h2
      have : k = 5 ∨ k = 6 := by omega
      rcases this with rfl | rfl <;> assumption
    · have h1' : 8 ≤ k := h1; have h2' : k < 10 := h2
      have : k = 8 ∨ k = 9 := by omega
      rcases this with rfl | rfl <;> assumption
    · have h1' : 11 ≤ k := h1; have h2' : k < 13 := h2
      have : k = 11 ∨ k = 12 := by omega
      rcases this with rfl | rfl <;> assumption
    · have h1' : 14 ≤ k := h1; have h2' : k < 16 := h2
      have : k = 14 ∨ k = 15 := by omega
      rcases this with rfl | rfl <;> assumption
    · have h1' : 17 ≤ k := h1; have h2' : k < 19 := h2
      have : k = 17 ∨ k = 18 := by omega
      rcases this with rfl | rfl <;> assumption
  · intro n hn
    rcases n6 hn with rfl | rfl | rfl | rfl | rfl | rfl
    · exact v0
    · exact v1
    · exact v2
    · exact v3
    · exact v4
    · exact v5
theorem byte_at (X : ByteArray) (k : Nat) (hk : k < X.size) : X[k] = X.data.toList.getD k 0 := by
  have h' : k < X.data.toList.length := by rw [Array.length_toList]; exact hk
  rw [List.getD, List.getElem?_eq_getElem h', Option.getD_some, Array.getElem_toList]; rfl
theorem read_step {L : List UInt8} {t k v : Nat} (h : k < t) (g : k < L.length) : readL v ((L.take t).drop k) = readL (10 * v + ((L.getD k 0).toNat - 48)) ((L.take t).drop (k + 1)) := by
  have hl : k < (L.take t).length := by rw [List.length_take]; omega
  rw [List.drop_eq_getElem_cons hl]
  show List.foldl _ (10 * v + ((L.take t)[k].toNat - 48)) _ = _
  rw [List.getElem_take]
  have : L.getD k 0 = L[k] := by rw [List.getD, List.getElem?_eq_getElem g, Option.getD_some]
  rw [this]; rfl
theorem til_19 {n : Nat} (h : n < 6) : tilN n ≤ 19 ∧ fromN n ≤ tilN n ∧ tilN n ≤ fromN n + 4 := by
  rcases n6 h with rfl | rfl | rfl | rfl | rfl | rfl <;> decide
theorem pow_le {a b : Nat} (h : a ≤ b) : 10 ^ a ≤ 10 ^ b := Nat.pow_le_pow_right (by decide) h

/-- The state of the law's loops: the row that is written at A, the bounds behind it, the civil time at C. -/
structure St (w wr : World) (A C : Nat) (y m d h i s : Int) (n v : Nat) : Prop where
  all : ∀ j, j < 6 → wr.cell? ⟨A, j, none⟩ = some (.int .i64 (if j < n then fld y m d h i s j else if j = n then (v : Int) else 0))
  free : ∀ j, wr.frozen? ⟨A, j, none⟩ = false
  frm : ∀ j, j < 6 → wr.cell? ⟨A + 1, j, none⟩ = some (.int .i64 (fromN j : Int))
  til : ∀ j, j < 6 → wr.cell? ⟨A + 1 + 1, j, none⟩ = some (.int .i64 (tilN j : Int))
  box : Box wr C y m d h i s
  up : Up w wr
  hA : w.heap.size ≤ A
  hC : C < A
theorem St.draw {w wr : World} {A C : Nat} {y m d h i s : Int} {n v : Nat} (x : St w wr A C y m d h i s n v) (k : Nat) : St w (wr.drewN k) A C y m d h i s n v :=
  ⟨x.all, x.free, x.frm, x.til, x.box, x.up.drewN' k, x.hA, x.hC⟩
theorem St.next {w wr : World} {A C : Nat} {y m d h i s : Int} {n v : Nat} (x : St w wr A C y m d h i s n v) (e : (v : Int) = fld y m d h i s n) : St w wr A C y m d h i s (n + 1) 0 := by
  refine ⟨fun j hj => ?_, x.free, x.frm, x.til, x.box, x.up, x.hA, x.hC⟩
  rw [x.all j hj]
  by_cases c : j < n
  · rw [if_pos c, if_pos (by omega)]
  · by_cases c2 : j = n
    · subst c2; rw [if_neg c, if_pos rfl, if_pos (by omega), e]
    · rw [if_neg c, if_neg c2, if_neg (by omega)]; split <;> rfl
theorem St.store {w wr : World} {A C : Nat} {y m d h i s : Int} {n v : Nat} (x : St w wr A C y m d h i s n v) (hn : n < 6) (u : Nat) : St w (wr.setCell ⟨A, n, none⟩ (.int .i64 (u : Int))) A C y m d h i s n u := by
  have O : ∀ b o, (b ≠ A ∨ o ≠ n) → (wr.setCell ⟨A, n, none⟩ (.int .i64 (u : Int))).cell? ⟨b, o, none⟩ = wr.cell? ⟨b, o, none⟩ := fun b o hb => World.cell?_setCell_other wr ⟨A, n, none⟩ ⟨b, o, none⟩ _ (fun e => by injection e; omega)
  refine ⟨fun j hj => ?_, fun j => by rw [World.frozen?_setCell]; exact x.free j, fun j hj => by rw [O _ _ (.inl (by omega))]; exact x.frm j hj, fun j hj => by rw [O _ _ (.inl (by omega))]; exact x.til j hj, ?_, x.up.setCell' (p := ⟨A, n, none⟩) x.hA _, x.hA, x.hC⟩
  · by_cases c : j = n
    · subst c
      rw [World.cell?_setCell_same (h := x.all j hj), if_neg (by omega), if_pos rfl]
    · rw [O _ _ (.inr c), x.all j hj, if_neg c, if_neg c]
  · have hC := x.hC
    obtain ⟨c0, c1, c2, c3, c4, c5⟩ := x.box
    refine ⟨?_, ?_, ?_, ?_, ?_, ?_⟩ <;> (rw [O _ _ (.inl (by omega))]; assumption)
theorem cells6 (w : World) (x0 x1 x2 x3 x4 x5 : Int) (f : Nat → Int) (t : TypeId) (e : ∀ j, j < 6 → [x0, x1, x2, x3, x4, x5].getD j 0 = f j) : ∀ j, j < 6 → (w.alloc (.cells #[.int .i64 x0, .int .i64 x1, .int .i64 x2, .int .i64 x3, .int .i64 x4, .int .i64 x5] t)).cell? ⟨w.heap.size, j, none⟩ = some (.int .i64 (f j)) :=
  fun j hj => by rw [six_cells w x0 x1 x2 x3 x4 x5 t j hj, e j hj]
theorem st_start {w w3 : World} {C : Nat} {y m d h i s : Int} (b : Box w3 C y m d h i s) (u : Up w w3) (t : TypeId) :
    St w (((w3.alloc (.cells #[.int .i64 0, .int .i64 0, .int .i64 0, .int .i64 0, .int .i64 0, .int .i64 0] t)).alloc (.cells #[.int .i64 0, .int .i64 5, .int .i64 8, .int .i64 11, .int .i64 14, .int .i64 17] t)).alloc (.cells #[.int .i64 4, .int .i64 7, .int .i64 10, .int .i64 13, .int .i64 16, .int .i64 19] t)) w3.heap.size C y m d h i s 0 0 := by
  refine ⟨fun j hj => ?_, ?_, fun j hj => ?_, fun j hj => ?_, b.up (((Up.alloc _ _).alloc' _).alloc' _), ((u.alloc' _).alloc' _).alloc' _, u.size, cell_lt b.1⟩
  · refine ((Up.alloc _ _).alloc' _).cell (cells6 w3 0 0 0 0 0 0 (fun j => if j < 0 then fld y m d h i s j else if j = 0 then ((0 : Nat) : Int) else 0) t (fun j hj => ?_) j hj)
    rcases n6 hj with rfl | rfl | rfl | rfl | rfl | rfl <;> rfl
  · exact ((Free.new w3 _ t).up ((Up.alloc _ _).alloc' _)).2
  · have := cells6 (w3.alloc (.cells #[.int .i64 0, .int .i64 0, .int .i64 0, .int .i64 0, .int .i64 0, .int .i64 0] t)) 0 5 8 11 14 17 (fun j => (fromN j : Int)) t (fun j hj => by rcases n6 hj with rfl | rfl | rfl | rfl | rfl | rfl <;> rfl) j hj
    rw [World.size_alloc] at this
    exact (Up.alloc _ _).cell this
  · have := cells6 ((w3.alloc (.cells #[.int .i64 0, .int .i64 0, .int .i64 0, .int .i64 0, .int .i64 0, .int .i64 0] t)).alloc (.cells #[.int .i64 0, .int .i64 5, .int .i64 8, .int .i64 11, .int .i64 14, .int .i64 17] t)) 4 7 10 13 16 19 (fun j => (tilN j : Int)) t (fun j hj => by rcases n6 hj with rfl | rfl | rfl | rfl | rfl | rfl <;> rfl) j hj
    rw [World.size_alloc, World.size_alloc] at this
    exact this
end Go.Proofs.YtdmobmblkbmkhaaDoor
