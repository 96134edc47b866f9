/-
  few: a file, cut, in new memory.
-/
import Derived.Test.YtaljddoenjgbfaaGreatLcFvB
import Derived.Test.YtaljddoenjgbfaaGreatLcTz0
import Derived.StillTailTactics
import Derived.Laws.OwnMore
namespace Go.Proofs.YtaljddoenjgbfaaGreat
open Go.ChangeShapes Go.WideShapes Go.ChangeAt Go.RowKit Lc

set_option maxRecDepth 100000 in
theorem cons_of {l : List Value} {n : Nat} (h : l.length = n + 1) : ∃ a m, l = a :: m ∧ m.length = n := by
  cases l with
  | nil => cases h
  | cons a m => exact ⟨a, m, rfl, by simpa using h⟩
set_option maxRecDepth 100000 in
theorem arr92 {t : Array Value} (h : t.size = 92) : ∃ x0 x1 x2 x3 x4 x5 x6 x7 x8 x9 x10 x11 x12 x13 x14 x15 x16 x17 x18 x19 x20 x21 x22 x23 x24 x25 x26 x27 x28 x29 x30 x31 x32 x33 x34 x35 x36 x37 x38 x39 x40 x41 x42 x43 x44 x45 x46 x47 x48 x49 x50 x51 x52 x53 x54 x55 x56 x57 x58 x59 x60 x61 x62 x63 x64 x65 x66 x67 x68 x69 x70 x71 x72 x73 x74 x75 x76 x77 x78 x79 x80 x81 x82 x83 x84 x85 x86 x87 x88 x89 x90 x91 : Value, t = #[x0, x1, x2, x3, x4, x5, x6, x7, x8, x9, x10, x11, x12, x13, x14, x15, x16, x17, x18, x19, x20, x21, x22, x23, x24, x25, x26, x27, x28, x29, x30, x31, x32, x33, x34, x35, x36, x37, x38, x39, x40, x41, x42, x43, x44, x45, x46, x47, x48, x49, x50, x51, x52, x53, x54, x55, x56, x57, x58, x59, x60, x61, x62, x63, x64, x65, x66, x67, x68, x69, x70, x71, x72, x73, x74, x75, x76, x77, x78, x79, x80, x81, x82, x83, x84, x85, x86, x87, x88, x89, x90, x91] := by
  obtain ⟨l0⟩ := t
  have h0 : l0.length = 92 := h
  clear h
  obtain ⟨x0, l1, rfl, h1⟩ := cons_of h0
  obtain ⟨x1, l2, rfl, h2⟩ := cons_of h1
  obtain ⟨x2, l3, rfl, h3⟩ := cons_of h2
  obtain ⟨x3, l4, rfl, h4⟩ := cons_of h3
  obtain ⟨x4, l5, rfl, h5⟩ := cons_of h4
  obtain ⟨x5, l6, rfl, h6⟩ := cons_of h5
  obtain ⟨x6, l7, rfl, h7⟩ := cons_of h6
  obtain ⟨x7, l8, rfl, h8⟩ := cons_of h7
  obtain ⟨x8, l9, rfl, h9⟩ := cons_of h8
  obtain ⟨x9, l10, rfl, h10⟩ := cons_of h9
  obtain ⟨x10, l11, rfl, h11⟩ := cons_of h10
  obtain ⟨x11, l12, rfl, h12⟩ := cons_of h11
  obtain ⟨x12, l13, rfl, h13⟩ := cons_of h12
  obtain ⟨x13, l14, rfl, h14⟩ := cons_of h13
  obtain ⟨x14, l15, rfl, h15⟩ := cons_of h14
  obtain ⟨x15, l16, rfl, h16⟩ := cons_of h15
  obtain ⟨x16, l17, rfl, h17⟩ := cons_of h16
  obtain ⟨x17, l18, rfl, h18⟩ := cons_of h17
  obtain ⟨x18, l19, rfl, h19⟩ := cons_of h18
  obtain ⟨x19, l20, rfl, h20⟩ := cons_of h19
  obtain ⟨x20, l21, rfl, h21⟩ := cons_of h20
  obtain ⟨x21, l22, rfl, h22⟩ := cons_of h21
  obtain ⟨x22, l23, rfl, h23⟩ := cons_of h22
  obtain ⟨x23, l24, rfl, h24⟩ := cons_of h23
  obtain ⟨x24, l25, rfl, h25⟩ := cons_of h24
  obtain ⟨x25, l26, rfl, h26⟩ := cons_of h25
  obtain ⟨x26, l27, rfl, h27⟩ := cons_of h26
  obtain ⟨x27, l28, rfl, h28⟩ := cons_of h27
  obtain ⟨x28, l29, rfl, h29⟩ := cons_of h28
  obtain ⟨x29, l30, rfl, h30⟩ := cons_of h29
  obtain ⟨x30, l31, rfl, h31⟩ := cons_of h30
  obtain ⟨x31, l32, rfl, h32⟩ := cons_of h31
  obtain ⟨x32, l33, rfl, h33⟩ := cons_of h32
  obtain ⟨x33, l34, rfl, h34⟩ := cons_of h33
  obtain ⟨x34, l35, rfl, h35⟩ := cons_of h34
  obtain ⟨x35, l36, rfl, h36⟩ := cons_of h35
  obtain ⟨x36, l37, rfl, h37⟩ := cons_of h36
  obtain ⟨x37, l38, rfl, h38⟩ := cons_of h37
  obtain ⟨x38, l39, rfl, h39⟩ := cons_of h38
  obtain ⟨x39, l40, rfl, h40⟩ := cons_of h39
  obtain ⟨x40, l41, rfl, h41⟩ := cons_of h40
  obtain ⟨x41, l42, rfl, h42⟩ := cons_of h41
  obtain ⟨x42, l43, rfl, h43⟩ := cons_of h42
  obtain ⟨x43, l44, rfl, h44⟩ := cons_of h43
  obtain ⟨x44, l45, rfl, h45⟩ := cons_of h44
  obtain ⟨x45, l46, rfl, h46⟩ := cons_of h45
  obtain ⟨x46, l47, rfl, h47⟩ := cons_of h46
  obtain ⟨x47, l48, rfl, h48⟩ := cons_of h47
  obtain ⟨x48, l49, rfl, h49⟩ := cons_of h48
  obtain ⟨x49, l50, rfl, h50⟩ := cons_of h49
  obtain ⟨x50, l51, rfl, h51⟩ := cons_of h50
  obtain ⟨x51, l52, rfl, h52⟩ := cons_of h51
  obtain ⟨x52, l53, rfl, h53⟩ := cons_of h52
  obtain ⟨x53, l54, rfl, h54⟩ := cons_of h53
  obtain ⟨x54, l55, rfl, h55⟩ := cons_of h54
  obtain ⟨x55, l56, rfl, h56⟩ := cons_of h55
  obtain ⟨x56, l57, rfl, h57⟩ := cons_of h56
  obtain ⟨x57, l58, rfl, h58⟩ := cons_of h57
  obtain ⟨x58, l59, rfl, h59⟩ := cons_of h58
  obtain ⟨x59, l60, rfl, h60⟩ := cons_of h59
  obtain ⟨x60, l61, rfl, h61⟩ := cons_of h60
  obtain ⟨x61, l62, rfl, h62⟩ := cons_of h61
  obtain ⟨x62, l63, rfl, h63⟩ := cons_of h62
  obtain ⟨x63, l64, rfl, h64⟩ := cons_of h63
  obtain ⟨x64, l65, rfl, h65⟩ := cons_of h64
  obtain ⟨x65, l66, rfl, h66⟩ := cons_of h65
  obtain ⟨x66, l67, rfl, h67⟩ := cons_of h66
  obtain ⟨x67, l68, rfl, h68⟩ := cons_of h67
  obtain ⟨x68, l69, rfl, h69⟩ := cons_of h68
  obtain ⟨x69, l70, rfl, h70⟩ := cons_of h69
  obtain ⟨x70, l71, rfl, h71⟩ := cons_of h70
  obtain ⟨x71, l72, rfl, h72⟩ := cons_of h71
  obtain ⟨x72, l73, rfl, h73⟩ := cons_of h72
  obtain ⟨x73, l74, rfl, h74⟩ := cons_of h73
  obtain ⟨x74, l75, rfl, h75⟩ := cons_of h74
  obtain ⟨x75, l76, rfl, h76⟩ := cons_of h75
  obtain ⟨x76, l77, rfl, h77⟩ := cons_of h76
  obtain ⟨x77, l78, rfl, h78⟩ := cons_of h77
  obtain ⟨x78, l79, rfl, h79⟩ := cons_of h78
  obtain ⟨x79, l80, rfl, h80⟩ := cons_of h79
  obtain ⟨x80, l81, rfl, h81⟩ := cons_of h80
  obtain ⟨x81, l82, rfl, h82⟩ := cons_of h81
  obtain ⟨x82, l83, rfl, h83⟩ := cons_of h82
  obtain ⟨x83, l84, rfl, h84⟩ := cons_of h83
  obtain ⟨x84, l85, rfl, h85⟩ := cons_of h84
  obtain ⟨x85, l86, rfl, h86⟩ := cons_of h85
  obtain ⟨x86, l87, rfl, h87⟩ := cons_of h86
  obtain ⟨x87, l88, rfl, h88⟩ := cons_of h87
  obtain ⟨x88, l89, rfl, h89⟩ := cons_of h88
  obtain ⟨x89, l90, rfl, h90⟩ := cons_of h89
  obtain ⟨x90, l91, rfl, h91⟩ := cons_of h90
  obtain ⟨x91, l92, rfl, h92⟩ := cons_of h91
  have e : l92 = [] := List.eq_nil_of_length_eq_zero h92
  subst e
  exact ⟨x0, x1, x2, x3, x4, x5, x6, x7, x8, x9, x10, x11, x12, x13, x14, x15, x16, x17, x18, x19, x20, x21, x22, x23, x24, x25, x26, x27, x28, x29, x30, x31, x32, x33, x34, x35, x36, x37, x38, x39, x40, x41, x42, x43, x44, x45, x46, x47, x48, x49, x50, x51, x52, x53, x54, x55, x56, x57, x58, x59, x60, x61, x62, x63, x64, x65, x66, x67, x68, x69, x70, x71, x72, x73, x74, x75, x76, x77, x78, x79, x80, x81, x82, x83, x84, x85, x86, x87, x88, x89, x90, x91, rfl⟩

/-- A text, cut. -/
def cut110 (s : ByteArray) : ByteArray := s.extract 0 (min (s.size : Int) 110).toNat
/-- A file, cut. -/
def cutF (f : Fil) : Fil := ⟨f.ver, cutB f.blk, cut110 f.foot⟩
/-- A file of one's own. -/
def OwF (w : World) (base : Nat) (v : Value) (f : Fil) : Prop := ∃ a b c d e, v = .agg #[.int .i64 f.ver, a, b, c, d, e, .string f.foot] ∧ OwB w base (.agg #[a, b, c, d, e]) f.blk
set_option maxRecDepth 100000 in
theorem OwF.up {w w' : World} {base : Nat} {v : Value} {f : Fil} (h : OwF w base v f) (u : Up w w') : OwF w' base v f := by
  obtain ⟨a, b, c, d, e, hv, h⟩ := h; exact ⟨a, b, c, d, e, hv, h.up u⟩
set_option maxRecDepth 100000 in
theorem OwF.rd {w : World} {base : Nat} {v : Value} {f : Fil} (h : OwF w base v f) : FlR w v f := by
  obtain ⟨a, b, c, d, e, hv, h⟩ := h; exact ⟨a, b, c, d, e, hv, h.rd⟩
set_option maxRecDepth 100000 in
theorem row_seven {w : World} {base : Nat} {e : TypeId} {size : Nat} {v : Value} {n : Nat} {xs : List Value} (h : w.ownsRow base e size v n xs) {b : Nat} (hn : v.ownBlock ≠ some b) (v0 v1 v2 v3 v4 v5 v6 : Value) : (seven w b v0 v1 v2 v3 v4 v5 v6).ownsRow base e size v n xs :=
  row_else (row_else (row_else (row_else (row_else (row_else (row_else h hn 0 v0) hn 1 v1) hn 2 v2) hn 3 v3) hn 4 v4) hn 5 v5) hn 6 v6
set_option maxRecDepth 100000 in
theorem OwB.seven {w : World} {base : Nat} {v : Value} {x : Blk} (h : OwB w base v x) {b : Nat} {cs : Array Value} {fr : Nat × Nat} (hb : w.heap[b]? = some (.cells cs 29 fr)) (v0 v1 v2 v3 v4 v5 v6 : Value) : OwB (seven w b v0 v1 v2 v3 v4 v5 v6) base v x := by
  obtain ⟨a, b', c, d, e, rfl, h1, h2, h3, h4, h5⟩ := h
  exact ⟨_, _, _, _, _, rfl, row_seven h1 (row_ty h1 hb (by decide)) _ _ _ _ _ _ _, row_seven h2 (row_ty h2 hb (by decide)) _ _ _ _ _ _ _, row_seven h3 (row_ty h3 hb (by decide)) _ _ _ _ _ _ _, row_seven h4 (row_ty h4 hb (by decide)) _ _ _ _ _ _ _, row_seven h5 (row_ty h5 hb (by decide)) _ _ _ _ _ _ _⟩
set_option maxRecDepth 100000 in
theorem bx7_heap {w : World} {b : Nat} {v0 v1 v2 v3 v4 v5 v6 : Value} {t : TypeId} (h : w.heap[b]? = some (.cells #[v0, v1, v2, v3, v4, v5, v6] t (0, 0))) : Bx7 w b v0 v1 v2 v3 v4 v5 v6 ∧ Free w b := by
  have lt : b < w.heap.size := by
    rcases Nat.lt_or_ge b w.heap.size with g | g
    · exact g
    · rw [Array.getElem?_eq_none g] at h; cases h
  refine ⟨?_, lt, fun j => frozen_of_row w b j _ t h⟩
  unfold Bx7
  simp [World.cell?, h]

set_option maxRecDepth 100000 in
set_option maxHeartbeats 4000000 in
theorem few7_any (v : Value) (f : Fil) (w : World) (hs : FlR w v f) :
    Calls Tryz.prog 6 #[v] w fun e w' => ∃ v', e = .returned v' ∧ OwF w' w.heap.size v' (cutF f) ∧ Up w w' := by
  obtain ⟨_, _, _, _, _, rfl, hb⟩ := hs
  obtain ⟨ver, x, ft⟩ := f
  simp only at hb ⊢
  obtain ⟨_, _, _, _, _, he, ⟨A0, c0, rfl, m0, n0, r0⟩, ⟨A1, c1, rfl, m1, n1, r1⟩, ⟨A2, c2, rfl, m2, n2, r2⟩, ⟨A3, c3, rfl, m3, n3, r3⟩, ⟨A4, c4, rfl, m4, n4, r4⟩⟩ := hb
  simp only [Value.agg.injEq, Array.mk.injEq, List.cons.injEq, and_true] at he
  obtain ⟨rfl, rfl, rfl, rfl, rfl⟩ := he
  obtain ⟨W, hW⟩ : ∃ W, ((w.alloc (.cells #[.int .i64 ver, .slice A0 x.ks.length c0, .slice A1 x.js.length c1, .slice A2 x.ls.length c2, .slice A3 x.sd.length c3, .slice A4 x.ut.length c4, .string ft] 29)).alloc (.cells #[.int .i64 0, .slice none 0 0, .slice none 0 0, .slice none 0 0, .slice none 0 0, .slice none 0 0, .string ⟨#[]⟩] 29)).alloc (.cells #[.slice A0 x.ks.length c0, .slice A1 x.js.length c1, .slice A2 x.ls.length c2, .slice A3 x.sd.length c3, .slice A4 x.ut.length c4] 27) = W := ⟨_, rfl⟩
  have UW : Hid (Up w W) := by rw [← hW]; exact ((Up.alloc w _).alloc' _).alloc' _
  have SZ : Hid (W.heap.size = w.heap.size + 3) := by unfold Hid; rw [← hW]; simp
  have bx : Hid (Bx5 W (w.heap.size + 2) (.slice A0 x.ks.length c0) (.slice A1 x.js.length c1) (.slice A2 x.ls.length c2) (.slice A3 x.sd.length c3) (.slice A4 x.ut.length c4)) := by
    have := Bx5.new ((w.alloc (.cells #[.int .i64 ver, .slice A0 x.ks.length c0, .slice A1 x.js.length c1, .slice A2 x.ls.length c2, .slice A3 x.sd.length c3, .slice A4 x.ut.length c4, .string ft] 29)).alloc (.cells #[.int .i64 0, .slice none 0 0, .slice none 0 0, .slice none 0 0, .slice none 0 0, .slice none 0 0, .string ⟨#[]⟩] 29)) (.slice A0 x.ks.length c0) (.slice A1 x.js.length c1) (.slice A2 x.ls.length c2) (.slice A3 x.sd.length c3) (.slice A4 x.ut.length c4) 27
    rw [World.size_alloc, World.size_alloc, hW] at this
    exact Lib.hid this
  have fx : Hid (Bx7 W w.heap.size (.int .i64 ver) (.slice A0 x.ks.length c0) (.slice A1 x.js.length c1) (.slice A2 x.ls.length c2) (.slice A3 x.sd.length c3) (.slice A4 x.ut.length c4) (.string ft)) := by
    rw [← hW]; exact Lib.hid (((Bx7.new w _ _ _ _ _ _ _ _).up (Up.alloc _ _)).up (Up.alloc _ _))
  have rx : Hid (W.heap[w.heap.size + 1]? = some (.cells #[.int .i64 0, .slice none 0 0, .slice none 0 0, .slice none 0 0, .slice none 0 0, .slice none 0 0, .string ⟨#[]⟩] 29 (0, 0))) := by
    unfold Hid
    have := heap_alloc_new (w.alloc (.cells #[.int .i64 ver, .slice A0 x.ks.length c0, .slice A1 x.js.length c1, .slice A2 x.ls.length c2, .slice A3 x.sd.length c3, .slice A4 x.ut.length c4, .string ft] 29)) (.cells #[.int .i64 0, .slice none 0 0, .slice none 0 0, .slice none 0 0, .slice none 0 0, .slice none 0 0, .string ⟨#[]⟩] 29)
    rw [World.size_alloc] at this
    rw [← hW]
    exact heap_up (Up.alloc _ _) this
  have R0 := Lib.hid (r0.up UW.out)
  have R1 := Lib.hid (r1.up UW.out)
  have R2 := Lib.hid (r2.up UW.out)
  have R3 := Lib.hid (r3.up UW.out)
  have R4 := Lib.hid (r4.up UW.out)
  clear r0 r1 r2 r3 r4
  go_enter Tryz.func6, Tryz.ntmps6
  go_wp2_with fail
  clear hW
  refine wp_region_mid (n := 47) (G := fG W.heap.size (w.heap.size + 2) A0 A1 A2 A3 A4 c0 c1 c2 c3 c4 x) (by kernel_rfl) (by kernel_rfl) (by kernel_rfl) (by kernel_rfl) (by kernel_rfl) fG_up ?step ?last
  case step =>
    intro i o hi ho a w' u old pre
    have p1 : a.tmps.getD 3 undef = .pointer (some ⟨w.heap.size + 2, 0, none⟩) := getD_some ((old 3 (by kernel_rfl)).trans rfl)
    clear old
    have hi' : i = 0 ∨ i = 1 ∨ i = 2 ∨ i = 3 ∨ i = 4 ∨ i = 5 ∨ i = 6 ∨ i = 7 ∨ i = 8 ∨ i = 9 ∨ i = 10 ∨ i = 11 ∨ i = 12 ∨ i = 13 ∨ i = 14 ∨ i = 15 ∨ i = 16 ∨ i = 17 ∨ i = 18 ∨ i = 19 ∨ i = 20 ∨ i = 21 ∨ i = 22 ∨ i = 23 ∨ i = 24 ∨ i = 25 ∨ i = 26 ∨ i = 27 ∨ i = 28 ∨ i = 29 ∨ i = 30 ∨ i = 31 ∨ i = 32 ∨ i = 33 ∨ i = 34 ∨ i = 35 ∨ i = 36 ∨ i = 37 ∨ i = 38 ∨ i = 39 ∨ i = 40 ∨ i = 41 ∨ i = 42 ∨ i = 43 ∨ i = 44 ∨ i = 45 ∨ i = 46 := by omega
    rcases hi' with rfl | rfl | rfl | rfl | rfl | rfl | rfl | rfl | rfl | rfl | rfl | rfl | rfl | rfl | rfl | rfl | rfl | rfl | rfl | rfl | rfl | rfl | rfl | rfl | rfl | rfl | rfl | rfl | rfl | rfl | rfl | rfl | rfl | rfl | rfl | rfl | rfl | rfl | rfl | rfl | rfl | rfl | rfl | rfl | rfl | rfl | rfl
    · injection ho with ho; subst ho
      exact st0_0 W (w.heap.size + 2) A0 A1 A2 A3 A4 c0 c1 c2 c3 c4 x w' a _ u  rfl rfl
    · injection ho with ho; subst ho
      exact st0_1 W (w.heap.size + 2) A0 A1 A2 A3 A4 c0 c1 c2 c3 c4 x w' a _ u p1 rfl rfl
    · injection ho with ho; subst ho
      exact st0_2 W (w.heap.size + 2) A0 A1 A2 A3 A4 c0 c1 c2 c3 c4 x w' a _ u bx.out.1 (pre ⟨1, .data⟩ (by simp) rfl _ 9 rfl rfl) rfl rfl
    · injection ho with ho; subst ho
      exact st0_3 W (w.heap.size + 2) A0 A1 A2 A3 A4 c0 c1 c2 c3 c4 x w' a _ u p1 rfl rfl
    · injection ho with ho; subst ho
      exact st0_4 W (w.heap.size + 2) A0 A1 A2 A3 A4 c0 c1 c2 c3 c4 x w' a _ u bx.out.1 (pre ⟨3, .data⟩ (by simp) rfl _ 11 rfl rfl) rfl rfl
    · injection ho with ho; subst ho
      exact st0_5 W (w.heap.size + 2) A0 A1 A2 A3 A4 c0 c1 c2 c3 c4 x w' a _ u (pre ⟨4, .data⟩ (by simp) rfl _ 12 rfl rfl) rfl rfl
    · injection ho with ho; subst ho
      exact st0_6 W (w.heap.size + 2) A0 A1 A2 A3 A4 c0 c1 c2 c3 c4 x w' a _ u (pre ⟨5, .data⟩ (by simp) rfl _ 13 rfl rfl) rfl rfl rfl
    · injection ho with ho; subst ho
      exact st0_7 W (w.heap.size + 2) A0 A1 A2 A3 A4 c0 c1 c2 c3 c4 x w' a _ u m0 (pre ⟨2, .data⟩ (by simp) rfl _ 10 rfl rfl) (pre ⟨6, .data⟩ (by simp) rfl _ 14 rfl rfl) rfl rfl
    · injection ho with ho; subst ho
      exact st0_8 W (w.heap.size + 2) A0 A1 A2 A3 A4 c0 c1 c2 c3 c4 x w' a _ u R0.out (pre ⟨0, .data⟩ (by simp) rfl _ 8 rfl rfl) (pre ⟨7, .data⟩ (by simp) rfl _ 15 rfl rfl) rfl rfl
    · injection ho with ho; subst ho
      exact st1_0 W (w.heap.size + 2) A0 A1 A2 A3 A4 c0 c1 c2 c3 c4 x w' a _ u  rfl rfl
    · injection ho with ho; subst ho
      exact st1_1 W (w.heap.size + 2) A0 A1 A2 A3 A4 c0 c1 c2 c3 c4 x w' a _ u p1 rfl rfl
    · injection ho with ho; subst ho
      exact st1_2 W (w.heap.size + 2) A0 A1 A2 A3 A4 c0 c1 c2 c3 c4 x w' a _ u bx.out.2.1 (pre ⟨10, .data⟩ (by simp) rfl _ 18 rfl rfl) rfl rfl
    · injection ho with ho; subst ho
      exact st1_3 W (w.heap.size + 2) A0 A1 A2 A3 A4 c0 c1 c2 c3 c4 x w' a _ u p1 rfl rfl
    · injection ho with ho; subst ho
      exact st1_4 W (w.heap.size + 2) A0 A1 A2 A3 A4 c0 c1 c2 c3 c4 x w' a _ u bx.out.2.1 (pre ⟨12, .data⟩ (by simp) rfl _ 20 rfl rfl) rfl rfl
    · injection ho with ho; subst ho
      exact st1_5 W (w.heap.size + 2) A0 A1 A2 A3 A4 c0 c1 c2 c3 c4 x w' a _ u (pre ⟨13, .data⟩ (by simp) rfl _ 21 rfl rfl) rfl rfl
    · injection ho with ho; subst ho
      exact st1_6 W (w.heap.size + 2) A0 A1 A2 A3 A4 c0 c1 c2 c3 c4 x w' a _ u (pre ⟨14, .data⟩ (by simp) rfl _ 22 rfl rfl) rfl rfl rfl
    · injection ho with ho; subst ho
      exact st1_7 W (w.heap.size + 2) A0 A1 A2 A3 A4 c0 c1 c2 c3 c4 x w' a _ u m1 (pre ⟨11, .data⟩ (by simp) rfl _ 19 rfl rfl) (pre ⟨15, .data⟩ (by simp) rfl _ 23 rfl rfl) rfl rfl
    · injection ho with ho; subst ho
      exact st1_8 W (w.heap.size + 2) A0 A1 A2 A3 A4 c0 c1 c2 c3 c4 x w' a _ u R1.out (pre ⟨9, .data⟩ (by simp) rfl _ 17 rfl rfl) (pre ⟨16, .data⟩ (by simp) rfl _ 24 rfl rfl) rfl rfl
    · injection ho with ho; subst ho
      exact st2_0 W (w.heap.size + 2) A0 A1 A2 A3 A4 c0 c1 c2 c3 c4 x w' a _ u  rfl rfl
    · injection ho with ho; subst ho
      exact st2_1 W (w.heap.size + 2) A0 A1 A2 A3 A4 c0 c1 c2 c3 c4 x w' a _ u p1 rfl rfl
    · injection ho with ho; subst ho
      exact st2_2 W (w.heap.size + 2) A0 A1 A2 A3 A4 c0 c1 c2 c3 c4 x w' a _ u bx.out.2.2.1 (pre ⟨19, .data⟩ (by simp) rfl _ 27 rfl rfl) rfl rfl
    · injection ho with ho; subst ho
      exact st2_3 W (w.heap.size + 2) A0 A1 A2 A3 A4 c0 c1 c2 c3 c4 x w' a _ u p1 rfl rfl
    · injection ho with ho; subst ho
      exact st2_4 W (w.heap.size + 2) A0 A1 A2 A3 A4 c0 c1 c2 c3 c4 x w' a _ u bx.out.2.2.1 (pre ⟨21, .data⟩ (by simp) rfl _ 29 rfl rfl) rfl rfl
    · injection ho with ho; subst ho
      exact st2_5 W (w.heap.size + 2) A0 A1 A2 A3 A4 c0 c1 c2 c3 c4 x w' a _ u (pre ⟨22, .data⟩ (by simp) rfl _ 30 rfl rfl) rfl rfl
    · injection ho with ho; subst ho
      exact st2_6 W (w.heap.size + 2) A0 A1 A2 A3 A4 c0 c1 c2 c3 c4 x w' a _ u (pre ⟨23, .data⟩ (by simp) rfl _ 31 rfl rfl) rfl rfl rfl
    · injection ho with ho; subst ho
      exact st2_7 W (w.heap.size + 2) A0 A1 A2 A3 A4 c0 c1 c2 c3 c4 x w' a _ u m2 (pre ⟨20, .data⟩ (by simp) rfl _ 28 rfl rfl) (pre ⟨24, .data⟩ (by simp) rfl _ 32 rfl rfl) rfl rfl
    · injection ho with ho; subst ho
      exact st2_8 W (w.heap.size + 2) A0 A1 A2 A3 A4 c0 c1 c2 c3 c4 x w' a _ u R2.out (pre ⟨18, .data⟩ (by simp) rfl _ 26 rfl rfl) (pre ⟨25, .data⟩ (by simp) rfl _ 33 rfl rfl) rfl rfl
    · injection ho with ho; subst ho
      exact st3_0 W (w.heap.size + 2) A0 A1 A2 A3 A4 c0 c1 c2 c3 c4 x w' a _ u  rfl rfl
    · injection ho with ho; subst ho
      exact st3_1 W (w.heap.size + 2) A0 A1 A2 A3 A4 c0 c1 c2 c3 c4 x w' a _ u p1 rfl rfl
    · injection ho with ho; subst ho
      exact st3_2 W (w.heap.size + 2) A0 A1 A2 A3 A4 c0 c1 c2 c3 c4 x w' a _ u bx.out.2.2.2.1 (pre ⟨28, .data⟩ (by simp) rfl _ 36 rfl rfl) rfl rfl
    · injection ho with ho; subst ho
      exact st3_3 W (w.heap.size + 2) A0 A1 A2 A3 A4 c0 c1 c2 c3 c4 x w' a _ u p1 rfl rfl
    · injection ho with ho; subst ho
      exact st3_4 W (w.heap.size + 2) A0 A1 A2 A3 A4 c0 c1 c2 c3 c4 x w' a _ u bx.out.2.2.2.1 (pre ⟨30, .data⟩ (by simp) rfl _ 38 rfl rfl) rfl rfl
    · injection ho with ho; subst ho
      exact st3_5 W (w.heap.size + 2) A0 A1 A2 A3 A4 c0 c1 c2 c3 c4 x w' a _ u (pre ⟨31, .data⟩ (by simp) rfl _ 39 rfl rfl) rfl rfl
    · injection ho with ho; subst ho
      exact st3_6 W (w.heap.size + 2) A0 A1 A2 A3 A4 c0 c1 c2 c3 c4 x w' a _ u (pre ⟨32, .data⟩ (by simp) rfl _ 40 rfl rfl) rfl rfl rfl
    · injection ho with ho; subst ho
      exact st3_7 W (w.heap.size + 2) A0 A1 A2 A3 A4 c0 c1 c2 c3 c4 x w' a _ u m3 (pre ⟨29, .data⟩ (by simp) rfl _ 37 rfl rfl) (pre ⟨33, .data⟩ (by simp) rfl _ 41 rfl rfl) rfl rfl
    · injection ho with ho; subst ho
      exact st3_8 W (w.heap.size + 2) A0 A1 A2 A3 A4 c0 c1 c2 c3 c4 x w' a _ u R3.out (pre ⟨27, .data⟩ (by simp) rfl _ 35 rfl rfl) (pre ⟨34, .data⟩ (by simp) rfl _ 42 rfl rfl) rfl rfl
    · injection ho with ho; subst ho
      exact st4_0 W (w.heap.size + 2) A0 A1 A2 A3 A4 c0 c1 c2 c3 c4 x w' a _ u  rfl rfl
    · injection ho with ho; subst ho
      exact st4_1 W (w.heap.size + 2) A0 A1 A2 A3 A4 c0 c1 c2 c3 c4 x w' a _ u p1 rfl rfl
    · injection ho with ho; subst ho
      exact st4_2 W (w.heap.size + 2) A0 A1 A2 A3 A4 c0 c1 c2 c3 c4 x w' a _ u bx.out.2.2.2.2 (pre ⟨37, .data⟩ (by simp) rfl _ 45 rfl rfl) rfl rfl
    · injection ho with ho; subst ho
      exact st4_3 W (w.heap.size + 2) A0 A1 A2 A3 A4 c0 c1 c2 c3 c4 x w' a _ u p1 rfl rfl
    · injection ho with ho; subst ho
      exact st4_4 W (w.heap.size + 2) A0 A1 A2 A3 A4 c0 c1 c2 c3 c4 x w' a _ u bx.out.2.2.2.2 (pre ⟨39, .data⟩ (by simp) rfl _ 47 rfl rfl) rfl rfl
    · injection ho with ho; subst ho
      exact st4_5 W (w.heap.size + 2) A0 A1 A2 A3 A4 c0 c1 c2 c3 c4 x w' a _ u (pre ⟨40, .data⟩ (by simp) rfl _ 48 rfl rfl) rfl rfl
    · injection ho with ho; subst ho
      exact st4_6 W (w.heap.size + 2) A0 A1 A2 A3 A4 c0 c1 c2 c3 c4 x w' a _ u (pre ⟨41, .data⟩ (by simp) rfl _ 49 rfl rfl) rfl rfl rfl
    · injection ho with ho; subst ho
      exact st4_7 W (w.heap.size + 2) A0 A1 A2 A3 A4 c0 c1 c2 c3 c4 x w' a _ u m4 (pre ⟨38, .data⟩ (by simp) rfl _ 46 rfl rfl) (pre ⟨42, .data⟩ (by simp) rfl _ 50 rfl rfl) rfl rfl
    · injection ho with ho; subst ho
      exact st4_8 W (w.heap.size + 2) A0 A1 A2 A3 A4 c0 c1 c2 c3 c4 x w' a _ u R4.out (pre ⟨36, .data⟩ (by simp) rfl _ 44 rfl rfl) (pre ⟨43, .data⟩ (by simp) rfl _ 51 rfl rfl) rfl rfl
    · injection ho with ho; subst ho
      exact st_bld W (w.heap.size + 2) A0 A1 A2 A3 A4 c0 c1 c2 c3 c4 x w' a _ (pre ⟨8, .data⟩ (by simp) rfl _ 16 rfl rfl) (pre ⟨17, .data⟩ (by simp) rfl _ 25 rfl rfl) (pre ⟨26, .data⟩ (by simp) rfl _ 34 rfl rfl) (pre ⟨35, .data⟩ (by simp) rfl _ 43 rfl rfl) (pre ⟨44, .data⟩ (by simp) rfl _ 52 rfl rfl) rfl rfl
    · injection ho with ho; subst ho
      exact st_box W (w.heap.size + 2) A0 A1 A2 A3 A4 c0 c1 c2 c3 c4 x w' a _ u rfl rfl
  case last =>
    intro o ho a w' u sz df old all
    injection ho with ho; subst ho
    obtain ⟨b, h3, hbb, hbx⟩ := (show ∃ b, a.tmps.getD 4 undef = .pointer (some ⟨b, 0, none⟩) ∧ W.heap.size ≤ b ∧ w'.heap[b]? = some (.cells #[.slice none 0 0, .slice none 0 0, .slice none 0 0, .slice none 0 0, .slice none 0 0] 27 (0, 0)) from all 46 _ 4 (by omega) rfl rfl)
    have h50 : OwB w' W.heap.size (a.tmps.getD 53 undef) (cut5 x) := all 45 _ 53 (by omega) rfl rfl
    have h2 : a.tmps[2]? = some (.pointer (some ⟨w.heap.size + 1, 0, none⟩)) := (old 2 (by kernel_rfl)).trans rfl
    have h1 : a.tmps[1]? = some (.pointer (some ⟨w.heap.size, 0, none⟩)) := (old 1 (by kernel_rfl)).trans rfl
    obtain ⟨P0, q0, d0, P1, q1, d1, P2, q2, d2, P3, q3, d3, P4, q4, d4, e50⟩ := h50.rd.form
    rw [e50] at h50
    have HB := Lib.hid (five_heap hbx (.slice P0 q0 d0) (.slice P1 q1 d1) (.slice P2 q2 d2) (.slice P3 q3 d3) (.slice P4 q4 d4))
    have HO := Lib.hid (h50.five hbx (.slice P0 q0 d0) (.slice P1 q1 d1) (.slice P2 q2 d2) (.slice P3 q3 d3) (.slice P4 q4 d4))
    have HU := Lib.hid (u.five hbb (.slice P0 q0 d0) (.slice P1 q1 d1) (.slice P2 q2 d2) (.slice P3 q3 d3) (.slice P4 q4 d4))
    have FX := Lib.hid (Bx7.gb (gb_five (w := w') (V := w') (b := b) ((Up.refl w').gb _) (.slice P0 q0 d0) (.slice P1 q1 d1) (.slice P2 q2 d2) (.slice P3 q3 d3) (.slice P4 q4 d4)) (fx.out.up u) (by have := SZ.out; omega))
    refine wp_sto w' a _ 4 53 b P0 P1 P2 P3 P4 q0 q1 q2 q3 q4 d0 d1 d2 d3 d4 h3 e50 (bx_heap hbx).1 (bx_heap hbx).2 rfl rfl ?_
    clear e50 all old h50 hbx u bx fx R0 R1 R2 R3 R4 m0 m1 m2 m3 m4 n0 n1 n2 n3 n4
    generalize five w' b (.slice P0 q0 d0) (.slice P1 q1 d1) (.slice P2 q2 d2) (.slice P3 q3 d3) (.slice P4 q4 d4) = V at *
    obtain ⟨t, df'⟩ := a
    have sz' : t.size = 92 := sz
    obtain ⟨x0, x1, x2, x3, x4, x5, x6, x7, x8, x9, x10, x11, x12, x13, x14, x15, x16, x17, x18, x19, x20, x21, x22, x23, x24, x25, x26, x27, x28, x29, x30, x31, x32, x33, x34, x35, x36, x37, x38, x39, x40, x41, x42, x43, x44, x45, x46, x47, x48, x49, x50, x51, x52, x53, x54, x55, x56, x57, x58, x59, x60, x61, x62, x63, x64, x65, x66, x67, x68, x69, x70, x71, x72, x73, x74, x75, x76, x77, x78, x79, x80, x81, x82, x83, x84, x85, x86, x87, x88, x89, x90, x91, rfl⟩ := arr92 sz'
    have g2 : x2 = .pointer (some ⟨w.heap.size + 1, 0, none⟩) := Option.some.inj h2
    have g3 : x4 = .pointer (some ⟨b, 0, none⟩) := h3
    have g1 : x1 = .pointer (some ⟨w.heap.size, 0, none⟩) := Option.some.inj h1
    have gd : df' = [] := df
    subst g1 g2 g3 gd
    clear h1 h2 h3 df sz sz'
    have Q0 := HO.out.len
    have q40 : q0 ≤ 40 := by rw [Q0]; show (x.ks.take 40).length ≤ 40; rw [List.length_take]; omega
    rw [← cutI_zero x] at HO
    go_wp2_with fail
    go_loopw [5] (fun i wr => ∃ k : Nat, k ≤ q0 ∧ i = .int .i64 k ∧ OwB wr W.heap.size (.agg #[.slice P0 q0 d0, .slice P1 q1 d1, .slice P2 q2 d2, .slice P3 q3 d3, .slice P4 q4 d4]) (cutI x k) ∧ Bx7 wr w.heap.size (.int .i64 ver) (.slice A0 x.ks.length c0) (.slice A1 x.js.length c1) (.slice A2 x.ls.length c2) (.slice A3 x.sd.length c3) (.slice A4 x.ut.length c4) (.string ft) ∧ wr.heap[b]? = some (.cells #[.slice P0 q0 d0, .slice P1 q1 d1, .slice P2 q2 d2, .slice P3 q3 d3, .slice P4 q4 d4] 27 (0, 0)) ∧ Up W wr) (fun i _ => q0 - (intOf i).toNat)
    case atStart => exact ⟨0, Nat.zero_le _, rfl, HO.out, FX.out, HB.out, HU.out⟩
    case round =>
      clear HO HB HU
      obtain ⟨k, hk, rfl, ho, hfx, hb, hu⟩ := hrel
      have HO := Lib.hid ho
      have HF := Lib.hid hfx
      have HB := Lib.hid hb
      have HU := Lib.hid hu
      clear ho hfx hb hu
      by_cases hlt : k < q0
      · have kl : k < (cutI x k).ks.length := by show k < (mixK (cut5 x).ks k).length; rw [mixK_len]; omega
        obtain ⟨g, rfl, hg, cx2, f2, cs, hh⟩ := HO.out.knd kl
        have eg : (cutI x k).ks.getD k k0 = (cut5 x).ks.getD k k0 := mixK_get (by omega)
        have SE : Hid ((mixK (cut5 x).ks k).set k (cutK ((cut5 x).ks.getD k k0)) = mixK (cut5 x).ks (k + 1)) := mixK_set (by omega)
        have bg : b ≠ g := fun e => by
          rw [← e, HB.out] at hh
          injection hh with hh
          injection hh with _ hh
          exact absurd hh (by decide)
        rw [eg] at cx2
        obtain ⟨x0, x1, x2, x3, x4⟩ := (bx_heap HB.out).1
        have b6 : (k : Int) < (q0 : Int) := by omega
        have b8 : (0 : Int) ≤ (k : Int) := by omega
        have e1 : Hid (cutK ((cut5 x).ks.getD k k0) = ⟨((cut5 x).ks.getD k k0).off, ((cut5 x).ks.getD k k0).dst, cut60 ((cut5 x).ks.getD k k0).name⟩) := rfl
        have e2 : Hid (cut60 ((cut5 x).ks.getD k k0).name = (((cut5 x).ks.getD k k0).name).extract 0 (min ((((cut5 x).ks.getD k k0).name).size : Int) 60).toNat) := rfl
        go_wp2_with fail
        refine wp_region_still_tail 20 (by kernel_rfl) (by kernel_rfl) ?_
        replace x0 : ({ wr with drawn := wr.drawn + 1 } : World).cell? ⟨b, 0, none⟩ = some (.slice (some ⟨g, 0, none⟩) q0 d0) := x0
        replace cx2 : ({ wr with drawn := wr.drawn + 1 } : World).cell? ⟨g, k * 3 + 2, none⟩ = some (.string ((cut5 x).ks.getD k k0).name) := cx2
        replace f2 : ({ wr with drawn := wr.drawn + 1 } : World).frozen? ⟨g, k * 3 + 2, none⟩ = false := f2
        replace HF := Lib.hid (HF.out.up (Up.drewN wr 1))
        replace HF : Hid (Bx7 ({ wr with drawn := wr.drawn + 1 } : World) w.heap.size (.int .i64 ver) (.slice A0 x.ks.length c0) (.slice A1 x.js.length c1) (.slice A2 x.ls.length c2) (.slice A3 x.sd.length c3) (.slice A4 x.ut.length c4) (.string ft)) := HF
        replace HU : Hid (Up W ({ wr with drawn := wr.drawn + 1 } : World)) := Lib.hid (HU.out.drewN' 1)
        replace HB : Hid (({ wr with drawn := wr.drawn + 1 } : World).heap[b]? = some (.cells #[.slice (some ⟨g, 0, none⟩) q0 d0, .slice P1 q1 d1, .slice P2 q2 d2, .slice P3 q3 d3, .slice P4 q4 d4] 27 (0, 0))) := HB
        replace HO : Hid (OwB ({ wr with drawn := wr.drawn + 1 } : World) W.heap.size (.agg #[.slice (some ⟨g, 0, none⟩) q0 d0, .slice P1 q1 d1, .slice P2 q2 d2, .slice P3 q3 d3, .slice P4 q4 d4]) (cutI x k)) := Lib.hid (HO.out.up (Up.drewN wr 1))
        clear x1 x2 x3 x4
        generalize ({ wr with drawn := wr.drawn + 1 } : World) = V' at *
        have KB := Lib.hid (HO.out.name kl (cut60 ((cut5 x).ks.getD k k0).name))
        rw [eg, ← e1.out, show (cutI x k).ks = mixK (cut5 x).ks k from rfl, SE.out] at KB
        rw [show (⟨mixK (cut5 x).ks (k + 1), (cutI x k).js, (cutI x k).ls, (cutI x k).sd, (cutI x k).ut⟩ : Blk) = cutI x (k + 1) from rfl, e2.out] at KB
        have HF' := Lib.hid (Bx7.gb (gb_set (w := V') (V := V') (b := g) ((Up.refl V').gb _) (k * 3 + 2) (.string ((((cut5 x).ks.getD k k0).name).extract 0 (min ((((cut5 x).ks.getD k k0).name).size : Int) 60).toNat))) HF.out (by have := SZ.out; omega))
        have HB' := Lib.hid ((Below.heap_setCell V' ⟨g, k * 3 + 2, none⟩ (.string ((((cut5 x).ks.getD k k0).name).extract 0 (min ((((cut5 x).ks.getD k k0).name).size : Int) 60).toNat)) b bg).trans HB.out)
        have HU' := Lib.hid (HU.out.setCell' (p := ⟨g, k * 3 + 2, none⟩) hg (.string ((((cut5 x).ks.getD k k0).name).extract 0 (min ((((cut5 x).ks.getD k k0).name).size : Int) 60).toNat)))
        generalize ((cut5 x).ks.getD k k0).name = nm at *
        have z1 : (0 : Int) ≤ min (nm.size : Int) 60 := by omega
        have z2 : min (nm.size : Int) 60 ≤ (nm.size : Int) := by omega
        clear HO HB HU HF e1 e2 SE eg
        simp only [List.take_succ_cons, List.take_zero, List.drop_succ_cons, List.drop_zero]
        repeat still_step
        refine wpStill_nil ?_
        go_wp2_with fail
        go_roundw
        case rel => exact ⟨k + 1, by omega, by go_num, KB.out, HF'.out, HB'.out, HU'.out⟩
        case measure => simp [intOf]; omega
      · have hkq : k = q0 := by omega
        subst hkq
        rw [Q0, cutI_end] at HO
        obtain ⟨x0, x1, x2, x3, x4⟩ := (bx_heap HB.out).1
        clear x0 x1 x2 x3 x4
        rw [Q0] at HB
        have HR := heap_up HU.out rx.out
        obtain ⟨x0, x1, x2, x3, x4⟩ := (bx_heap HB.out).1
        go_wp2_with fail
        clear x0 x1 x2 x3 x4
        refine wp_region_still_tail 11 (by kernel_rfl) (by kernel_rfl) ?_
        have k1 : Hid (Bx7 ({ wr with drawn := wr.drawn + 1 } : World) w.heap.size (.int .i64 ver) (.slice A0 x.ks.length c0) (.slice A1 x.js.length c1) (.slice A2 x.ls.length c2) (.slice A3 x.sd.length c3) (.slice A4 x.ut.length c4) (.string ft)) := Lib.hid (HF.out.up (Up.drewN wr 1))
        have k2 : Hid (Bx5 ({ wr with drawn := wr.drawn + 1 } : World) b (.slice P0 (cut5 x).ks.length d0) (.slice P1 q1 d1) (.slice P2 q2 d2) (.slice P3 q3 d3) (.slice P4 q4 d4)) := Lib.hid ((bx_heap HB.out).1.up (Up.drewN wr 1))
        have k3 : Hid (({ wr with drawn := wr.drawn + 1 } : World).heap[w.heap.size + 1]? = some (.cells #[.int .i64 0, .slice none 0 0, .slice none 0 0, .slice none 0 0, .slice none 0 0, .slice none 0 0, .string ⟨#[]⟩] 29 (0, 0))) := Lib.hid (heap_up (Up.drewN wr 1) HR)
        have k4 : Hid (OwB ({ wr with drawn := wr.drawn + 1 } : World) W.heap.size (.agg #[.slice P0 (cut5 x).ks.length d0, .slice P1 q1 d1, .slice P2 q2 d2, .slice P3 q3 d3, .slice P4 q4 d4]) (cutB x)) := Lib.hid (HO.out.up (Up.drewN wr 1))
        have k5 : Hid (Up W ({ wr with drawn := wr.drawn + 1 } : World)) := Lib.hid (HU.out.drewN' 1)
        clear HU HB HO HR FX HF
        generalize ({ wr with drawn := wr.drawn + 1 } : World) = V' at *
        obtain ⟨⟨y0, y1, y2, y3, y4, y5, y6⟩, _, fz⟩ := bx7_heap k3.out
        have z0 := fz 0; have z1 := fz 1; have z2 := fz 2; have z3 := fz 3; have z4 := fz 4; have z5 := fz 5; have z6 := fz 6
        clear fz
        obtain ⟨l0, _, _, _, _, _, l6⟩ := k1.out
        obtain ⟨x0, x1, x2, x3, x4⟩ := k2.out
        obtain ⟨tt, htt⟩ : ∃ tt, ft.extract 0 (min (ft.size : Int) 110).toNat = tt := ⟨_, rfl⟩
        have ett : Hid (cutF ⟨ver, x, ft⟩ = ⟨ver, cutB x, tt⟩) := by rw [← htt]; exact Lib.hid rfl
        have e1 : (0 : Int) ≤ min (ft.size : Int) 110 := by omega
        have e2 : min (ft.size : Int) 110 ≤ (ft.size : Int) := by omega
        have UF := Lib.hid (Up.seven (UW.out.trans k5.out) (b := w.heap.size + 1) (by omega) (.int .i64 ver) (.slice P0 (cut5 x).ks.length d0) (.slice P1 q1 d1) (.slice P2 q2 d2) (.slice P3 q3 d3) (.slice P4 q4 d4) (.string tt))
        have OF := Lib.hid ((k4.out.seven k3.out (.int .i64 ver) (.slice P0 (cut5 x).ks.length d0) (.slice P1 q1 d1) (.slice P2 q2 d2) (.slice P3 q3 d3) (.slice P4 q4 d4) (.string tt)).base UW.out.size)
        clear k1 k2 k3 k4 k5
        simp only [List.take_succ_cons, List.take_zero, List.drop_succ_cons, List.drop_zero]
        repeat still_step
        refine wpStill_nil ?_
        go_wp2_with fail
        refine bodyPost_ret (v := .agg #[.int .i64 ver, .slice P0 (cut5 x).ks.length d0, .slice P1 q1 d1, .slice P2 q2 d2, .slice P3 q3 d3, .slice P4 q4 d4, .string tt]) (by simp [results, Tryz.results6, go_sem, y0, y1, y2, y3, y4, y5, y6]) rfl ?_
        exact ⟨_, rfl, by rw [ett.out]; exact ⟨_, _, _, _, _, rfl, OF.out⟩, UF.out⟩
end Go.Proofs.YtaljddoenjgbfaaGreat
