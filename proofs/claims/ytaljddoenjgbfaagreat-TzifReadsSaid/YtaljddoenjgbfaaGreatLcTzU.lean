/-
  The program's file: tell, Encode.
-/
import Derived.Test.YtaljddoenjgbfaaGreatLcTzT
namespace Go.Proofs.YtaljddoenjgbfaaGreat
open Go.ChangeShapes Go.WideShapes Go.ChangeAt Go.RowKit Lc

set_option maxRecDepth 100000 in
theorem put_at {a : Act} {v : Value} {d : Tmp} (hd : d < a.tmps.size) : (a.put (some d) v).tmps.getD d undef = v := by
  simp [Act.put, Array.getD_eq_getD_getElem?, Array.getElem?_setIfInBounds_self_of_lt hd]
set_option maxRecDepth 100000 in
theorem tx_lines (ft : ByteArray) : tx (⟨#[10]⟩ ++ ft ++ ⟨#[10]⟩) = 10 :: (tx ft ++ [10]) := by
  unfold tx
  rw [ByteArray.data_append, ByteArray.data_append]
  simp

set_option maxRecDepth 100000 in
set_option maxHeartbeats 4000000 in
theorem tell_one (v : Value) (f : Fil) (w : World) (hs : FlR w v f) (hr : rightF f = true) (hv1 : f.ver = 1) :
    Calls Tryz.prog 15 #[v] w fun e w' => ∃ v', e = .returned v' ∧ Ow w' w.heap.size v' (encF f) ∧ Up w w' := by
  obtain ⟨h1, h4, hb, hf⟩ := rightF_parts hr
  obtain ⟨A0, n0, c0, A1, n1, c1, A2, n2, c2, A3, n3, c3, A4, n4, c4, rfl, hk⟩ := hs.form
  have UA := Lib.hid (Up.alloc w (.cells #[.int .i64 f.ver, .slice A0 n0 c0, .slice A1 n1 c1, .slice A2 n2 c2, .slice A3 n3 c3, .slice A4 n4 c4, .string f.foot] 29))
  have X0 := Lib.hid (Bx7.new w (.int .i64 f.ver) (.slice A0 n0 c0) (.slice A1 n1 c1) (.slice A2 n2 c2) (.slice A3 n3 c3) (.slice A4 n4 c4) (.string f.foot) 29)
  have M := Lib.hid (fun W => msize_any f.ver W)
  rw [mz_nat] at M
  have PT := Lib.hid (fun W (u : Up w W) => part_yes _ f.blk (mzN f.ver) f.ver W (hk.up u) h1 h4 hb)
  have EF : encF f = partB f.blk 4 1 := by unfold encF; rw [if_pos hv1]
  rw [EF]
  rw [hv1] at PT M X0 UA ⊢
  rw [show mzN 1 = 4 from rfl] at PT M
  generalize partB f.blk 4 1 = PB at *
  clear hs hk hr hb hf EF hv1 h1 h4
  generalize f.foot = ft at *
  go_enter Tryz.func15, Tryz.ntmps15
  go_wp2_with fail
  generalize w.alloc (.cells #[.int .i64 1, .slice A0 n0 c0, .slice A1 n1 c1, .slice A2 n2 c2, .slice A3 n3 c3, .slice A4 n4 c4, .string ft] 29) = W at *
  have hBs := UA.out.size
  generalize hB : w.heap.size = B at *
  obtain ⟨x0, x1, x2, x3, x4, x5, x6⟩ := X0.out
  refine wp_region_fin (s := 8) (late := fun _ => false) (G := tG B B 1 4 (.agg #[.slice A0 n0 c0, .slice A1 n1 c1, .slice A2 n2 c2, .slice A3 n3 c3, .slice A4 n4 c4]) PB) (N := fun _ _ => True) (T := fun a w9 => Ow w9 B (a.tmps.getD 3 undef) PB ∧ Up W w9) (by kernel_rfl) (by show (8 : Nat) < 9; decide) rfl (by kernel_rfl) (by kernel_rfl) (by kernel_rfl) tG_up (fun _ _ _ _ => trivial) ?step ?pure ?store ?keep ?fin
  case pure => intro i o h; cases h
  case keep => intro a w' i p d v h; cases h
  case step =>
    intro i o his hla ho a w' u old pre
    have p1 : a.tmps.getD 1 undef = .pointer (some ⟨B, 0, none⟩) := getD_some ((old 1 (by kernel_rfl)).trans rfl)
    clear old
    have hi := lt_of_get ho
    have hi' : i = 0 ∨ i = 1 ∨ i = 2 ∨ i = 3 ∨ i = 4 ∨ i = 5 ∨ i = 6 ∨ i = 7 ∨ i = 8 := by have : i < 9 := hi; omega
    rcases hi' with rfl | rfl | rfl | rfl | rfl | rfl | rfl | rfl | rfl
    · injection ho with ho; subst ho
      exact wp_val (v := .pointer (some ⟨B, 1, none⟩)) (w' := w') (by unfold execOp; simp [go_sem, tg p1]) ⟨_, rfl, fun d hd => (by injection hd with hd; subst hd; rfl), u, .inl (Up.refl _)⟩
    · injection ho with ho; subst ho
      have q : a.tmps.getD 4 undef = .pointer (some ⟨B, 1, none⟩) := pre ⟨0, .data⟩ (by simp) rfl _ 4 rfl rfl
      have e1 := u.cell x1; have e2 := u.cell x2; have e3 := u.cell x3; have e4 := u.cell x4; have e5 := u.cell x5
      exact wp_val (v := .agg #[.slice A0 n0 c0, .slice A1 n1 c1, .slice A2 n2 c2, .slice A3 n3 c3, .slice A4 n4 c4]) (w' := w') (by unfold execOp; simp [go_sem, tg q, e1, e2, e3, e4, e5]) ⟨_, rfl, fun d hd => (by injection hd with hd; subst hd; rfl), u, .inl (Up.refl _)⟩
    · injection ho with ho; subst ho
      exact wp_val (v := .pointer (some ⟨B, 0, none⟩)) (w' := w') (by unfold execOp; simp [go_sem, tg p1]) ⟨_, rfl, fun d hd => (by injection hd with hd; subst hd; rfl), u, .inl (Up.refl _)⟩
    · injection ho with ho; subst ho
      have q : a.tmps.getD 6 undef = .pointer (some ⟨B, 0, none⟩) := pre ⟨2, .data⟩ (by simp) rfl _ 6 rfl rfl
      have e0 := u.cell x0
      exact wp_val (v := .int .i64 1) (w' := w') (by unfold execOp; simp [go_sem, tg q, e0]) ⟨_, rfl, fun d hd => (by injection hd with hd; subst hd; rfl), u, .inl (Up.refl _)⟩
    · injection ho with ho; subst ho
      have q : a.tmps.getD 7 undef = .int .i64 1 := pre ⟨3, .data⟩ (by simp) rfl _ 7 rfl rfl
      refine wp_ms 7 _ _ rfl q ((M.out w').mono ?_)
      rintro e w9 ⟨rfl, rfl⟩
      exact ⟨_, rfl, _, rfl, fun d hd => (by injection hd with hd; subst hd; rfl), u, .inl (Up.refl _)⟩
    · injection ho with ho; subst ho
      exact wp_val (v := .pointer (some ⟨B, 0, none⟩)) (w' := w') (by unfold execOp; simp [go_sem, tg p1]) ⟨_, rfl, fun d hd => (by injection hd with hd; subst hd; rfl), u, .inl (Up.refl _)⟩
    · injection ho with ho; subst ho
      have q : a.tmps.getD 9 undef = .pointer (some ⟨B, 0, none⟩) := pre ⟨5, .data⟩ (by simp) rfl _ 9 rfl rfl
      have e0 := u.cell x0
      exact wp_val (v := .int .i64 1) (w' := w') (by unfold execOp; simp [go_sem, tg q, e0]) ⟨_, rfl, fun d hd => (by injection hd with hd; subst hd; rfl), u, .inl (Up.refl _)⟩
    · injection ho with ho; subst ho
      have q5 : a.tmps.getD 5 undef = .agg #[.slice A0 n0 c0, .slice A1 n1 c1, .slice A2 n2 c2, .slice A3 n3 c3, .slice A4 n4 c4] := pre ⟨1, .data⟩ (by simp) rfl _ 5 rfl rfl
      have q8 : a.tmps.getD 8 undef = .int .i64 4 := pre ⟨4, .data⟩ (by simp) rfl _ 8 rfl rfl
      have q10 : a.tmps.getD 10 undef = .int .i64 1 := pre ⟨6, .data⟩ (by simp) rfl _ 10 rfl rfl
      refine wp_part 5 8 10 _ _ _ _ rfl q5 q8 q10 ((PT.out w' (UA.out.trans u)).mono ?_)
      rintro e w9 ⟨v9, rfl, o9, u9⟩
      exact ⟨_, rfl, _, rfl, fun d hd => (by injection hd with hd; subst hd; exact (o9.base (hB ▸ (UA.out.trans u).size))), u.trans u9, .inl u9⟩
    · exact absurd rfl his
  case store =>
    intro o ho a w' u sz old pre
    injection ho with ho; subst ho
    have q : Ow w' B (a.tmps.getD 11 undef) PB := pre ⟨7, .data⟩ (by simp) rfl _ 11 rfl rfl
    refine wp_val (v := a.tmps.getD 11 undef) (w' := w') (by unfold execOp; simp [go_sem]) ⟨_, rfl, fun _ _ => trivial, ?_, u⟩
    have : (a.put (some 3) (a.tmps.getD 11 undef)).tmps.getD 3 undef = a.tmps.getD 11 undef := put_at (by rw [show a.tmps.size = 28 from sz]; decide)
    show Ow w' B ((a.put (some 3) (a.tmps.getD 11 undef)).tmps.getD 3 undef) PB
    rw [this]; exact q
  case fin =>
    intro a w2 sz df old hT _
    have h0 := old 0 (by kernel_rfl)
    have h1 := old 1 (by kernel_rfl)
    have h2 := old 2 (by kernel_rfl)
    obtain ⟨t, df'⟩ := a
    have sz' : t.size = 28 := sz
    obtain ⟨y0, y1, y2, y3, y4, y5, y6, y7, y8, y9, y10, y11, y12, y13, y14, y15, y16, y17, y18, y19, y20, y21, y22, y23, y24, y25, y26, y27, rfl⟩ := arr28 sz'
    have g0 : y0 = .agg #[.int .i64 1, .slice A0 n0 c0, .slice A1 n1 c1, .slice A2 n2 c2, .slice A3 n3 c3, .slice A4 n4 c4, .string ft] := Option.some.inj h0
    have g1 : y1 = .pointer (some ⟨B, 0, none⟩) := Option.some.inj h1
    have g2 : y2 = .slice none 0 0 := Option.some.inj h2
    have gd : df' = [] := df
    obtain ⟨o3, u3⟩ := (show Ow w2 B y3 PB ∧ Up W w2 from hT)
    subst g0 g1 g2 gd
    clear h0 h1 h2 df sz sz' old hT
    obtain ⟨P3, d3, rfl, _⟩ := o3.form
    have e0 := u3.cell x0
    have U3 := Lib.hid (UA.out.trans u3)
    clear M PT X0 UA u3 x0 x1 x2 x3 x4 x5 x6
    go_wp2_with fail
    go_ret
    exact ⟨_, rfl, by rw [hB]; exact o3, U3.out⟩

/-- What the slots of tell's second region hold. -/
def uG (B b1 : Nat) (ver : Int) (sv : Value) (L1 L2 : List UInt8) (t : Tmp) (v : Value) (w : World) : Prop :=
  if t = 16 then BkR w v shB else if t = 17 then v = .pointer (some ⟨B, 0, none⟩) else if t = 18 then v = .int .i64 ver else if t = 19 then Ow w b1 v L1 else if t = 20 then v = sv else if t = 21 then Ow w b1 v (L1 ++ L2) else True
set_option maxRecDepth 100000 in
theorem uG_up {B b1 : Nat} {ver : Int} {sv : Value} {L1 L2 : List UInt8} (t : Tmp) (v : Value) (w w' : World) (h : uG B b1 ver sv L1 L2 t v w) (u : Up w w') : uG B b1 ver sv L1 L2 t v w' := by
  unfold uG at *
  repeat' split at h
  all_goals (first | exact h | (simp_all; done) | (simp_all; exact h.up u) | (simp_all; exact BkR.up h u))
set_option maxRecDepth 100000 in
set_option maxHeartbeats 4000000 in
theorem tell_more (v : Value) (f : Fil) (w : World) (hs : FlR w v f) (hr : rightF f = true) (hv1 : f.ver ≠ 1) :
    Calls Tryz.prog 15 #[v] w fun e w' => ∃ v', e = .returned v' ∧ Ow w' w.heap.size v' (encF f) ∧ Up w w' := by
  obtain ⟨h1, h4, hb, hf⟩ := rightF_parts hr
  obtain ⟨A0, n0, c0, A1, n1, c1, A2, n2, c2, A3, n3, c3, A4, n4, c4, rfl, hk⟩ := hs.form
  have UA := Lib.hid (Up.alloc w (.cells #[.int .i64 f.ver, .slice A0 n0 c0, .slice A1 n1 c1, .slice A2 n2 c2, .slice A3 n3 c3, .slice A4 n4 c4, .string f.foot] 29))
  have X0 := Lib.hid (Bx7.new w (.int .i64 f.ver) (.slice A0 n0 c0) (.slice A1 n1 c1) (.slice A2 n2 c2) (.slice A3 n3 c3) (.slice A4 n4 c4) (.string f.foot) 29)
  have M := Lib.hid (fun W => msize_any f.ver W)
  rw [mz_nat] at M
  have PT := Lib.hid (fun W (u : Up w W) => part_yes _ f.blk (mzN f.ver) f.ver W (hk.up u) h1 h4 hb)
  have SB := Lib.hid (fun W => short_any W)
  have SP := Lib.hid (fun W v (k : BkR W v shB) => part_yes v shB 4 f.ver W k h1 h4 shB_right)
  have SL := Lib.hid (partB_bd (z := 4) (v := f.ver) (shB_right (ver := f.ver)))
  have PL := Lib.hid (partB_bd (v := f.ver) hb)
  have FS : f.foot.size ≤ 100 := by unfold rfB at hf; rw [if_neg hv1] at hf; simp only [Bool.and_eq_true, decide_eq_true_eq] at hf; exact hf.1
  have EF : encF f = (partB shB 4 f.ver ++ partB f.blk 8 f.ver) ++ (10 :: (tx f.foot ++ [10])) := by unfold encF; rw [if_neg hv1]
  rw [EF]
  rw [show mzN f.ver = 8 by unfold mzN; rw [if_neg hv1]] at PT M PL
  have hw1 : (f.ver == 1) = false := by simpa using hv1
  generalize partB f.blk 8 f.ver = PB at *
  generalize partB shB 4 f.ver = QB at *
  clear hs hk hr hb hf EF hv1 h1 h4
  generalize f.foot = ft at *
  generalize f.ver = ver at *
  go_enter Tryz.func15, Tryz.ntmps15
  go_wp2_with fail
  generalize w.alloc (.cells #[.int .i64 ver, .slice A0 n0 c0, .slice A1 n1 c1, .slice A2 n2 c2, .slice A3 n3 c3, .slice A4 n4 c4, .string ft] 29) = W at *
  have hBs := UA.out.size
  generalize hB : w.heap.size = B at *
  obtain ⟨x0, x1, x2, x3, x4, x5, x6⟩ := X0.out
  refine wp_region_fin (s := 8) (late := fun _ => false) (G := tG B B ver 8 (.agg #[.slice A0 n0 c0, .slice A1 n1 c1, .slice A2 n2 c2, .slice A3 n3 c3, .slice A4 n4 c4]) PB) (N := fun _ _ => True) (T := fun a w9 => Ow w9 B (a.tmps.getD 3 undef) PB ∧ Up W w9) (by kernel_rfl) (by show (8 : Nat) < 9; decide) rfl (by kernel_rfl) (by kernel_rfl) (by kernel_rfl) tG_up (fun _ _ _ _ => trivial) ?step ?pure ?store ?keep ?fin
  case pure => intro i o h; cases h
  case keep => intro a w' i p d v h; cases h
  case step =>
    intro i o his hla ho a w' u old pre
    have p1 : a.tmps.getD 1 undef = .pointer (some ⟨B, 0, none⟩) := getD_some ((old 1 (by kernel_rfl)).trans rfl)
    clear old
    have hi := lt_of_get ho
    have hi' : i = 0 ∨ i = 1 ∨ i = 2 ∨ i = 3 ∨ i = 4 ∨ i = 5 ∨ i = 6 ∨ i = 7 ∨ i = 8 := by have : i < 9 := hi; omega
    rcases hi' with rfl | rfl | rfl | rfl | rfl | rfl | rfl | rfl | rfl
    · injection ho with ho; subst ho
      exact wp_val (v := .pointer (some ⟨B, 1, none⟩)) (w' := w') (by unfold execOp; simp [go_sem, tg p1]) ⟨_, rfl, fun d hd => (by injection hd with hd; subst hd; rfl), u, .inl (Up.refl _)⟩
    · injection ho with ho; subst ho
      have q : a.tmps.getD 4 undef = .pointer (some ⟨B, 1, none⟩) := pre ⟨0, .data⟩ (by simp) rfl _ 4 rfl rfl
      have e1 := u.cell x1; have e2 := u.cell x2; have e3 := u.cell x3; have e4 := u.cell x4; have e5 := u.cell x5
      exact wp_val (v := .agg #[.slice A0 n0 c0, .slice A1 n1 c1, .slice A2 n2 c2, .slice A3 n3 c3, .slice A4 n4 c4]) (w' := w') (by unfold execOp; simp [go_sem, tg q, e1, e2, e3, e4, e5]) ⟨_, rfl, fun d hd => (by injection hd with hd; subst hd; rfl), u, .inl (Up.refl _)⟩
    · injection ho with ho; subst ho
      exact wp_val (v := .pointer (some ⟨B, 0, none⟩)) (w' := w') (by unfold execOp; simp [go_sem, tg p1]) ⟨_, rfl, fun d hd => (by injection hd with hd; subst hd; rfl), u, .inl (Up.refl _)⟩
    · injection ho with ho; subst ho
      have q : a.tmps.getD 6 undef = .pointer (some ⟨B, 0, none⟩) := pre ⟨2, .data⟩ (by simp) rfl _ 6 rfl rfl
      have e0 := u.cell x0
      exact wp_val (v := .int .i64 ver) (w' := w') (by unfold execOp; simp [go_sem, tg q, e0]) ⟨_, rfl, fun d hd => (by injection hd with hd; subst hd; rfl), u, .inl (Up.refl _)⟩
    · injection ho with ho; subst ho
      have q : a.tmps.getD 7 undef = .int .i64 ver := pre ⟨3, .data⟩ (by simp) rfl _ 7 rfl rfl
      refine wp_ms 7 _ _ rfl q ((M.out w').mono ?_)
      rintro e w9 ⟨rfl, rfl⟩
      exact ⟨_, rfl, _, rfl, fun d hd => (by injection hd with hd; subst hd; rfl), u, .inl (Up.refl _)⟩
    · injection ho with ho; subst ho
      exact wp_val (v := .pointer (some ⟨B, 0, none⟩)) (w' := w') (by unfold execOp; simp [go_sem, tg p1]) ⟨_, rfl, fun d hd => (by injection hd with hd; subst hd; rfl), u, .inl (Up.refl _)⟩
    · injection ho with ho; subst ho
      have q : a.tmps.getD 9 undef = .pointer (some ⟨B, 0, none⟩) := pre ⟨5, .data⟩ (by simp) rfl _ 9 rfl rfl
      have e0 := u.cell x0
      exact wp_val (v := .int .i64 ver) (w' := w') (by unfold execOp; simp [go_sem, tg q, e0]) ⟨_, rfl, fun d hd => (by injection hd with hd; subst hd; rfl), u, .inl (Up.refl _)⟩
    · injection ho with ho; subst ho
      have q5 : a.tmps.getD 5 undef = .agg #[.slice A0 n0 c0, .slice A1 n1 c1, .slice A2 n2 c2, .slice A3 n3 c3, .slice A4 n4 c4] := pre ⟨1, .data⟩ (by simp) rfl _ 5 rfl rfl
      have q8 : a.tmps.getD 8 undef = .int .i64 8 := pre ⟨4, .data⟩ (by simp) rfl _ 8 rfl rfl
      have q10 : a.tmps.getD 10 undef = .int .i64 ver := pre ⟨6, .data⟩ (by simp) rfl _ 10 rfl rfl
      refine wp_part 5 8 10 _ _ _ _ rfl q5 q8 q10 ((PT.out w' (UA.out.trans u)).mono ?_)
      rintro e w9 ⟨v9, rfl, o9, u9⟩
      exact ⟨_, rfl, _, rfl, fun d hd => (by injection hd with hd; subst hd; exact (o9.base (hB ▸ (UA.out.trans u).size))), u.trans u9, .inl u9⟩
    · exact absurd rfl his
  case store =>
    intro o ho a w' u sz old pre
    injection ho with ho; subst ho
    have q : Ow w' B (a.tmps.getD 11 undef) PB := pre ⟨7, .data⟩ (by simp) rfl _ 11 rfl rfl
    refine wp_val (v := a.tmps.getD 11 undef) (w' := w') (by unfold execOp; simp [go_sem]) ⟨_, rfl, fun _ _ => trivial, ?_, u⟩
    have : (a.put (some 3) (a.tmps.getD 11 undef)).tmps.getD 3 undef = a.tmps.getD 11 undef := put_at (by rw [show a.tmps.size = 28 from sz]; decide)
    show Ow w' B ((a.put (some 3) (a.tmps.getD 11 undef)).tmps.getD 3 undef) PB
    rw [this]; exact q
  case fin =>
    intro a w2 sz df old hT _
    have h0 := old 0 (by kernel_rfl)
    have h1 := old 1 (by kernel_rfl)
    have h2 := old 2 (by kernel_rfl)
    obtain ⟨t, df'⟩ := a
    have sz' : t.size = 28 := sz
    obtain ⟨y0, y1, y2, y3, y4, y5, y6, y7, y8, y9, y10, y11, y12, y13, y14, y15, y16, y17, y18, y19, y20, y21, y22, y23, y24, y25, y26, y27, rfl⟩ := arr28 sz'
    have g0 : y0 = .agg #[.int .i64 ver, .slice A0 n0 c0, .slice A1 n1 c1, .slice A2 n2 c2, .slice A3 n3 c3, .slice A4 n4 c4, .string ft] := Option.some.inj h0
    have g1 : y1 = .pointer (some ⟨B, 0, none⟩) := Option.some.inj h1
    have g2 : y2 = .slice none 0 0 := Option.some.inj h2
    have gd : df' = [] := df
    obtain ⟨o3, u3⟩ := (show Ow w2 B y3 PB ∧ Up W w2 from hT)
    subst g0 g1 g2 gd
    clear h0 h1 h2 df sz sz' old hT
    obtain ⟨P3, d3, rfl, i3, j3, r3, _⟩ := o3.form
    have X3 := Lib.hid (X0.out.up u3)
    have U3 := Lib.hid (UA.out.trans u3)
    have R3 := Lib.hid r3
    clear M PT X0 UA u3 o3 r3 x0 x1 x2 x3 x4 x5 x6
    obtain ⟨x0, x1, x2, x3, x4, x5, x6⟩ := X3.out
    go_wp2_with fail
    refine wp_region_fin (s := 6) (late := fun _ => false) (G := uG B w2.heap.size ver (.slice P3 PB.length d3) QB PB) (N := fun _ _ => True) (T := fun a w9 => Ow w9 w2.heap.size (a.tmps.getD 3 undef) (QB ++ PB) ∧ Up w2 w9) (by kernel_rfl) (by show (6 : Nat) < 7; decide) rfl (by kernel_rfl) (by kernel_rfl) (by kernel_rfl) uG_up (fun _ _ _ _ => trivial) ?step ?pure ?store ?keep ?fin
    case pure => intro i o h; cases h
    case keep => intro a w' i p d v h; cases h
    case step =>
      intro i o his hla ho a w' u old pre
      have p1 : a.tmps.getD 1 undef = .pointer (some ⟨B, 0, none⟩) := getD_some ((old 1 (by kernel_rfl)).trans rfl)
      have p3 : a.tmps.getD 3 undef = .slice P3 PB.length d3 := getD_some ((old 3 (by kernel_rfl)).trans rfl)
      clear old
      have hi := lt_of_get ho
      have hi' : i = 0 ∨ i = 1 ∨ i = 2 ∨ i = 3 ∨ i = 4 ∨ i = 5 ∨ i = 6 := by have : i < 7 := hi; omega
      rcases hi' with rfl | rfl | rfl | rfl | rfl | rfl | rfl
      · injection ho with ho; subst ho
        refine wp_short _ rfl ((SB.out w').mono ?_)
        rintro e w9 ⟨v9, rfl, k9, u9⟩
        exact ⟨_, rfl, _, rfl, fun d hd => (by injection hd with hd; subst hd; exact k9), u.trans u9, .inl u9⟩
      · injection ho with ho; subst ho
        exact wp_val (v := .pointer (some ⟨B, 0, none⟩)) (w' := w') (by unfold execOp; simp [go_sem, tg p1]) ⟨_, rfl, fun d hd => (by injection hd with hd; subst hd; rfl), u, .inl (Up.refl _)⟩
      · injection ho with ho; subst ho
        have q : a.tmps.getD 17 undef = .pointer (some ⟨B, 0, none⟩) := pre ⟨1, .data⟩ (by simp) rfl _ 17 rfl rfl
        have e0 := u.cell x0
        exact wp_val (v := .int .i64 ver) (w' := w') (by unfold execOp; simp [go_sem, tg q, e0]) ⟨_, rfl, fun d hd => (by injection hd with hd; subst hd; rfl), u, .inl (Up.refl _)⟩
      · injection ho with ho; subst ho
        have q16 : BkR w' (a.tmps.getD 16 undef) shB := pre ⟨0, .data⟩ (by simp) rfl _ 16 rfl rfl
        have q18 : a.tmps.getD 18 undef = .int .i64 ver := pre ⟨2, .data⟩ (by simp) rfl _ 18 rfl rfl
        refine wp_part4 16 18 _ _ _ rfl rfl q18 ((SP.out w' _ q16).mono ?_)
        rintro e w9 ⟨v9, rfl, o9, u9⟩
        exact ⟨_, rfl, _, rfl, fun d hd => (by injection hd with hd; subst hd; exact (o9.base u.size)), u.trans u9, .inl u9⟩
      · injection ho with ho; subst ho
        exact wp_val (v := .slice P3 PB.length d3) (w' := w') (by unfold execOp; simp [go_sem, tg p3]) ⟨_, rfl, fun d hd => (by injection hd with hd; subst hd; rfl), u, .inl (Up.refl _)⟩
      · injection ho with ho; subst ho
        have q19 : Ow w' w2.heap.size (a.tmps.getD 19 undef) QB := pre ⟨3, .data⟩ (by simp) rfl _ 19 rfl rfl
        have q20 : a.tmps.getD 20 undef = .slice P3 PB.length d3 := pre ⟨4, .data⟩ (by simp) rfl _ 20 rfl rfl
        refine wp_append_bytes w' (.tmp 19) (.tmp 20) rfl w2.heap.size _ QB rfl q19 P3 PB _ d3 q20 rfl (R3.out.up u) (by have := SL.out; have := PL.out; omega) u.size ?_
        intro v9 w9 o9 g9 _
        refine ⟨_, rfl, fun d hd => (by injection hd with hd; subst hd; exact o9), u.grown g9 q19.block, .inr ?_⟩
        intro j p d v' hal hp hd
        have hj : j < 7 := lt_of_get hp
        have hj' : j = 0 ∨ j = 1 ∨ j = 2 ∨ j = 3 ∨ j = 4 ∨ j = 5 ∨ j = 6 := by omega
        exfalso
        rcases hj' with rfl | rfl | rfl | rfl | rfl | rfl | rfl
        · exact absurd (hal.symm.trans (show _ = false by kernel_rfl)) (by decide)
        · exact absurd (hal.symm.trans (show _ = false by kernel_rfl)) (by decide)
        · exact absurd (hal.symm.trans (show _ = false by kernel_rfl)) (by decide)
        · exact absurd (hal.symm.trans (show _ = false by kernel_rfl)) (by decide)
        · exact absurd (hal.symm.trans (show _ = false by kernel_rfl)) (by decide)
        · exact absurd (hal.symm.trans (show _ = false by kernel_rfl)) (by decide)
        · exact absurd (hal.symm.trans (show _ = false by kernel_rfl)) (by decide)
      · exact absurd rfl his
    case store =>
      intro o ho a w' u sz old pre
      injection ho with ho; subst ho
      have q : Ow w' w2.heap.size (a.tmps.getD 21 undef) (QB ++ PB) := pre ⟨5, .data⟩ (by simp) rfl _ 21 rfl rfl
      refine wp_val (v := a.tmps.getD 21 undef) (w' := w') (by unfold execOp; simp [go_sem]) ⟨_, rfl, fun _ _ => trivial, ?_, u⟩
      have : (a.put (some 3) (a.tmps.getD 21 undef)).tmps.getD 3 undef = a.tmps.getD 21 undef := put_at (by rw [show a.tmps.size = 28 from sz]; decide)
      show Ow w' w2.heap.size ((a.put (some 3) (a.tmps.getD 21 undef)).tmps.getD 3 undef) (QB ++ PB)
      rw [this]; exact q
    case fin =>
      intro a w4 sz df old hT _
      have h0 := old 0 (by kernel_rfl)
      have h1 := old 1 (by kernel_rfl)
      have h2 := old 2 (by kernel_rfl)
      obtain ⟨t, df'⟩ := a
      have sz' : t.size = 28 := sz
      obtain ⟨z0, z1, z2, z3, z4, z5, z6, z7, z8, z9, z10, z11, z12, z13, z14, z15, z16, z17, z18, z19, z20, z21, z22, z23, z24, z25, z26, z27, rfl⟩ := arr28 sz'
      have g0 : z0 = .agg #[.int .i64 ver, .slice A0 n0 c0, .slice A1 n1 c1, .slice A2 n2 c2, .slice A3 n3 c3, .slice A4 n4 c4, .string ft] := Option.some.inj h0
      have g1 : z1 = .pointer (some ⟨B, 0, none⟩) := Option.some.inj h1
      have g2 : z2 = .slice none 0 0 := Option.some.inj h2
      have gd : df' = [] := df
      obtain ⟨o4, u4⟩ := (show Ow w4 w2.heap.size z3 (QB ++ PB) ∧ Up w2 w4 from hT)
      subst g0 g1 g2 gd
      obtain ⟨P4, d4, rfl, _⟩ := o4.form
      have O4 := Lib.hid (o4.base (base' := w.heap.size) U3.out.size)
      have U4 := Lib.hid (U3.out.trans u4)
      have e6 := u4.cell x6
      have LN := Lib.hid (show (QB ++ PB).length ≤ 400088 by rw [List.length_append]; have := SL.out; have := PL.out; omega)
      clear h0 h1 h2 df sz sz' old hT o4 u4 x0 x1 x2 x3 x4 x5 x6 X3 SB SP R3 U3 i3 j3 SL PL
      have TX := Lib.hid (tx_lines ft)
      have TS : (⟨#[10]⟩ ++ ft ++ ⟨#[10]⟩ : ByteArray).size ≤ 102 := by rw [ByteArray.size_append, ByteArray.size_append]; show 1 + ft.size + 1 ≤ 102; omega
      obtain ⟨LL, hLL⟩ : ∃ LL, QB ++ PB = LL := ⟨_, rfl⟩
      rw [hLL] at O4 LN ⊢
      replace hLL := Lib.hid hLL
      generalize hTT : (⟨#[10]⟩ ++ ft ++ ⟨#[10]⟩ : ByteArray) = TT at *
      go_wp2_with (at_builtin; (try rw [hTT]); refine wpList_append_str _ rfl _ _ rfl w.heap.size _ LL rfl O4.out TT rfl ?e1 U4.out.size ?_)
      case e1 => have := LN.out; omega
      intro v5 w5 o5 g5
      have U5 := Lib.hid (U4.out.grown g5 O4.out.block)
      rw [TX.out] at o5
      go_wp2_with fail
      go_ret
      exact ⟨_, rfl, by rw [hB, hLL.out]; exact o5, U5.out⟩

set_option maxRecDepth 100000 in
theorem ttell_any (v : Value) (f : Fil) (w : World) (hs : FlR w v f) (hr : rightF f = true) :
    Calls Tryz.prog 15 #[v] w fun e w' => ∃ v', e = .returned v' ∧ Ow w' w.heap.size v' (encF f) ∧ Up w w' := by
  by_cases h : f.ver = 1
  · exact tell_one v f w hs hr h
  · exact tell_more v f w hs hr h
/-- Whether a file is told. -/
def toldB (f : Fil) : Bool := rightF f && decide ((encF f).length ≤ 100000)

set_option maxRecDepth 100000 in
set_option maxHeartbeats 2000000 in
theorem tencode_no (v : Value) (f : Fil) (w : World) (hs : FlR w v f) (h : toldB f = false) :
    Calls Tryz.prog 7 #[v] w fun e w' => e = .returned (.tuple #[.slice none 0 0, .int .i64 1]) ∧ Up w w' := by
  obtain ⟨A0, n0, c0, A1, n1, c1, A2, n2, c2, A3, n3, c3, A4, n4, c4, rfl, hk⟩ := hs.form
  have UA := Lib.hid (Up.alloc w (.cells #[.int .i64 f.ver, .slice A0 n0 c0, .slice A1 n1 c1, .slice A2 n2 c2, .slice A3 n3 c3, .slice A4 n4 c4, .string f.foot] 29))
  have X0 := Lib.hid (Bx7.new w (.int .i64 f.ver) (.slice A0 n0 c0) (.slice A1 n1 c1) (.slice A2 n2 c2) (.slice A3 n3 c3) (.slice A4 n4 c4) (.string f.foot) 29)
  have R := Lib.hid (tright_any _ f _ (hs.up UA.out))
  have T := Lib.hid (fun W (u : Up w W) (hr : rightF f = true) => ttell_any _ f W (hs.up u) hr)
  clear hs hk
  unfold toldB at h
  cases hr : rightF f
  · rw [hr] at R
    clear h T
    generalize encF f = E at *
    generalize f.ver = ver at *
    generalize f.foot = ft at *
    go_enter Tryz.func7, Tryz.ntmps7
    go_wp2_with fail
    refine R.out.mono ?_; rintro e w1 ⟨rfl, u1⟩
    go_wp2_with fail
    go_ret2
    exact ⟨rfl, UA.out.trans u1⟩
  · rw [hr, Bool.true_and] at h
    have hl : ¬ (encF f).length ≤ 100000 := by simpa using h
    rw [hr] at R T
    clear h
    generalize encF f = E at *
    generalize f.ver = ver at *
    generalize f.foot = ft at *
    have hl' : (100000 : Int) < (E.length : Int) := by omega
    go_enter Tryz.func7, Tryz.ntmps7
    go_wp2_with fail
    refine R.out.mono ?_; rintro e w1 ⟨rfl, u1⟩
    obtain ⟨x0, x1, x2, x3, x4, x5, x6⟩ := X0.out.up u1
    go_wp2_with fail
    refine (T.out w1 (UA.out.trans u1) trivial).mono ?_; rintro e w2 ⟨v2, rfl, o2, u2⟩
    obtain ⟨P2, d2, rfl, _⟩ := o2.form
    have U2 := Lib.hid ((UA.out.trans u1).trans u2)
    clear o2 u2 u1 x0 x1 x2 x3 x4 x5 x6
    go_wp2_with fail
    go_ret2
    exact ⟨rfl, U2.out⟩
set_option maxRecDepth 100000 in
set_option maxHeartbeats 2000000 in
theorem tencode_yes (v : Value) (f : Fil) (w : World) (hs : FlR w v f) (h : toldB f = true) :
    Calls Tryz.prog 7 #[v] w fun e w' => ∃ v', e = .returned (.tuple #[v', .int .i64 0]) ∧ Ow w' w.heap.size v' (encF f) ∧ Up w w' := by
  obtain ⟨A0, n0, c0, A1, n1, c1, A2, n2, c2, A3, n3, c3, A4, n4, c4, rfl, hk⟩ := hs.form
  have UA := Lib.hid (Up.alloc w (.cells #[.int .i64 f.ver, .slice A0 n0 c0, .slice A1 n1 c1, .slice A2 n2 c2, .slice A3 n3 c3, .slice A4 n4 c4, .string f.foot] 29))
  have X0 := Lib.hid (Bx7.new w (.int .i64 f.ver) (.slice A0 n0 c0) (.slice A1 n1 c1) (.slice A2 n2 c2) (.slice A3 n3 c3) (.slice A4 n4 c4) (.string f.foot) 29)
  have R := Lib.hid (tright_any _ f _ (hs.up UA.out))
  have T := Lib.hid (fun W (u : Up w W) (hr : rightF f = true) => ttell_any _ f W (hs.up u) hr)
  clear hs hk
  unfold toldB at h
  simp only [Bool.and_eq_true, decide_eq_true_eq] at h
  obtain ⟨hr, hl⟩ := h
  rw [hr] at R T
  generalize encF f = E at *
  generalize f.ver = ver at *
  generalize f.foot = ft at *
  have hl' : ¬ (100000 : Int) < (E.length : Int) := by omega
  go_enter Tryz.func7, Tryz.ntmps7
  go_wp2_with fail
  refine R.out.mono ?_; rintro e w1 ⟨rfl, u1⟩
  obtain ⟨x0, x1, x2, x3, x4, x5, x6⟩ := X0.out.up u1
  go_wp2_with fail
  refine (T.out w1 (UA.out.trans u1) trivial).mono ?_; rintro e w2 ⟨v2, rfl, o2, u2⟩
  obtain ⟨P2, d2, rfl, _⟩ := o2.form
  have O2 := Lib.hid (o2.base (base' := w.heap.size) (UA.out.trans u1).size)
  have U2 := Lib.hid ((UA.out.trans u1).trans u2)
  clear o2 u2 u1 x0 x1 x2 x3 x4 x5 x6
  go_wp2_with fail
  go_ret2
  exact ⟨_, rfl, O2.out, U2.out⟩

end Go.Proofs.YtaljddoenjgbfaaGreat
