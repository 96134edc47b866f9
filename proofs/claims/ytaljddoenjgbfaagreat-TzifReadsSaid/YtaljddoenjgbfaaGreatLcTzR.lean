/-
  The program's file: read.
-/
import Derived.Test.YtaljddoenjgbfaaGreatLcTz0
import Derived.Test.YtaljddoenjgbfaaGreatLcPan
import Derived.Test.YtaljddoenjgbfaaGreatLcFewG
namespace Go.Proofs.YtaljddoenjgbfaaGreat
open Go.ChangeShapes Go.WideShapes Go.ChangeAt Go.RowKit Lc

/-- What read tells. -/
def RdF (w : World) (f : Fil) (e : Ending) (w' : World) : Prop := ∃ v, e = .returned v ∧ FlR w' v f ∧ FlF w v ∧ Up w w'
set_option maxRecDepth 100000 in
theorem Sb.len {w : World} {A : Option Addr} {n c : Nat} {l : List UInt8} (h : Sb w (.slice A n c) l) : n = l.length := by
  obtain ⟨A', c', e, _⟩ := h
  injection e

set_option maxRecDepth 100000 in
set_option maxHeartbeats 4000000 in
theorem read_a (v : Value) (l : List UInt8) (w : World) (hs : Sb w v l) (h : errH l ≠ 0) :
    Calls Tryz.prog 39 #[v] w fun e w' => e = .panicked (pnc (errH l)) ∧ Up w w' := by
  have U0 := Lib.hid (Up.alloc w (.cells #[.int .i64 0, .slice none 0 0, .slice none 0 0, .slice none 0 0, .slice none 0 0, .slice none 0 0, .string ⟨#[]⟩] 29))
  have HR := Lib.hid (rheader_no v l _ (hs.up U0.out) h)
  obtain ⟨A, n, c, rfl⟩ := hs.form
  generalize errH l = k at *
  clear hs
  go_enter Tryz.func39, Tryz.ntmps39
  go_wp2_with fail
  refine HR.out.mono ?_; rintro e w1 ⟨rfl, u1⟩
  go_wp2_with fail
  exact ⟨rfl, rfl, U0.out.trans u1⟩

set_option maxRecDepth 100000 in
set_option maxHeartbeats 4000000 in
theorem read_b (v : Value) (l : List UInt8) (w : World) (hs : Sb w v l) (hi : isH l = true) (hb : hB l 4 ≠ 0) :
    Calls Tryz.prog 39 #[v] w fun e w' => e = .panicked (pnc (hB l 4)) ∧ Up w w' := by
  have U0 := Lib.hid (Up.alloc w (.cells #[.int .i64 0, .slice none 0 0, .slice none 0 0, .slice none 0 0, .slice none 0 0, .slice none 0 0, .string ⟨#[]⟩] 29))
  have HR := Lib.hid (rheader_yes v l _ (hs.up U0.out) hi)
  have RB := Lib.hid (fun v' w1 (h : Sb w1 v' (l.drop 44)) => rblk_no v' l 4 w1 h hb)
  obtain ⟨A, n, c, rfl⟩ := hs.form
  generalize hB l 4 = k at *
  clear hs hi hb
  rw [show versI (l.getD 4 0) = vH l from rfl] at HR RB
  generalize vH l = n0 at *
  generalize cntI l 0 = n1 at HR RB
  generalize cntI l 1 = n2 at HR RB
  generalize cntI l 2 = n3 at HR RB
  generalize cntI l 3 = n4 at HR RB
  generalize cntI l 4 = n5 at HR RB
  generalize cntI l 5 = n6 at HR RB
  unfold hv at HR RB
  go_enter Tryz.func39, Tryz.ntmps39
  go_wp2_with fail
  refine HR.out.mono ?_; rintro e w1 ⟨v1, rfl, s1, u1⟩
  obtain ⟨A1, q1, c1, rfl⟩ := s1.form
  have U1 := Lib.hid (U0.out.trans u1)
  have V1 := Lib.hid u1
  have S1 := Lib.hid (s1.up u1)
  have sz1 : w.heap.size + 1 ≤ w1.heap.size := by have := u1.size; rw [World.size_alloc] at this; exact this
  clear s1 u1 HR
  go_wp2_with fail
  have UA := Lib.hid (Up.alloc w1 (.cells #[.int .i64 n0, .int .i64 n1, .int .i64 n2, .int .i64 n3, .int .i64 n4, .int .i64 n5, .int .i64 n6] 90))
  refine (RB.out _ _ (S1.out.up UA.out)).mono ?_
  rintro e w2 ⟨rfl, u2⟩
  go_wp2_with fail
  exact ⟨rfl, rfl, (U1.out.trans UA.out).trans u2⟩

set_option maxRecDepth 100000 in
set_option maxHeartbeats 4000000 in
theorem read_c (v : Value) (l : List UInt8) (w : World) (hs : Sb w v l) (hi : isH l = true) (hb : hB l 4 = 0) (h1 : vH l = 1) (hr : hR l 4 ≠ []) :
    Calls Tryz.prog 39 #[v] w fun e w' => e = .panicked (pnc 4) ∧ Up w w' := by
  have RY := Lib.hid (fun n w => refuse_yes n w)
  have U0 := Lib.hid (Up.alloc w (.cells #[.int .i64 0, .slice none 0 0, .slice none 0 0, .slice none 0 0, .slice none 0 0, .slice none 0 0, .string ⟨#[]⟩] 29))
  have HR := Lib.hid (rheader_yes v l _ (hs.up U0.out) hi)
  have RB := Lib.hid (fun v' w1 (h : Sb w1 v' (l.drop 44)) => rblk_yes v' l 4 w1 h hi (.inl rfl) hb)
  unfold RbP at RB
  obtain ⟨A, n, c, rfl⟩ := hs.form
  generalize hX l 4 = X1 at *
  generalize hR l 4 = r at *
  clear hs hi hb
  rw [show versI (l.getD 4 0) = vH l from rfl] at HR RB
  generalize vH l = n0 at *
  generalize cntI l 0 = n1 at HR RB
  generalize cntI l 1 = n2 at HR RB
  generalize cntI l 2 = n3 at HR RB
  generalize cntI l 3 = n4 at HR RB
  generalize cntI l 4 = n5 at HR RB
  generalize cntI l 5 = n6 at HR RB
  unfold hv at HR RB
  have hv1 : (n0 == 1) = true := by simp [h1]
  have hp : decide (0 < r.length) = true := decide_eq_true (List.length_pos_iff.2 hr)
  clear h1 hr
  go_enter Tryz.func39, Tryz.ntmps39
  go_wp2_with fail
  refine HR.out.mono ?_; rintro e w1 ⟨v1, rfl, s1, u1⟩
  obtain ⟨A1, q1, c1, rfl⟩ := s1.form
  have U1 := Lib.hid (U0.out.trans u1)
  have V1 := Lib.hid u1
  have S1 := Lib.hid (s1.up u1)
  have sz1 : w.heap.size + 1 ≤ w1.heap.size := by have := u1.size; rw [World.size_alloc] at this; exact this
  clear s1 u1 HR
  go_wp2_with fail
  have UA := Lib.hid (Up.alloc w1 (.cells #[.int .i64 n0, .int .i64 n1, .int .i64 n2, .int .i64 n3, .int .i64 n4, .int .i64 n5, .int .i64 n6] 90))
  refine (RB.out _ _ (S1.out.up UA.out)).mono ?_
  rintro e w2 ⟨b1, v2, rfl, k2, f2, s2, u2⟩
  obtain ⟨P0, p0, d0, P1, p1, d1, P2, p2, d2, P3, p3, d3, P4, p4, d4, rfl⟩ := k2.form
  obtain ⟨A2, q2, c2, rfl⟩ := s2.form
  have Q2 := s2.len; subst Q2
  have HB1 := Lib.hid ((HBox.new w1 n0 n1 n2 n3 n4 n5 n6 90).up u2)
  have U2 := Lib.hid ((U1.out.trans UA.out).trans u2)
  have V2 := Lib.hid ((V1.out.trans UA.out).trans u2)
  have K2 := Lib.hid k2
  have F2 := Lib.hid f2
  have S2 := Lib.hid (s2.up u2)
  have sz2 : w1.heap.size + 1 ≤ w2.heap.size := by have := u2.size; rw [World.size_alloc] at this; exact this
  clear k2 f2 s2 u2 RB UA S1
  obtain ⟨h0, h1, h2, h3, h4, h5, h6⟩ := HB1.out.up (Up.alloc w2 (.cells #[.slice P0 p0 d0, .slice P1 p1 d1, .slice P2 p2 d2, .slice P3 p3 d3, .slice P4 p4 d4] 27))
  go_wp2_with fail
  refine (RY.out _ _).mono ?_; rintro e w3 ⟨rfl, rfl⟩
  go_wp2_with fail
  exact ⟨rfl, rfl, U2.out.alloc' _⟩

set_option maxRecDepth 100000 in
set_option maxHeartbeats 4000000 in
theorem read_d (v : Value) (l : List UInt8) (w : World) (hs : Sb w v l) (hi : isH l = true) (hb : hB l 4 = 0) (h1 : vH l = 1) (hr : hR l 4 = []) :
    Calls Tryz.prog 39 #[v] w fun e w' => RdF w ⟨vH l, hX l 4, ⟨#[]⟩⟩ e w' := by
  unfold RdF
  have RN := Lib.hid (fun n w => refuse_no n w)
  have X0 := Lib.hid (Bx7.new w (.int .i64 0) (.slice none 0 0) (.slice none 0 0) (.slice none 0 0) (.slice none 0 0) (.slice none 0 0) (.string ⟨#[]⟩) 29)
  have F0 := Lib.hid (Free.new w #[.int .i64 0, .slice none 0 0, .slice none 0 0, .slice none 0 0, .slice none 0 0, .slice none 0 0, .string ⟨#[]⟩] 29)
  have U0 := Lib.hid (Up.alloc w (.cells #[.int .i64 0, .slice none 0 0, .slice none 0 0, .slice none 0 0, .slice none 0 0, .slice none 0 0, .string ⟨#[]⟩] 29))
  have HR := Lib.hid (rheader_yes v l _ (hs.up U0.out) hi)
  have RB := Lib.hid (fun v' w1 (h : Sb w1 v' (l.drop 44)) => rblk_yes v' l 4 w1 h hi (.inl rfl) hb)
  unfold RbP at RB
  obtain ⟨A, n, c, rfl⟩ := hs.form
  generalize hX l 4 = X1 at *
  generalize hR l 4 = r at *
  clear hs hi hb
  rw [show versI (l.getD 4 0) = vH l from rfl] at HR RB
  generalize vH l = n0 at *
  generalize cntI l 0 = n1 at HR RB
  generalize cntI l 1 = n2 at HR RB
  generalize cntI l 2 = n3 at HR RB
  generalize cntI l 3 = n4 at HR RB
  generalize cntI l 4 = n5 at HR RB
  generalize cntI l 5 = n6 at HR RB
  unfold hv at HR RB
  have hv1 : (n0 == 1) = true := by simp [h1]
  have hp : decide (0 < r.length) = false := by rw [hr]; rfl
  clear h1 hr
  go_enter Tryz.func39, Tryz.ntmps39
  go_wp2_with fail
  refine HR.out.mono ?_; rintro e w1 ⟨v1, rfl, s1, u1⟩
  obtain ⟨A1, q1, c1, rfl⟩ := s1.form
  have U1 := Lib.hid (U0.out.trans u1)
  have V1 := Lib.hid u1
  have S1 := Lib.hid (s1.up u1)
  have sz1 : w.heap.size + 1 ≤ w1.heap.size := by have := u1.size; rw [World.size_alloc] at this; exact this
  clear s1 u1 HR
  go_wp2_with fail
  have UA := Lib.hid (Up.alloc w1 (.cells #[.int .i64 n0, .int .i64 n1, .int .i64 n2, .int .i64 n3, .int .i64 n4, .int .i64 n5, .int .i64 n6] 90))
  refine (RB.out _ _ (S1.out.up UA.out)).mono ?_
  rintro e w2 ⟨b1, v2, rfl, k2, f2, s2, u2⟩
  obtain ⟨P0, p0, d0, P1, p1, d1, P2, p2, d2, P3, p3, d3, P4, p4, d4, rfl⟩ := k2.form
  obtain ⟨A2, q2, c2, rfl⟩ := s2.form
  have Q2 := s2.len; subst Q2
  have HB1 := Lib.hid ((HBox.new w1 n0 n1 n2 n3 n4 n5 n6 90).up u2)
  have U2 := Lib.hid ((U1.out.trans UA.out).trans u2)
  have V2 := Lib.hid ((V1.out.trans UA.out).trans u2)
  have K2 := Lib.hid k2
  have F2 := Lib.hid f2
  have S2 := Lib.hid (s2.up u2)
  have sz2 : w1.heap.size + 1 ≤ w2.heap.size := by have := u2.size; rw [World.size_alloc] at this; exact this
  clear k2 f2 s2 u2 RB UA S1
  obtain ⟨h0, h1, h2, h3, h4, h5, h6⟩ := HB1.out.up (Up.alloc w2 (.cells #[.slice P0 p0 d0, .slice P1 p1 d1, .slice P2 p2 d2, .slice P3 p3 d3, .slice P4 p4 d4] 27))
  go_wp2_with fail
  refine (RN.out _ _).mono ?_; rintro e w3 ⟨rfl, rfl⟩
  have UV := Lib.hid (Up.alloc w2 (.cells #[.slice P0 p0 d0, .slice P1 p1 d1, .slice P2 p2 d2, .slice P3 p3 d3, .slice P4 p4 d4] 27))
  have Y2 := Lib.hid (Bx5.new w2 (.slice P0 p0 d0) (.slice P1 p1 d1) (.slice P2 p2 d2) (.slice P3 p3 d3) (.slice P4 p4 d4) 27)
  have X2 := Lib.hid ((X0.out.up V2.out).up UV.out)
  have G2 := Lib.hid ((F0.out.up V2.out).up UV.out)
  have K3 := Lib.hid (K2.out.up UV.out)
  have U3 := Lib.hid (U2.out.trans UV.out)
  clear UV V2 X0 F0 U2 K2
  generalize (w2.alloc (.cells #[.slice P0 p0 d0, .slice P1 p1 d1, .slice P2 p2 d2, .slice P3 p3 d3, .slice P4 p4 d4] 27)) = V at *
  generalize hB : w2.heap.size = B at *
  have nB : ¬ w.heap.size = B := by omega
  obtain ⟨y0, y1, y2, y3, y4⟩ := Y2.out
  obtain ⟨x0, x1, x2, x3, x4, x5, x6⟩ := X2.out
  obtain ⟨_, fz⟩ := G2.out
  have f0 := fz 0; have f1 := fz 1; have f2 := fz 2; have f3 := fz 3; have f4 := fz 4; have f5 := fz 5; have f6 := fz 6
  have KF := Lib.hid (K3.out.gb (gb_seven (w := V) (V := V) (b := w.heap.size) ((Up.refl V).gb _) (.int .i64 n0) (.slice P0 p0 d0) (.slice P1 p1 d1) (.slice P2 p2 d2) (.slice P3 p3 d3) (.slice P4 p4 d4) (.string ⟨#[]⟩)) F2.out (by rw [World.size_alloc]; omega))
  have UF := Lib.hid (gb_up (b := w.heap.size) U3.out (gb_seven (w := V) (V := V) (b := w.heap.size) ((Up.refl V).gb _) (.int .i64 n0) (.slice P0 p0 d0) (.slice P1 p1 d1) (.slice P2 p2 d2) (.slice P3 p3 d3) (.slice P4 p4 d4) (.string ⟨#[]⟩)) (Nat.le_refl _))
  have FF := Lib.hid (F2.out.base (U1.out.trans (Up.alloc w1 (.cells #[.int .i64 n0, .int .i64 n1, .int .i64 n2, .int .i64 n3, .int .i64 n4, .int .i64 n5, .int .i64 n6] 90))))
  clear fz X2 G2 K3 U3 Y2 F2 S2
  go_wp2_with fail
  refine bodyPost_ret (v := .agg #[.int .i64 n0, .slice P0 p0 d0, .slice P1 p1 d1, .slice P2 p2 d2, .slice P3 p3 d3, .slice P4 p4 d4, .string ⟨#[]⟩]) (by simp [results, Tryz.results39, go_sem, x0, x1, x2, x3, x4, x5, x6]) rfl ?_
  exact ⟨_, rfl, ⟨_, _, _, _, _, rfl, KF.out⟩, ⟨_, _, _, _, _, _, _, rfl, FF.out⟩, UF.out⟩

set_option maxRecDepth 100000 in
theorem wp_val {a : Act} {o : Oper} {w : World} {v : Value} {w' : World} {K : Act → World → Prop} {Q : Exit → Act → World → Prop} (h : (execOp a.eval o).run Tryz.prog w = .ok (.value v) w') (k : K (a.put o.dst v) w') : o.wp Tryz.prog a w K Q := by
  unfold Oper.wp; rw [h, Oper.upon_value]; exact k
set_option maxRecDepth 100000 in
/-- A call that panics. -/
theorem wp_callP {a : Act} {o : Oper} {w : World} (t1 : Tmp) (v1 : Value) (tys : Array TypeId) (ho : o.op = .call { callee := .value (.func 54), args := #[.tmp t1], argTypes := tys }) (h1 : a.tmps.getD t1 undef = v1)
    {K : Act → World → Prop} {Q : Exit → Act → World → Prop} (c : Calls Tryz.prog 54 #[v1] w fun e w' => ∃ ch, e = .panicked ch ∧ Q (.panic ch) a w') : o.wp Tryz.prog a w K Q := by
  unfold Oper.wp execOp
  rw [ho]
  simp [go_sem, tg h1]
  exact c.mono fun e w' ⟨v, he, hk⟩ => by subst he; exact hk
/-- What the slots of read's last region hold, where the footer is refused. -/
def hG (H : Nat) (sv : Value) (t : Tmp) (v : Value) (_ : World) : Prop := if t = 46 then v = .pointer (some ⟨H, 0, none⟩) else if t = 49 then v = sv else if t = 50 ∨ t = 51 then False else True
set_option maxRecDepth 100000 in
/-- Bytes do not lie where slices are stored. -/
theorem Rd.set {w : World} {A : Option Addr} {l : List UInt8} (h : Rd w A l) {B k : Nat} {P : Option Addr} {n c : Nat} (hc : w.cell? ⟨B, k, none⟩ = some (.slice P n c)) (u : Value) : Rd (w.setCell ⟨B, k, none⟩ u) A l := fun h0 => by
  obtain ⟨b, o, e, hb⟩ := h h0
  refine ⟨b, o, e, fun i hi => ?_⟩
  rw [World.cell?_setCell_other]
  · exact hb i hi
  · intro q
    have := hb i hi
    rw [← q, hc] at this
    cases this
set_option maxRecDepth 100000 in
theorem Sb.five {w : World} {v : Value} {l : List UInt8} (h : Sb w v l) {B : Nat} {P0 P1 P2 P3 P4 : Option Addr} {p0 p1 p2 p3 p4 d0 d1 d2 d3 d4 : Nat} (hx : Bx5 w B (.slice P0 p0 d0) (.slice P1 p1 d1) (.slice P2 p2 d2) (.slice P3 p3 d3) (.slice P4 p4 d4)) (v0 v1 v2 v3 v4 : Value) : Sb (five w B v0 v1 v2 v3 v4) v l := by
  obtain ⟨A, c, rfl, h1, h2, hr⟩ := h
  obtain ⟨x0, x1, x2, x3, x4⟩ := hx
  refine ⟨A, c, rfl, h1, h2, ?_⟩
  have r1 := hr.set x0 v0
  have oth : ∀ (w : World) (i j : Nat) (v : Value), i ≠ j → (w.setCell ⟨B, i, none⟩ v).cell? ⟨B, j, none⟩ = w.cell? ⟨B, j, none⟩ := fun w i j v h => World.cell?_setCell_other w _ _ _ (fun e => h (by injection e))
  have r2 := r1.set ((oth _ 0 1 _ (by decide)).trans x1) v1
  have r3 := r2.set ((oth _ 1 2 _ (by decide)).trans ((oth _ 0 2 _ (by decide)).trans x2)) v2
  have r4 := r3.set ((oth _ 2 3 _ (by decide)).trans ((oth _ 1 3 _ (by decide)).trans ((oth _ 0 3 _ (by decide)).trans x3))) v3
  exact r4.set ((oth _ 3 4 _ (by decide)).trans ((oth _ 2 4 _ (by decide)).trans ((oth _ 1 4 _ (by decide)).trans ((oth _ 0 4 _ (by decide)).trans x4)))) v4
set_option maxRecDepth 100000 in
theorem Free.five {w : World} {b c : Nat} (h : Free w c) (v0 v1 v2 v3 v4 : Value) : Free (five w b v0 v1 v2 v3 v4) c := by
  obtain ⟨h1, h2⟩ := h
  refine ⟨?_, fun j => ?_⟩
  · simpa [World.size_setCell] using h1
  · simp only [World.frozen?_setCell]; exact h2 j

set_option maxRecDepth 100000 in
set_option maxHeartbeats 4000000 in
theorem read_e (v : Value) (l : List UInt8) (w : World) (hs : Sb w v l) (hi : isH l = true) (hb : hB l 4 = 0) (h1 : vH l ≠ 1) (he : errH (hR l 4) ≠ 0) :
    Calls Tryz.prog 39 #[v] w fun e w' => e = .panicked (pnc (errH (hR l 4))) ∧ Up w w' := by
  have U0 := Lib.hid (Up.alloc w (.cells #[.int .i64 0, .slice none 0 0, .slice none 0 0, .slice none 0 0, .slice none 0 0, .slice none 0 0, .string ⟨#[]⟩] 29))
  have HR := Lib.hid (rheader_yes v l _ (hs.up U0.out) hi)
  have RB := Lib.hid (fun v' w1 (h : Sb w1 v' (l.drop 44)) => rblk_yes v' l 4 w1 h hi (.inl rfl) hb)
  unfold RbP at RB
  obtain ⟨A, n, c, rfl⟩ := hs.form
  generalize hX l 4 = X1 at *
  generalize hR l 4 = r at *
  clear hs hi hb
  rw [show versI (l.getD 4 0) = vH l from rfl] at HR RB
  generalize vH l = n0 at *
  generalize cntI l 0 = n1 at HR RB
  generalize cntI l 1 = n2 at HR RB
  generalize cntI l 2 = n3 at HR RB
  generalize cntI l 3 = n4 at HR RB
  generalize cntI l 4 = n5 at HR RB
  generalize cntI l 5 = n6 at HR RB
  unfold hv at HR RB
  have HR2 := Lib.hid (fun v w (h : Sb w v r) => rheader_no v r w h he)
  generalize errH r = k at *
  have hv1 : (n0 == 1) = false := by simp [h1]
  clear h1 he
  go_enter Tryz.func39, Tryz.ntmps39
  go_wp2_with fail
  refine HR.out.mono ?_; rintro e w1 ⟨v1, rfl, s1, u1⟩
  obtain ⟨A1, q1, c1, rfl⟩ := s1.form
  have U1 := Lib.hid (U0.out.trans u1)
  have V1 := Lib.hid u1
  have S1 := Lib.hid (s1.up u1)
  have sz1 : w.heap.size + 1 ≤ w1.heap.size := by have := u1.size; rw [World.size_alloc] at this; exact this
  clear s1 u1 HR
  go_wp2_with fail
  have UA := Lib.hid (Up.alloc w1 (.cells #[.int .i64 n0, .int .i64 n1, .int .i64 n2, .int .i64 n3, .int .i64 n4, .int .i64 n5, .int .i64 n6] 90))
  refine (RB.out _ _ (S1.out.up UA.out)).mono ?_
  rintro e w2 ⟨b1, v2, rfl, k2, f2, s2, u2⟩
  obtain ⟨P0, p0, d0, P1, p1, d1, P2, p2, d2, P3, p3, d3, P4, p4, d4, rfl⟩ := k2.form
  obtain ⟨A2, q2, c2, rfl⟩ := s2.form
  have Q2 := s2.len; subst Q2
  have HB1 := Lib.hid ((HBox.new w1 n0 n1 n2 n3 n4 n5 n6 90).up u2)
  have U2 := Lib.hid ((U1.out.trans UA.out).trans u2)
  have V2 := Lib.hid ((V1.out.trans UA.out).trans u2)
  have K2 := Lib.hid k2
  have F2 := Lib.hid f2
  have S2 := Lib.hid (s2.up u2)
  have sz2 : w1.heap.size + 1 ≤ w2.heap.size := by have := u2.size; rw [World.size_alloc] at this; exact this
  clear k2 f2 s2 u2 RB UA S1
  obtain ⟨h0, h1, h2, h3, h4, h5, h6⟩ := HB1.out.up (Up.alloc w2 (.cells #[.slice P0 p0 d0, .slice P1 p1 d1, .slice P2 p2 d2, .slice P3 p3 d3, .slice P4 p4 d4] 27))
  go_wp2_with fail
  have UV := Lib.hid (Up.alloc w2 (.cells #[.slice P0 p0 d0, .slice P1 p1 d1, .slice P2 p2 d2, .slice P3 p3 d3, .slice P4 p4 d4] 27))
  refine (HR2.out _ _ (S2.out.up UV.out)).mono ?_; rintro e w3 ⟨rfl, u3⟩
  go_wp2_with fail
  exact ⟨rfl, rfl, (U2.out.trans UV.out).trans u3⟩

set_option maxRecDepth 100000 in
set_option maxHeartbeats 4000000 in
theorem read_f (v : Value) (l : List UInt8) (w : World) (hs : Sb w v l) (hi : isH l = true) (hb : hB l 4 = 0) (h1 : vH l ≠ 1) (hj : isH (hR l 4) = true) (hn : vH (hR l 4) ≠ vH l) :
    Calls Tryz.prog 39 #[v] w fun e w' => e = .panicked (pnc 4) ∧ Up w w' := by
  have RY := Lib.hid (fun n w => refuse_yes n w)
  have U0 := Lib.hid (Up.alloc w (.cells #[.int .i64 0, .slice none 0 0, .slice none 0 0, .slice none 0 0, .slice none 0 0, .slice none 0 0, .string ⟨#[]⟩] 29))
  have HR := Lib.hid (rheader_yes v l _ (hs.up U0.out) hi)
  have RB := Lib.hid (fun v' w1 (h : Sb w1 v' (l.drop 44)) => rblk_yes v' l 4 w1 h hi (.inl rfl) hb)
  unfold RbP at RB
  obtain ⟨A, n, c, rfl⟩ := hs.form
  generalize hX l 4 = X1 at *
  generalize hR l 4 = r at *
  clear hs hi hb
  rw [show versI (l.getD 4 0) = vH l from rfl] at HR RB
  generalize vH l = n0 at *
  generalize cntI l 0 = n1 at HR RB
  generalize cntI l 1 = n2 at HR RB
  generalize cntI l 2 = n3 at HR RB
  generalize cntI l 3 = n4 at HR RB
  generalize cntI l 4 = n5 at HR RB
  generalize cntI l 5 = n6 at HR RB
  unfold hv at HR RB
  have HR2 := Lib.hid (fun v w (h : Sb w v r) => rheader_yes v r w h hj)
  rw [show versI (r.getD 4 0) = vH r from rfl] at HR2
  generalize vH r = m0 at *
  generalize cntI r 0 = m1 at HR2
  generalize cntI r 1 = m2 at HR2
  generalize cntI r 2 = m3 at HR2
  generalize cntI r 3 = m4 at HR2
  generalize cntI r 4 = m5 at HR2
  generalize cntI r 5 = m6 at HR2
  unfold hv at HR2
  have hv1 : (n0 == 1) = false := by simp [h1]
  have hw : (m0 != n0) = true := by simpa using hn
  clear h1 hj hn
  go_enter Tryz.func39, Tryz.ntmps39
  go_wp2_with fail
  refine HR.out.mono ?_; rintro e w1 ⟨v1, rfl, s1, u1⟩
  obtain ⟨A1, q1, c1, rfl⟩ := s1.form
  have U1 := Lib.hid (U0.out.trans u1)
  have V1 := Lib.hid u1
  have S1 := Lib.hid (s1.up u1)
  have sz1 : w.heap.size + 1 ≤ w1.heap.size := by have := u1.size; rw [World.size_alloc] at this; exact this
  clear s1 u1 HR
  go_wp2_with fail
  have UA := Lib.hid (Up.alloc w1 (.cells #[.int .i64 n0, .int .i64 n1, .int .i64 n2, .int .i64 n3, .int .i64 n4, .int .i64 n5, .int .i64 n6] 90))
  refine (RB.out _ _ (S1.out.up UA.out)).mono ?_
  rintro e w2 ⟨b1, v2, rfl, k2, f2, s2, u2⟩
  obtain ⟨P0, p0, d0, P1, p1, d1, P2, p2, d2, P3, p3, d3, P4, p4, d4, rfl⟩ := k2.form
  obtain ⟨A2, q2, c2, rfl⟩ := s2.form
  have Q2 := s2.len; subst Q2
  have HB1 := Lib.hid ((HBox.new w1 n0 n1 n2 n3 n4 n5 n6 90).up u2)
  have U2 := Lib.hid ((U1.out.trans UA.out).trans u2)
  have V2 := Lib.hid ((V1.out.trans UA.out).trans u2)
  have K2 := Lib.hid k2
  have F2 := Lib.hid f2
  have S2 := Lib.hid (s2.up u2)
  have sz2 : w1.heap.size + 1 ≤ w2.heap.size := by have := u2.size; rw [World.size_alloc] at this; exact this
  clear k2 f2 s2 u2 RB UA S1
  obtain ⟨h0, h1, h2, h3, h4, h5, h6⟩ := HB1.out.up (Up.alloc w2 (.cells #[.slice P0 p0 d0, .slice P1 p1 d1, .slice P2 p2 d2, .slice P3 p3 d3, .slice P4 p4 d4] 27))
  go_wp2_with fail
  have UV := Lib.hid (Up.alloc w2 (.cells #[.slice P0 p0 d0, .slice P1 p1 d1, .slice P2 p2 d2, .slice P3 p3 d3, .slice P4 p4 d4] 27))
  refine (HR2.out _ _ (S2.out.up UV.out)).mono ?_; rintro e w3 ⟨v3, rfl, s3, u3⟩
  obtain ⟨A3, q3, c3, rfl⟩ := s3.form
  have UM := Lib.hid (Up.alloc w3 (.cells #[.int .i64 m0, .int .i64 m1, .int .i64 m2, .int .i64 m3, .int .i64 m4, .int .i64 m5, .int .i64 m6] 90))
  have U3 := Lib.hid (((U2.out.trans UV.out).trans u3).trans UM.out)
  have V3 := Lib.hid (((V2.out.trans UV.out).trans u3).trans UM.out)
  have S3 := Lib.hid ((s3.up u3).up UM.out)
  have Y3 := Lib.hid (((Bx5.new w2 (.slice P0 p0 d0) (.slice P1 p1 d1) (.slice P2 p2 d2) (.slice P3 p3 d3) (.slice P4 p4 d4) 27).up u3).up UM.out)
  have G3 := Lib.hid (((Free.new w2 #[.slice P0 p0 d0, .slice P1 p1 d1, .slice P2 p2 d2, .slice P3 p3 d3, .slice P4 p4 d4] 27).up u3).up UM.out)
  have HB3 := Lib.hid (HBox.new w3 m0 m1 m2 m3 m4 m5 m6 90)
  have sz3 : w2.heap.size + 1 ≤ w3.heap.size := by have := u3.size; rw [World.size_alloc] at this; exact this
  obtain ⟨h0, _, _, _, _, _, _⟩ := ((HB1.out.up UV.out).up u3).up UM.out
  obtain ⟨j0, j1, j2, j3, j4, j5, j6⟩ := HB3.out
  clear s3 u3 HR2 UV HB1 S2 h1 h2 h3 h4 h5 h6 U2 V2 K2 F2
  go_wp2_with fail
  refine (RY.out _ _).mono ?_; rintro e w4 ⟨rfl, rfl⟩
  go_wp2_with fail
  exact ⟨rfl, rfl, U3.out⟩

set_option maxRecDepth 100000 in
set_option maxHeartbeats 4000000 in
theorem read_g (v : Value) (l : List UInt8) (w : World) (hs : Sb w v l) (hi : isH l = true) (hb : hB l 4 = 0) (h1 : vH l ≠ 1) (hj : isH (hR l 4) = true) (hn : vH (hR l 4) = vH l) (hc : hB (hR l 4) 8 ≠ 0) :
    Calls Tryz.prog 39 #[v] w fun e w' => e = .panicked (pnc (hB (hR l 4) 8)) ∧ Up w w' := by
  have RN := Lib.hid (fun n w => refuse_no n w)
  have U0 := Lib.hid (Up.alloc w (.cells #[.int .i64 0, .slice none 0 0, .slice none 0 0, .slice none 0 0, .slice none 0 0, .slice none 0 0, .string ⟨#[]⟩] 29))
  have HR := Lib.hid (rheader_yes v l _ (hs.up U0.out) hi)
  have RB := Lib.hid (fun v' w1 (h : Sb w1 v' (l.drop 44)) => rblk_yes v' l 4 w1 h hi (.inl rfl) hb)
  unfold RbP at RB
  obtain ⟨A, n, c, rfl⟩ := hs.form
  generalize hX l 4 = X1 at *
  generalize hR l 4 = r at *
  clear hs hi hb
  rw [show versI (l.getD 4 0) = vH l from rfl] at HR RB
  generalize vH l = n0 at *
  generalize cntI l 0 = n1 at HR RB
  generalize cntI l 1 = n2 at HR RB
  generalize cntI l 2 = n3 at HR RB
  generalize cntI l 3 = n4 at HR RB
  generalize cntI l 4 = n5 at HR RB
  generalize cntI l 5 = n6 at HR RB
  unfold hv at HR RB
  have HR2 := Lib.hid (fun v w (h : Sb w v r) => rheader_yes v r w h hj)
  have RB2 := Lib.hid (fun v' w1 (h : Sb w1 v' (r.drop 44)) => rblk_no v' r 8 w1 h hc)
  generalize hB r 8 = k at *
  rw [show versI (r.getD 4 0) = vH r from rfl] at HR2 RB2
  generalize vH r = m0 at *
  generalize cntI r 0 = m1 at HR2 RB2
  generalize cntI r 1 = m2 at HR2 RB2
  generalize cntI r 2 = m3 at HR2 RB2
  generalize cntI r 3 = m4 at HR2 RB2
  generalize cntI r 4 = m5 at HR2 RB2
  generalize cntI r 5 = m6 at HR2 RB2
  unfold hv at HR2 RB2
  have hv1 : (n0 == 1) = false := by simp [h1]
  have hw : (m0 != n0) = false := by simpa using hn
  clear h1 hj hn hc
  go_enter Tryz.func39, Tryz.ntmps39
  go_wp2_with fail
  refine HR.out.mono ?_; rintro e w1 ⟨v1, rfl, s1, u1⟩
  obtain ⟨A1, q1, c1, rfl⟩ := s1.form
  have U1 := Lib.hid (U0.out.trans u1)
  have V1 := Lib.hid u1
  have S1 := Lib.hid (s1.up u1)
  have sz1 : w.heap.size + 1 ≤ w1.heap.size := by have := u1.size; rw [World.size_alloc] at this; exact this
  clear s1 u1 HR
  go_wp2_with fail
  have UA := Lib.hid (Up.alloc w1 (.cells #[.int .i64 n0, .int .i64 n1, .int .i64 n2, .int .i64 n3, .int .i64 n4, .int .i64 n5, .int .i64 n6] 90))
  refine (RB.out _ _ (S1.out.up UA.out)).mono ?_
  rintro e w2 ⟨b1, v2, rfl, k2, f2, s2, u2⟩
  obtain ⟨P0, p0, d0, P1, p1, d1, P2, p2, d2, P3, p3, d3, P4, p4, d4, rfl⟩ := k2.form
  obtain ⟨A2, q2, c2, rfl⟩ := s2.form
  have Q2 := s2.len; subst Q2
  have HB1 := Lib.hid ((HBox.new w1 n0 n1 n2 n3 n4 n5 n6 90).up u2)
  have U2 := Lib.hid ((U1.out.trans UA.out).trans u2)
  have V2 := Lib.hid ((V1.out.trans UA.out).trans u2)
  have K2 := Lib.hid k2
  have F2 := Lib.hid f2
  have S2 := Lib.hid (s2.up u2)
  have sz2 : w1.heap.size + 1 ≤ w2.heap.size := by have := u2.size; rw [World.size_alloc] at this; exact this
  clear k2 f2 s2 u2 RB UA S1
  obtain ⟨h0, h1, h2, h3, h4, h5, h6⟩ := HB1.out.up (Up.alloc w2 (.cells #[.slice P0 p0 d0, .slice P1 p1 d1, .slice P2 p2 d2, .slice P3 p3 d3, .slice P4 p4 d4] 27))
  go_wp2_with fail
  have UV := Lib.hid (Up.alloc w2 (.cells #[.slice P0 p0 d0, .slice P1 p1 d1, .slice P2 p2 d2, .slice P3 p3 d3, .slice P4 p4 d4] 27))
  refine (HR2.out _ _ (S2.out.up UV.out)).mono ?_; rintro e w3 ⟨v3, rfl, s3, u3⟩
  obtain ⟨A3, q3, c3, rfl⟩ := s3.form
  have UM := Lib.hid (Up.alloc w3 (.cells #[.int .i64 m0, .int .i64 m1, .int .i64 m2, .int .i64 m3, .int .i64 m4, .int .i64 m5, .int .i64 m6] 90))
  have U3 := Lib.hid (((U2.out.trans UV.out).trans u3).trans UM.out)
  have V3 := Lib.hid (((V2.out.trans UV.out).trans u3).trans UM.out)
  have S3 := Lib.hid ((s3.up u3).up UM.out)
  have Y3 := Lib.hid (((Bx5.new w2 (.slice P0 p0 d0) (.slice P1 p1 d1) (.slice P2 p2 d2) (.slice P3 p3 d3) (.slice P4 p4 d4) 27).up u3).up UM.out)
  have G3 := Lib.hid (((Free.new w2 #[.slice P0 p0 d0, .slice P1 p1 d1, .slice P2 p2 d2, .slice P3 p3 d3, .slice P4 p4 d4] 27).up u3).up UM.out)
  have HB3 := Lib.hid (HBox.new w3 m0 m1 m2 m3 m4 m5 m6 90)
  have sz3 : w2.heap.size + 1 ≤ w3.heap.size := by have := u3.size; rw [World.size_alloc] at this; exact this
  obtain ⟨h0, _, _, _, _, _, _⟩ := ((HB1.out.up UV.out).up u3).up UM.out
  obtain ⟨j0, j1, j2, j3, j4, j5, j6⟩ := HB3.out
  clear s3 u3 HR2 UV HB1 S2 h1 h2 h3 h4 h5 h6 U2 V2 K2 F2
  go_wp2_with fail
  refine (RN.out _ _).mono ?_; rintro e w4 ⟨rfl, rfl⟩
  go_wp2_with fail
  refine (RB2.out _ _ S3.out).mono ?_; rintro e w4 ⟨rfl, u4⟩
  go_wp2_with fail
  exact ⟨rfl, rfl, U3.out.trans u4⟩

set_option maxRecDepth 100000 in
set_option maxHeartbeats 4000000 in
theorem read_h (v : Value) (l : List UInt8) (w : World) (hs : Sb w v l) (hi : isH l = true) (hb : hB l 4 = 0) (h1 : vH l ≠ 1) (hj : isH (hR l 4) = true) (hn : vH (hR l 4) = vH l) (hc : hB (hR l 4) 8 = 0) (hf : footE (hR (hR l 4) 8) ≠ 0) :
    Calls Tryz.prog 39 #[v] w fun e w' => e = .panicked (pnc (footE (hR (hR l 4) 8))) ∧ Up w w' := by
  have RN := Lib.hid (fun n w => refuse_no n w)
  have X0 := Lib.hid (Bx7.new w (.int .i64 0) (.slice none 0 0) (.slice none 0 0) (.slice none 0 0) (.slice none 0 0) (.slice none 0 0) (.string ⟨#[]⟩) 29)
  have F0 := Lib.hid (Free.new w #[.int .i64 0, .slice none 0 0, .slice none 0 0, .slice none 0 0, .slice none 0 0, .slice none 0 0, .string ⟨#[]⟩] 29)
  have U0 := Lib.hid (Up.alloc w (.cells #[.int .i64 0, .slice none 0 0, .slice none 0 0, .slice none 0 0, .slice none 0 0, .slice none 0 0, .string ⟨#[]⟩] 29))
  have HR := Lib.hid (rheader_yes v l _ (hs.up U0.out) hi)
  have RB := Lib.hid (fun v' w1 (h : Sb w1 v' (l.drop 44)) => rblk_yes v' l 4 w1 h hi (.inl rfl) hb)
  unfold RbP at RB
  obtain ⟨A, n, c, rfl⟩ := hs.form
  generalize hX l 4 = X1 at *
  generalize hR l 4 = r at *
  clear hs hi hb
  rw [show versI (l.getD 4 0) = vH l from rfl] at HR RB
  generalize vH l = n0 at *
  generalize cntI l 0 = n1 at HR RB
  generalize cntI l 1 = n2 at HR RB
  generalize cntI l 2 = n3 at HR RB
  generalize cntI l 3 = n4 at HR RB
  generalize cntI l 4 = n5 at HR RB
  generalize cntI l 5 = n6 at HR RB
  unfold hv at HR RB
  have HR2 := Lib.hid (fun v w (h : Sb w v r) => rheader_yes v r w h hj)
  have RB2 := Lib.hid (fun v' w1 (h : Sb w1 v' (r.drop 44)) => rblk_yes v' r 8 w1 h hj (.inr rfl) hc)
  unfold RbP at RB2
  have RF := Lib.hid (fun v w1 (h : Sb w1 v (hR r 8)) => (rfoot_any v (hR r 8) w1 h).1 hf)
  generalize footE (hR r 8) = k at *
  generalize hX r 8 = X2 at *
  generalize hR r 8 = t at *
  rw [show versI (r.getD 4 0) = vH r from rfl] at HR2 RB2
  generalize vH r = m0 at *
  generalize cntI r 0 = m1 at HR2 RB2
  generalize cntI r 1 = m2 at HR2 RB2
  generalize cntI r 2 = m3 at HR2 RB2
  generalize cntI r 3 = m4 at HR2 RB2
  generalize cntI r 4 = m5 at HR2 RB2
  generalize cntI r 5 = m6 at HR2 RB2
  unfold hv at HR2 RB2
  have hv1 : (n0 == 1) = false := by simp [h1]
  have hw : (m0 != n0) = false := by simpa using hn
  clear h1 hj hn hc hf
  go_enter Tryz.func39, Tryz.ntmps39
  go_wp2_with fail
  refine HR.out.mono ?_; rintro e w1 ⟨v1, rfl, s1, u1⟩
  obtain ⟨A1, q1, c1, rfl⟩ := s1.form
  have U1 := Lib.hid (U0.out.trans u1)
  have V1 := Lib.hid u1
  have S1 := Lib.hid (s1.up u1)
  have sz1 : w.heap.size + 1 ≤ w1.heap.size := by have := u1.size; rw [World.size_alloc] at this; exact this
  clear s1 u1 HR
  go_wp2_with fail
  have UA := Lib.hid (Up.alloc w1 (.cells #[.int .i64 n0, .int .i64 n1, .int .i64 n2, .int .i64 n3, .int .i64 n4, .int .i64 n5, .int .i64 n6] 90))
  refine (RB.out _ _ (S1.out.up UA.out)).mono ?_
  rintro e w2 ⟨b1, v2, rfl, k2, f2, s2, u2⟩
  obtain ⟨P0, p0, d0, P1, p1, d1, P2, p2, d2, P3, p3, d3, P4, p4, d4, rfl⟩ := k2.form
  obtain ⟨A2, q2, c2, rfl⟩ := s2.form
  have Q2 := s2.len; subst Q2
  have HB1 := Lib.hid ((HBox.new w1 n0 n1 n2 n3 n4 n5 n6 90).up u2)
  have U2 := Lib.hid ((U1.out.trans UA.out).trans u2)
  have V2 := Lib.hid ((V1.out.trans UA.out).trans u2)
  have K2 := Lib.hid k2
  have F2 := Lib.hid f2
  have S2 := Lib.hid (s2.up u2)
  have sz2 : w1.heap.size + 1 ≤ w2.heap.size := by have := u2.size; rw [World.size_alloc] at this; exact this
  clear k2 f2 s2 u2 RB UA S1
  obtain ⟨h0, h1, h2, h3, h4, h5, h6⟩ := HB1.out.up (Up.alloc w2 (.cells #[.slice P0 p0 d0, .slice P1 p1 d1, .slice P2 p2 d2, .slice P3 p3 d3, .slice P4 p4 d4] 27))
  go_wp2_with fail
  have UV := Lib.hid (Up.alloc w2 (.cells #[.slice P0 p0 d0, .slice P1 p1 d1, .slice P2 p2 d2, .slice P3 p3 d3, .slice P4 p4 d4] 27))
  refine (HR2.out _ _ (S2.out.up UV.out)).mono ?_; rintro e w3 ⟨v3, rfl, s3, u3⟩
  obtain ⟨A3, q3, c3, rfl⟩ := s3.form
  have UM := Lib.hid (Up.alloc w3 (.cells #[.int .i64 m0, .int .i64 m1, .int .i64 m2, .int .i64 m3, .int .i64 m4, .int .i64 m5, .int .i64 m6] 90))
  have U3 := Lib.hid (((U2.out.trans UV.out).trans u3).trans UM.out)
  have V3 := Lib.hid (((V2.out.trans UV.out).trans u3).trans UM.out)
  have S3 := Lib.hid ((s3.up u3).up UM.out)
  have Y3 := Lib.hid (((Bx5.new w2 (.slice P0 p0 d0) (.slice P1 p1 d1) (.slice P2 p2 d2) (.slice P3 p3 d3) (.slice P4 p4 d4) 27).up u3).up UM.out)
  have G3 := Lib.hid (((Free.new w2 #[.slice P0 p0 d0, .slice P1 p1 d1, .slice P2 p2 d2, .slice P3 p3 d3, .slice P4 p4 d4] 27).up u3).up UM.out)
  have HB3 := Lib.hid (HBox.new w3 m0 m1 m2 m3 m4 m5 m6 90)
  have sz3 : w2.heap.size + 1 ≤ w3.heap.size := by have := u3.size; rw [World.size_alloc] at this; exact this
  obtain ⟨h0, _, _, _, _, _, _⟩ := ((HB1.out.up UV.out).up u3).up UM.out
  obtain ⟨j0, j1, j2, j3, j4, j5, j6⟩ := HB3.out
  clear s3 u3 HR2 UV HB1 S2 h1 h2 h3 h4 h5 h6 U2 V2 K2 F2
  go_wp2_with fail
  refine (RN.out _ _).mono ?_; rintro e w4 ⟨rfl, rfl⟩
  go_wp2_with fail
  refine (RB2.out _ _ S3.out).mono ?_; rintro e w4 ⟨b2, v4, rfl, k4, f4, s4, u4⟩
  obtain ⟨R0, g0, o0, R1, g1, o1, R2, g2, o2, R3, g3, o3, R4, g4, o4, rfl⟩ := k4.form
  obtain ⟨A4, q4, c4, rfl⟩ := s4.form
  have Q4 := s4.len; subst Q4
  have GB := Lib.hid (gb_five (w := w4) (V := w4) (b := w2.heap.size) ((Up.refl w4).gb _) (.slice R0 g0 o0) (.slice R1 g1 o1) (.slice R2 g2 o2) (.slice R3 g3 o3) (.slice R4 g4 o4))
  have lt3 : w2.heap.size < (w3.alloc (.cells #[.int .i64 m0, .int .i64 m1, .int .i64 m2, .int .i64 m3, .int .i64 m4, .int .i64 m5, .int .i64 m6] 90)).heap.size := by rw [World.size_alloc]; omega
  have K4 := Lib.hid (k4.gb GB.out f4 lt3)
  have F4 := Lib.hid (f4.base V3.out)
  have lt0 : w.heap.size < (w.alloc (.cells #[.int .i64 0, .slice none 0 0, .slice none 0 0, .slice none 0 0, .slice none 0 0, .slice none 0 0, .string ⟨#[]⟩] 29)).heap.size := by rw [World.size_alloc]; omega
  have U5 := Lib.hid (gb_up (b := w2.heap.size) (U3.out.trans u4) GB.out (by omega))
  have Y5 := Lib.hid ((Y3.out.up u4).five (.slice R0 g0 o0) (.slice R1 g1 o1) (.slice R2 g2 o2) (.slice R3 g3 o3) (.slice R4 g4 o4))
  have H5 := Lib.hid (Bx7.gb GB.out (show Bx7 w4 w3.heap.size (.int .i64 m0) (.int .i64 m1) (.int .i64 m2) (.int .i64 m3) (.int .i64 m4) (.int .i64 m5) (.int .i64 m6) from HB3.out.up u4) (by omega))
  have X5 := Lib.hid (Bx7.gb GB.out ((X0.out.up V3.out).up u4) (by omega))
  have E5 := Lib.hid (((F0.out.up V3.out).up u4).five (b := w2.heap.size) (.slice R0 g0 o0) (.slice R1 g1 o1) (.slice R2 g2 o2) (.slice R3 g3 o3) (.slice R4 g4 o4))
  have S5 := Lib.hid ((s4.up u4).five (Y3.out.up u4) (.slice R0 g0 o0) (.slice R1 g1 o1) (.slice R2 g2 o2) (.slice R3 g3 o3) (.slice R4 g4 o4))
  obtain ⟨y0, y1, y2, y3, y4⟩ := Y3.out.up u4
  obtain ⟨_, fz⟩ := G3.out.up u4
  have z0 := fz 0; have z1 := fz 1; have z2 := fz 2; have z3 := fz 3; have z4 := fz 4
  go_wp2_with fail
  clear k4 f4 s4 u4 GB lt3 fz y0 y1 y2 y3 y4 z0 z1 z2 z3 z4 Y3 G3 HB3 UM U3 V3 S3 h0 j0 j1 j2 j3 j4 j5 j6 X0 F0 RN RB2
  unfold five at K4 U5 Y5 H5 X5 E5 S5
  generalize ((((w4.setCell ⟨w2.heap.size, 0, none⟩ (.slice R0 g0 o0)).setCell ⟨w2.heap.size, 1, none⟩ (.slice R1 g1 o1)).setCell ⟨w2.heap.size, 2, none⟩ (.slice R2 g2 o2)).setCell ⟨w2.heap.size, 3, none⟩ (.slice R3 g3 o3)).setCell ⟨w2.heap.size, 4, none⟩ (.slice R4 g4 o4) = V at *
  obtain ⟨j0, _, _, _, _, _, _⟩ := H5.out
  obtain ⟨y0, y1, y2, y3, y4⟩ := Y5.out
  have RFV := Lib.hid (fun w1 (u : Up V w1) => RF.out _ w1 (S5.out.up u))
  clear RF S5
  obtain ⟨Y0, Y1, Y2, Y3, Y4⟩ := Y5.out
  refine wp_region_pan (n := 6) (G := hG w3.heap.size (.slice A4 t.length c4)) (by kernel_rfl) (by kernel_rfl) (by kernel_rfl) (by kernel_rfl) (by kernel_rfl) (fun _ _ _ _ h _ => h) ?step ?last
  case step =>
    intro i o hi ho a w' u df old pre
    have p6 : a.tmps.getD 6 undef = .pointer (some ⟨w3.heap.size, 0, none⟩) := getD_some ((old 6 (by kernel_rfl)).trans rfl)
    have p5 : a.tmps.getD 5 undef = .pointer (some ⟨w2.heap.size, 0, none⟩) := getD_some ((old 5 (by kernel_rfl)).trans rfl)
    have p4 : a.tmps.getD 4 undef = .slice A4 t.length c4 := getD_some ((old 4 (by kernel_rfl)).trans rfl)
    clear old
    have hi' : i = 0 ∨ i = 1 ∨ i = 2 ∨ i = 3 ∨ i = 4 ∨ i = 5 := by omega
    rcases hi' with rfl | rfl | rfl | rfl | rfl | rfl
    · injection ho with ho; subst ho
      exact wp_val (v := .pointer (some ⟨w3.heap.size, 0, none⟩)) (w' := w') (by unfold execOp; simp [go_sem, tg p6]) ⟨_, rfl, fun d hd => (by injection hd with hd; subst hd; rfl), Up.refl _⟩
    · injection ho with ho; subst ho
      have q : a.tmps.getD 46 undef = .pointer (some ⟨w3.heap.size, 0, none⟩) := pre ⟨0, .data⟩ (by simp) rfl _ 46 rfl rfl
      have c := u.cell j0
      exact wp_val (v := .int .i64 m0) (w' := w') (by unfold execOp; simp [go_sem, tg q, c]) ⟨_, rfl, fun d hd => (by injection hd with hd; subst hd; trivial), Up.refl _⟩
    · injection ho with ho; subst ho
      have e0 := u.cell Y0; have e1 := u.cell Y1; have e2 := u.cell Y2; have e3 := u.cell Y3; have e4 := u.cell Y4
      exact wp_val (v := .agg #[.slice R0 g0 o0, .slice R1 g1 o1, .slice R2 g2 o2, .slice R3 g3 o3, .slice R4 g4 o4]) (w' := w') (by unfold execOp; simp [go_sem, tg p5, e0, e1, e2, e3, e4]) ⟨_, rfl, fun d hd => (by injection hd with hd; subst hd; trivial), Up.refl _⟩
    · injection ho with ho; subst ho
      exact wp_val (v := .slice A4 t.length c4) (w' := w') (by unfold execOp; simp [go_sem, tg p4]) ⟨_, rfl, fun d hd => (by injection hd with hd; subst hd; rfl), Up.refl _⟩
    · injection ho with ho; subst ho
      have q : a.tmps.getD 49 undef = .slice A4 t.length c4 := pre ⟨3, .data⟩ (by simp) rfl _ 49 rfl rfl
      refine wp_callP 49 _ _ rfl q ((RFV.out w' u).mono ?_)
      rintro e w9 ⟨rfl, u9⟩
      exact ⟨_, rfl, df, rfl, U5.out.trans (u.trans u9)⟩
    · injection ho with ho; subst ho
      exact absurd (pre ⟨4, .data⟩ (by simp) rfl _ 50 rfl rfl) id
  case last =>
    intro o ho a w' u sz df old all
    exact absurd (all 4 _ 50 (by omega) rfl rfl) id

set_option maxRecDepth 100000 in
set_option maxHeartbeats 4000000 in
theorem read_i (v : Value) (l : List UInt8) (w : World) (hs : Sb w v l) (hi : isH l = true) (hb : hB l 4 = 0) (h1 : vH l ≠ 1) (hj : isH (hR l 4) = true) (hn : vH (hR l 4) = vH l) (hc : hB (hR l 4) 8 = 0) (hf : footE (hR (hR l 4) 8) = 0) :
    Calls Tryz.prog 39 #[v] w fun e w' => RdF w ⟨vH (hR l 4), hX (hR l 4) 8, footT (hR (hR l 4) 8)⟩ e w' := by
  unfold RdF
  have RN := Lib.hid (fun n w => refuse_no n w)
  have X0 := Lib.hid (Bx7.new w (.int .i64 0) (.slice none 0 0) (.slice none 0 0) (.slice none 0 0) (.slice none 0 0) (.slice none 0 0) (.string ⟨#[]⟩) 29)
  have F0 := Lib.hid (Free.new w #[.int .i64 0, .slice none 0 0, .slice none 0 0, .slice none 0 0, .slice none 0 0, .slice none 0 0, .string ⟨#[]⟩] 29)
  have U0 := Lib.hid (Up.alloc w (.cells #[.int .i64 0, .slice none 0 0, .slice none 0 0, .slice none 0 0, .slice none 0 0, .slice none 0 0, .string ⟨#[]⟩] 29))
  have HR := Lib.hid (rheader_yes v l _ (hs.up U0.out) hi)
  have RB := Lib.hid (fun v' w1 (h : Sb w1 v' (l.drop 44)) => rblk_yes v' l 4 w1 h hi (.inl rfl) hb)
  unfold RbP at RB
  obtain ⟨A, n, c, rfl⟩ := hs.form
  generalize hX l 4 = X1 at *
  generalize hR l 4 = r at *
  clear hs hi hb
  rw [show versI (l.getD 4 0) = vH l from rfl] at HR RB
  generalize vH l = n0 at *
  generalize cntI l 0 = n1 at HR RB
  generalize cntI l 1 = n2 at HR RB
  generalize cntI l 2 = n3 at HR RB
  generalize cntI l 3 = n4 at HR RB
  generalize cntI l 4 = n5 at HR RB
  generalize cntI l 5 = n6 at HR RB
  unfold hv at HR RB
  have HR2 := Lib.hid (fun v w (h : Sb w v r) => rheader_yes v r w h hj)
  have RB2 := Lib.hid (fun v' w1 (h : Sb w1 v' (r.drop 44)) => rblk_yes v' r 8 w1 h hj (.inr rfl) hc)
  unfold RbP at RB2
  have RF := Lib.hid (fun v w1 (h : Sb w1 v (hR r 8)) => (rfoot_any v (hR r 8) w1 h).2 hf)
  generalize footT (hR r 8) = k at *
  generalize hX r 8 = X2 at *
  generalize hR r 8 = t at *
  rw [show versI (r.getD 4 0) = vH r from rfl] at HR2 RB2
  generalize vH r = m0 at *
  generalize cntI r 0 = m1 at HR2 RB2
  generalize cntI r 1 = m2 at HR2 RB2
  generalize cntI r 2 = m3 at HR2 RB2
  generalize cntI r 3 = m4 at HR2 RB2
  generalize cntI r 4 = m5 at HR2 RB2
  generalize cntI r 5 = m6 at HR2 RB2
  unfold hv at HR2 RB2
  have hv1 : (n0 == 1) = false := by simp [h1]
  have hw : (m0 != n0) = false := by simpa using hn
  clear h1 hj hn hc hf
  go_enter Tryz.func39, Tryz.ntmps39
  go_wp2_with fail
  refine HR.out.mono ?_; rintro e w1 ⟨v1, rfl, s1, u1⟩
  obtain ⟨A1, q1, c1, rfl⟩ := s1.form
  have U1 := Lib.hid (U0.out.trans u1)
  have V1 := Lib.hid u1
  have S1 := Lib.hid (s1.up u1)
  have sz1 : w.heap.size + 1 ≤ w1.heap.size := by have := u1.size; rw [World.size_alloc] at this; exact this
  clear s1 u1 HR
  go_wp2_with fail
  have UA := Lib.hid (Up.alloc w1 (.cells #[.int .i64 n0, .int .i64 n1, .int .i64 n2, .int .i64 n3, .int .i64 n4, .int .i64 n5, .int .i64 n6] 90))
  refine (RB.out _ _ (S1.out.up UA.out)).mono ?_
  rintro e w2 ⟨b1, v2, rfl, k2, f2, s2, u2⟩
  obtain ⟨P0, p0, d0, P1, p1, d1, P2, p2, d2, P3, p3, d3, P4, p4, d4, rfl⟩ := k2.form
  obtain ⟨A2, q2, c2, rfl⟩ := s2.form
  have Q2 := s2.len; subst Q2
  have HB1 := Lib.hid ((HBox.new w1 n0 n1 n2 n3 n4 n5 n6 90).up u2)
  have U2 := Lib.hid ((U1.out.trans UA.out).trans u2)
  have V2 := Lib.hid ((V1.out.trans UA.out).trans u2)
  have K2 := Lib.hid k2
  have F2 := Lib.hid f2
  have S2 := Lib.hid (s2.up u2)
  have sz2 : w1.heap.size + 1 ≤ w2.heap.size := by have := u2.size; rw [World.size_alloc] at this; exact this
  clear k2 f2 s2 u2 RB UA S1
  obtain ⟨h0, h1, h2, h3, h4, h5, h6⟩ := HB1.out.up (Up.alloc w2 (.cells #[.slice P0 p0 d0, .slice P1 p1 d1, .slice P2 p2 d2, .slice P3 p3 d3, .slice P4 p4 d4] 27))
  go_wp2_with fail
  have UV := Lib.hid (Up.alloc w2 (.cells #[.slice P0 p0 d0, .slice P1 p1 d1, .slice P2 p2 d2, .slice P3 p3 d3, .slice P4 p4 d4] 27))
  refine (HR2.out _ _ (S2.out.up UV.out)).mono ?_; rintro e w3 ⟨v3, rfl, s3, u3⟩
  obtain ⟨A3, q3, c3, rfl⟩ := s3.form
  have UM := Lib.hid (Up.alloc w3 (.cells #[.int .i64 m0, .int .i64 m1, .int .i64 m2, .int .i64 m3, .int .i64 m4, .int .i64 m5, .int .i64 m6] 90))
  have U3 := Lib.hid (((U2.out.trans UV.out).trans u3).trans UM.out)
  have V3 := Lib.hid (((V2.out.trans UV.out).trans u3).trans UM.out)
  have S3 := Lib.hid ((s3.up u3).up UM.out)
  have Y3 := Lib.hid (((Bx5.new w2 (.slice P0 p0 d0) (.slice P1 p1 d1) (.slice P2 p2 d2) (.slice P3 p3 d3) (.slice P4 p4 d4) 27).up u3).up UM.out)
  have G3 := Lib.hid (((Free.new w2 #[.slice P0 p0 d0, .slice P1 p1 d1, .slice P2 p2 d2, .slice P3 p3 d3, .slice P4 p4 d4] 27).up u3).up UM.out)
  have HB3 := Lib.hid (HBox.new w3 m0 m1 m2 m3 m4 m5 m6 90)
  have sz3 : w2.heap.size + 1 ≤ w3.heap.size := by have := u3.size; rw [World.size_alloc] at this; exact this
  obtain ⟨h0, _, _, _, _, _, _⟩ := ((HB1.out.up UV.out).up u3).up UM.out
  obtain ⟨j0, j1, j2, j3, j4, j5, j6⟩ := HB3.out
  clear s3 u3 HR2 UV HB1 S2 h1 h2 h3 h4 h5 h6 U2 V2 K2 F2
  go_wp2_with fail
  refine (RN.out _ _).mono ?_; rintro e w4 ⟨rfl, rfl⟩
  go_wp2_with fail
  refine (RB2.out _ _ S3.out).mono ?_; rintro e w4 ⟨b2, v4, rfl, k4, f4, s4, u4⟩
  obtain ⟨R0, g0, o0, R1, g1, o1, R2, g2, o2, R3, g3, o3, R4, g4, o4, rfl⟩ := k4.form
  obtain ⟨A4, q4, c4, rfl⟩ := s4.form
  have Q4 := s4.len; subst Q4
  have GB := Lib.hid (gb_five (w := w4) (V := w4) (b := w2.heap.size) ((Up.refl w4).gb _) (.slice R0 g0 o0) (.slice R1 g1 o1) (.slice R2 g2 o2) (.slice R3 g3 o3) (.slice R4 g4 o4))
  have lt3 : w2.heap.size < (w3.alloc (.cells #[.int .i64 m0, .int .i64 m1, .int .i64 m2, .int .i64 m3, .int .i64 m4, .int .i64 m5, .int .i64 m6] 90)).heap.size := by rw [World.size_alloc]; omega
  have K4 := Lib.hid (k4.gb GB.out f4 lt3)
  have F4 := Lib.hid (f4.base V3.out)
  have lt0 : w.heap.size < (w.alloc (.cells #[.int .i64 0, .slice none 0 0, .slice none 0 0, .slice none 0 0, .slice none 0 0, .slice none 0 0, .string ⟨#[]⟩] 29)).heap.size := by rw [World.size_alloc]; omega
  have U5 := Lib.hid (gb_up (b := w2.heap.size) (U3.out.trans u4) GB.out (by omega))
  have Y5 := Lib.hid ((Y3.out.up u4).five (.slice R0 g0 o0) (.slice R1 g1 o1) (.slice R2 g2 o2) (.slice R3 g3 o3) (.slice R4 g4 o4))
  have H5 := Lib.hid (Bx7.gb GB.out (show Bx7 w4 w3.heap.size (.int .i64 m0) (.int .i64 m1) (.int .i64 m2) (.int .i64 m3) (.int .i64 m4) (.int .i64 m5) (.int .i64 m6) from HB3.out.up u4) (by omega))
  have X5 := Lib.hid (Bx7.gb GB.out ((X0.out.up V3.out).up u4) (by omega))
  have E5 := Lib.hid (((F0.out.up V3.out).up u4).five (b := w2.heap.size) (.slice R0 g0 o0) (.slice R1 g1 o1) (.slice R2 g2 o2) (.slice R3 g3 o3) (.slice R4 g4 o4))
  have S5 := Lib.hid ((s4.up u4).five (Y3.out.up u4) (.slice R0 g0 o0) (.slice R1 g1 o1) (.slice R2 g2 o2) (.slice R3 g3 o3) (.slice R4 g4 o4))
  obtain ⟨y0, y1, y2, y3, y4⟩ := Y3.out.up u4
  obtain ⟨_, fz⟩ := G3.out.up u4
  have z0 := fz 0; have z1 := fz 1; have z2 := fz 2; have z3 := fz 3; have z4 := fz 4
  go_wp2_with fail
  clear k4 f4 s4 u4 GB lt3 fz y0 y1 y2 y3 y4 z0 z1 z2 z3 z4 Y3 G3 HB3 UM U3 V3 S3 h0 j0 j1 j2 j3 j4 j5 j6 X0 F0 RN RB2
  unfold five at K4 U5 Y5 H5 X5 E5 S5
  generalize ((((w4.setCell ⟨w2.heap.size, 0, none⟩ (.slice R0 g0 o0)).setCell ⟨w2.heap.size, 1, none⟩ (.slice R1 g1 o1)).setCell ⟨w2.heap.size, 2, none⟩ (.slice R2 g2 o2)).setCell ⟨w2.heap.size, 3, none⟩ (.slice R3 g3 o3)).setCell ⟨w2.heap.size, 4, none⟩ (.slice R4 g4 o4) = V at *
  obtain ⟨j0, _, _, _, _, _, _⟩ := H5.out
  obtain ⟨y0, y1, y2, y3, y4⟩ := Y5.out
  have RFV := Lib.hid (fun w1 (u : Up V w1) => RF.out _ w1 (S5.out.up u))
  clear RF S5 H5
  have C7 := Lib.hid (show V.cell? ⟨w3.heap.size, 0, none⟩ = some (.int .i64 m0) ∧ Bx5 V w2.heap.size (.slice R0 g0 o0) (.slice R1 g1 o1) (.slice R2 g2 o2) (.slice R3 g3 o3) (.slice R4 g4 o4) ∧ Bx7 V w.heap.size (.int .i64 0) (.slice none 0 0) (.slice none 0 0) (.slice none 0 0) (.slice none 0 0) (.slice none 0 0) (.string ⟨#[]⟩) ∧ Free V w.heap.size from ⟨j0, Y5.out, X5.out, E5.out⟩)
  clear X5 E5 Y5
  go_region_with (go_at_call 54; refine (RFV.out { V with drawn := V.drawn + 1 } (Up.drewN V 1)).mono ?_; rintro e w9 ⟨rfl, u9⟩; have u8 : Hid (Up V w9) := Lib.hid ((Up.drewN V 1).trans u9); obtain ⟨j0, ⟨y0, y1, y2, y3, y4⟩, ⟨x0, x1, x2, x3, x4, x5, x6⟩, ⟨_, fz⟩⟩ := (show w9.cell? ⟨w3.heap.size, 0, none⟩ = some (.int .i64 m0) ∧ Bx5 w9 w2.heap.size (.slice R0 g0 o0) (.slice R1 g1 o1) (.slice R2 g2 o2) (.slice R3 g3 o3) (.slice R4 g4 o4) ∧ Bx7 w9 w.heap.size (.int .i64 0) (.slice none 0 0) (.slice none 0 0) (.slice none 0 0) (.slice none 0 0) (.slice none 0 0) (.string ⟨#[]⟩) ∧ Free w9 w.heap.size from ⟨u8.out.cell C7.out.1, C7.out.2.1.up u8.out, C7.out.2.2.1.up u8.out, C7.out.2.2.2.up u8.out⟩); have f0 := fz 0; have f1 := fz 1; have f2 := fz 2; have f3 := fz 3; have f4 := fz 4; have f5 := fz 5; have f6 := fz 6; clear fz u9)
  all_goals
    have GS := Lib.hid (gb_seven (w := w9) (V := w9) (b := w.heap.size) ((Up.refl w9).gb _) (.int .i64 m0) (.slice R0 g0 o0) (.slice R1 g1 o1) (.slice R2 g2 o2) (.slice R3 g3 o3) (.slice R4 g4 o4) (.string k))
    have KF := Lib.hid ((K4.out.up u8.out).gb GS.out F4.out lt0)
    have UF := Lib.hid (gb_up (b := w.heap.size) (U5.out.trans u8.out) GS.out (Nat.le_refl _))
    go_wp2_with fail
    refine bodyPost_ret (v := .agg #[.int .i64 m0, .slice R0 g0 o0, .slice R1 g1 o1, .slice R2 g2 o2, .slice R3 g3 o3, .slice R4 g4 o4, .string k]) (by simp [results, Tryz.results39, go_sem, x0, x1, x2, x3, x4, x5, x6]) rfl ?_
    exact ⟨_, rfl, ⟨_, _, _, _, _, rfl, KF.out⟩, ⟨_, _, _, _, _, _, _, rfl, F4.out.base U0.out⟩, UF.out⟩

end Go.Proofs.YtaljddoenjgbfaaGreat
