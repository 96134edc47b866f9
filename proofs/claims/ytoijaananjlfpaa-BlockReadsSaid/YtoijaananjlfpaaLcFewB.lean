/-
  few: a block, cut, in new memory.
-/
import Derived.Test.YtoijaananjlfpaaLcFewA
import Derived.StillTailTactics
namespace Go.Proofs.Ytoijaananjlfpaa
open Go.ChangeShapes Go.WideShapes Go.ChangeAt Go.RowKit Lc

theorem getD_some {t : Array Value} {i : Nat} {v : Value} (h : t[i]? = some v) : t.getD i undef = v := by rw [Array.getD_eq_getD_getElem?, h]; rfl
theorem row_form {w : World} {base : Nat} {e : TypeId} {size : Nat} {v : Value} {n : Nat} {xs : List Value} (h : w.ownsRow base e size v n xs) : ∃ A c, v = .slice A n c := by
  rcases h.2 with ⟨rfl, rfl⟩ | ⟨g, cap, cur, rfl, _⟩
  · exact ⟨_, _, rfl⟩
  · exact ⟨_, _, rfl⟩
section
variable (W : World) (B : Nat) (A0 A1 A2 A3 A4 : Option Addr) (c0 c1 c2 c3 c4 : Nat) (x : Blk)
theorem st0_0 (w : World) (a : Act) (o : Oper) (u : Up W w)  (hd : o.dst = some 5) (ho : o.op = .buildSlice 22 0 #[]) :
    ∃ v w', (execOp a.eval o).run Try.prog w = .ok (.value v) w' ∧ (∀ d, o.dst = some d → fG W.heap.size B A0 A1 A2 A3 A4 c0 c1 c2 c3 c4 x d v w') ∧ Up w w' := by
  exact ⟨_, _, ex_newK w a o ho, (fun d hd' => by rw [hd] at hd'; injection hd' with hd'; subst hd'; exact (show gP W.heap.size B 0 56 3 A0 x.ks.length c0 (cut5 x).ks.length (kc (cut5 x).ks) 0 _ _ from ⟨_, rfl, World.ownsRow_made w #[] 0 u.size (Nat.zero_le _) rfl⟩)), Up.alloc _ _⟩
theorem st0_1 (w : World) (a : Act) (o : Oper) (_ : Up W w) (h1 : a.tmps.getD 1 undef = .pointer (some ⟨B, 0, none⟩)) (hd : o.dst = some 6) (ho : o.op = .fieldAddr 27 (.tmp 1) 0) :
    ∃ v w', (execOp a.eval o).run Try.prog w = .ok (.value v) w' ∧ (∀ d, o.dst = some d → fG W.heap.size B A0 A1 A2 A3 A4 c0 c1 c2 c3 c4 x d v w') ∧ Up w w' := by
  exact ⟨_, _, ex_fld w a o 1 B h1 0 (by decide) ho, (fun d hd' => by rw [hd] at hd'; injection hd' with hd'; subst hd'; exact (show gP W.heap.size B 0 56 3 A0 x.ks.length c0 (cut5 x).ks.length (kc (cut5 x).ks) 1 _ w from rfl)), Up.refl _⟩
theorem st0_3 (w : World) (a : Act) (o : Oper) (_ : Up W w) (h1 : a.tmps.getD 1 undef = .pointer (some ⟨B, 0, none⟩)) (hd : o.dst = some 8) (ho : o.op = .fieldAddr 27 (.tmp 1) 0) :
    ∃ v w', (execOp a.eval o).run Try.prog w = .ok (.value v) w' ∧ (∀ d, o.dst = some d → fG W.heap.size B A0 A1 A2 A3 A4 c0 c1 c2 c3 c4 x d v w') ∧ Up w w' := by
  exact ⟨_, _, ex_fld w a o 1 B h1 0 (by decide) ho, (fun d hd' => by rw [hd] at hd'; injection hd' with hd'; subst hd'; exact (show gP W.heap.size B 0 56 3 A0 x.ks.length c0 (cut5 x).ks.length (kc (cut5 x).ks) 3 _ w from rfl)), Up.refl _⟩
theorem st0_2 (w : World) (a : Act) (o : Oper) (u : Up W w) (bx : W.cell? ⟨B, 0, none⟩ = some (.slice A0 x.ks.length c0)) (h6 : fG W.heap.size B A0 A1 A2 A3 A4 c0 c1 c2 c3 c4 x 6 (a.tmps.getD 6 undef) w) (hd : o.dst = some 7) (ho : o.op = .load 22 (.tmp 6)) :
    ∃ v w', (execOp a.eval o).run Try.prog w = .ok (.value v) w' ∧ (∀ d, o.dst = some d → fG W.heap.size B A0 A1 A2 A3 A4 c0 c1 c2 c3 c4 x d v w') ∧ Up w w' := by
  exact ⟨_, _, ex_ldK w a o B 0 6 _ h6 (u.cell bx) ho, (fun d hd' => by rw [hd] at hd'; injection hd' with hd'; subst hd'; exact (show gP W.heap.size B 0 56 3 A0 x.ks.length c0 (cut5 x).ks.length (kc (cut5 x).ks) 2 _ w from rfl)), Up.refl _⟩
theorem st0_4 (w : World) (a : Act) (o : Oper) (u : Up W w) (bx : W.cell? ⟨B, 0, none⟩ = some (.slice A0 x.ks.length c0)) (h8 : fG W.heap.size B A0 A1 A2 A3 A4 c0 c1 c2 c3 c4 x 8 (a.tmps.getD 8 undef) w) (hd : o.dst = some 9) (ho : o.op = .load 22 (.tmp 8)) :
    ∃ v w', (execOp a.eval o).run Try.prog w = .ok (.value v) w' ∧ (∀ d, o.dst = some d → fG W.heap.size B A0 A1 A2 A3 A4 c0 c1 c2 c3 c4 x d v w') ∧ Up w w' := by
  exact ⟨_, _, ex_ldK w a o B 0 8 _ h8 (u.cell bx) ho, (fun d hd' => by rw [hd] at hd'; injection hd' with hd'; subst hd'; exact (show gP W.heap.size B 0 56 3 A0 x.ks.length c0 (cut5 x).ks.length (kc (cut5 x).ks) 4 _ w from rfl)), Up.refl _⟩
theorem st0_5 (w : World) (a : Act) (o : Oper) (_ : Up W w) (h9 : fG W.heap.size B A0 A1 A2 A3 A4 c0 c1 c2 c3 c4 x 9 (a.tmps.getD 9 undef) w) (hd : o.dst = some 10) (ho : o.op = .call { callee := .builtin .len, args := #[.tmp 9], argTypes := #[22] }) :
    ∃ v w', (execOp a.eval o).run Try.prog w = .ok (.value v) w' ∧ (∀ d, o.dst = some d → fG W.heap.size B A0 A1 A2 A3 A4 c0 c1 c2 c3 c4 x d v w') ∧ Up w w' := by
  exact ⟨_, _, ex_lenK w a o 9 A0 x.ks.length c0 h9 ho, (fun d hd' => by rw [hd] at hd'; injection hd' with hd'; subst hd'; exact (show gP W.heap.size B 0 56 3 A0 x.ks.length c0 (cut5 x).ks.length (kc (cut5 x).ks) 5 _ w from rfl)), Up.refl _⟩
theorem st0_6 (w : World) (a : Act) (o : Oper) (_ : Up W w) (h10 : fG W.heap.size B A0 A1 A2 A3 A4 c0 c1 c2 c3 c4 x 10 (a.tmps.getD 10 undef) w) (ht : o.type = 3) (hd : o.dst = some 11) (ho : o.op = .call { callee := .builtin .min, args := #[.tmp 10, .const (.int .i64 40)], argTypes := #[3, 3] }) :
    ∃ v w', (execOp a.eval o).run Try.prog w = .ok (.value v) w' ∧ (∀ d, o.dst = some d → fG W.heap.size B A0 A1 A2 A3 A4 c0 c1 c2 c3 c4 x d v w') ∧ Up w w' := by
  have e : min (x.ks.length : Int) 40 = ((cut5 x).ks.length : Int) := by show _ = ((x.ks.take 40).length : Int); rw [List.length_take]; omega
  refine ⟨_, _, ex_min w a o 10 x.ks.length 40 h10 ho ht, (fun d hd' => by rw [hd] at hd'; injection hd' with hd'; subst hd'; exact (show gP W.heap.size B 0 56 3 A0 x.ks.length c0 (cut5 x).ks.length (kc (cut5 x).ks) 6 _ w from congrArg (Value.int .i64) e)), Up.refl _⟩
theorem st0_7 (w : World) (a : Act) (o : Oper) (_ : Up W w) (hc : x.ks.length ≤ c0) (h7 : fG W.heap.size B A0 A1 A2 A3 A4 c0 c1 c2 c3 c4 x 7 (a.tmps.getD 7 undef) w) (h11 : fG W.heap.size B A0 A1 A2 A3 A4 c0 c1 c2 c3 c4 x 11 (a.tmps.getD 11 undef) w) (hd : o.dst = some 12) (ho : o.op = .slice 22 (.tmp 7) none (some (.tmp 11)) none) :
    ∃ v w', (execOp a.eval o).run Try.prog w = .ok (.value v) w' ∧ (∀ d, o.dst = some d → fG W.heap.size B A0 A1 A2 A3 A4 c0 c1 c2 c3 c4 x d v w') ∧ Up w w' := by
  have e : (cut5 x).ks.length ≤ x.ks.length := by show (x.ks.take 40).length ≤ _; rw [List.length_take]; omega
  exact ⟨_, _, ex_cutK w a o 7 11 A0 x.ks.length c0 (cut5 x).ks.length (by omega) h7 h11 ho, (fun d hd' => by rw [hd] at hd'; injection hd' with hd'; subst hd'; exact (show gP W.heap.size B 0 56 3 A0 x.ks.length c0 (cut5 x).ks.length (kc (cut5 x).ks) 7 _ w from rfl)), Up.refl _⟩
theorem st0_8 (w : World) (a : Act) (o : Oper) (u : Up W w) (r : Rc W A0 (kc x.ks)) (h5 : fG W.heap.size B A0 A1 A2 A3 A4 c0 c1 c2 c3 c4 x 5 (a.tmps.getD 5 undef) w) (h12 : fG W.heap.size B A0 A1 A2 A3 A4 c0 c1 c2 c3 c4 x 12 (a.tmps.getD 12 undef) w) (hd : o.dst = some 13) (ho : o.op = .call { callee := .builtin .append, args := #[.tmp 5, .tmp 12], argTypes := #[22, 22] }) :
    ∃ v w', (execOp a.eval o).run Try.prog w = .ok (.value v) w' ∧ (∀ d, o.dst = some d → fG W.heap.size B A0 A1 A2 A3 A4 c0 c1 c2 c3 c4 x d v w') ∧ Up w w' := by
  obtain ⟨g, hg, hown⟩ := (show gP W.heap.size B 0 56 3 A0 x.ks.length c0 (cut5 x).ks.length (kc (cut5 x).ks) 0 _ _ from h5)
  have e : (cut5 x).ks.length ≤ 1000 := by show (x.ks.take 40).length ≤ _; rw [List.length_take]; omega
  obtain ⟨v', w', h1, h2, h3⟩ := ex_appK w a o W.heap.size 5 12 g hg hown A0 (cut5 x).ks.length c0 (kc (cut5 x).ks) h12 (kc_len _) ((r.up u).takeK 40) (one_kc _) e u.size ho
  exact ⟨v', w', h1, (fun d hd' => by rw [hd] at hd'; injection hd' with hd'; subst hd'; exact (show gP W.heap.size B 0 56 3 A0 x.ks.length c0 (cut5 x).ks.length (kc (cut5 x).ks) 8 _ _ from h2)), h3⟩
theorem st1_0 (w : World) (a : Act) (o : Oper) (u : Up W w)  (hd : o.dst = some 14) (ho : o.op = .buildSlice 23 0 #[]) :
    ∃ v w', (execOp a.eval o).run Try.prog w = .ok (.value v) w' ∧ (∀ d, o.dst = some d → fG W.heap.size B A0 A1 A2 A3 A4 c0 c1 c2 c3 c4 x d v w') ∧ Up w w' := by
  exact ⟨_, _, ex_newJ w a o ho, (fun d hd' => by rw [hd] at hd'; injection hd' with hd'; subst hd'; exact (show gP W.heap.size B 1 54 2 A1 x.js.length c1 (cut5 x).js.length (jc (cut5 x).js) 0 _ _ from ⟨_, rfl, World.ownsRow_made w #[] 0 u.size (Nat.zero_le _) rfl⟩)), Up.alloc _ _⟩
theorem st1_1 (w : World) (a : Act) (o : Oper) (_ : Up W w) (h1 : a.tmps.getD 1 undef = .pointer (some ⟨B, 0, none⟩)) (hd : o.dst = some 15) (ho : o.op = .fieldAddr 27 (.tmp 1) 1) :
    ∃ v w', (execOp a.eval o).run Try.prog w = .ok (.value v) w' ∧ (∀ d, o.dst = some d → fG W.heap.size B A0 A1 A2 A3 A4 c0 c1 c2 c3 c4 x d v w') ∧ Up w w' := by
  exact ⟨_, _, ex_fld w a o 1 B h1 1 (by decide) ho, (fun d hd' => by rw [hd] at hd'; injection hd' with hd'; subst hd'; exact (show gP W.heap.size B 1 54 2 A1 x.js.length c1 (cut5 x).js.length (jc (cut5 x).js) 1 _ w from rfl)), Up.refl _⟩
theorem st1_3 (w : World) (a : Act) (o : Oper) (_ : Up W w) (h1 : a.tmps.getD 1 undef = .pointer (some ⟨B, 0, none⟩)) (hd : o.dst = some 17) (ho : o.op = .fieldAddr 27 (.tmp 1) 1) :
    ∃ v w', (execOp a.eval o).run Try.prog w = .ok (.value v) w' ∧ (∀ d, o.dst = some d → fG W.heap.size B A0 A1 A2 A3 A4 c0 c1 c2 c3 c4 x d v w') ∧ Up w w' := by
  exact ⟨_, _, ex_fld w a o 1 B h1 1 (by decide) ho, (fun d hd' => by rw [hd] at hd'; injection hd' with hd'; subst hd'; exact (show gP W.heap.size B 1 54 2 A1 x.js.length c1 (cut5 x).js.length (jc (cut5 x).js) 3 _ w from rfl)), Up.refl _⟩
theorem st1_2 (w : World) (a : Act) (o : Oper) (u : Up W w) (bx : W.cell? ⟨B, 1, none⟩ = some (.slice A1 x.js.length c1)) (h15 : fG W.heap.size B A0 A1 A2 A3 A4 c0 c1 c2 c3 c4 x 15 (a.tmps.getD 15 undef) w) (hd : o.dst = some 16) (ho : o.op = .load 23 (.tmp 15)) :
    ∃ v w', (execOp a.eval o).run Try.prog w = .ok (.value v) w' ∧ (∀ d, o.dst = some d → fG W.heap.size B A0 A1 A2 A3 A4 c0 c1 c2 c3 c4 x d v w') ∧ Up w w' := by
  exact ⟨_, _, ex_ldJ w a o B 1 15 _ h15 (u.cell bx) ho, (fun d hd' => by rw [hd] at hd'; injection hd' with hd'; subst hd'; exact (show gP W.heap.size B 1 54 2 A1 x.js.length c1 (cut5 x).js.length (jc (cut5 x).js) 2 _ w from rfl)), Up.refl _⟩
theorem st1_4 (w : World) (a : Act) (o : Oper) (u : Up W w) (bx : W.cell? ⟨B, 1, none⟩ = some (.slice A1 x.js.length c1)) (h17 : fG W.heap.size B A0 A1 A2 A3 A4 c0 c1 c2 c3 c4 x 17 (a.tmps.getD 17 undef) w) (hd : o.dst = some 18) (ho : o.op = .load 23 (.tmp 17)) :
    ∃ v w', (execOp a.eval o).run Try.prog w = .ok (.value v) w' ∧ (∀ d, o.dst = some d → fG W.heap.size B A0 A1 A2 A3 A4 c0 c1 c2 c3 c4 x d v w') ∧ Up w w' := by
  exact ⟨_, _, ex_ldJ w a o B 1 17 _ h17 (u.cell bx) ho, (fun d hd' => by rw [hd] at hd'; injection hd' with hd'; subst hd'; exact (show gP W.heap.size B 1 54 2 A1 x.js.length c1 (cut5 x).js.length (jc (cut5 x).js) 4 _ w from rfl)), Up.refl _⟩
theorem st1_5 (w : World) (a : Act) (o : Oper) (_ : Up W w) (h18 : fG W.heap.size B A0 A1 A2 A3 A4 c0 c1 c2 c3 c4 x 18 (a.tmps.getD 18 undef) w) (hd : o.dst = some 19) (ho : o.op = .call { callee := .builtin .len, args := #[.tmp 18], argTypes := #[23] }) :
    ∃ v w', (execOp a.eval o).run Try.prog w = .ok (.value v) w' ∧ (∀ d, o.dst = some d → fG W.heap.size B A0 A1 A2 A3 A4 c0 c1 c2 c3 c4 x d v w') ∧ Up w w' := by
  exact ⟨_, _, ex_lenJ w a o 18 A1 x.js.length c1 h18 ho, (fun d hd' => by rw [hd] at hd'; injection hd' with hd'; subst hd'; exact (show gP W.heap.size B 1 54 2 A1 x.js.length c1 (cut5 x).js.length (jc (cut5 x).js) 5 _ w from rfl)), Up.refl _⟩
theorem st1_6 (w : World) (a : Act) (o : Oper) (_ : Up W w) (h19 : fG W.heap.size B A0 A1 A2 A3 A4 c0 c1 c2 c3 c4 x 19 (a.tmps.getD 19 undef) w) (ht : o.type = 3) (hd : o.dst = some 20) (ho : o.op = .call { callee := .builtin .min, args := #[.tmp 19, .const (.int .i64 100)], argTypes := #[3, 3] }) :
    ∃ v w', (execOp a.eval o).run Try.prog w = .ok (.value v) w' ∧ (∀ d, o.dst = some d → fG W.heap.size B A0 A1 A2 A3 A4 c0 c1 c2 c3 c4 x d v w') ∧ Up w w' := by
  have e : min (x.js.length : Int) 100 = ((cut5 x).js.length : Int) := by show _ = ((x.js.take 100).length : Int); rw [List.length_take]; omega
  refine ⟨_, _, ex_min w a o 19 x.js.length 100 h19 ho ht, (fun d hd' => by rw [hd] at hd'; injection hd' with hd'; subst hd'; exact (show gP W.heap.size B 1 54 2 A1 x.js.length c1 (cut5 x).js.length (jc (cut5 x).js) 6 _ w from congrArg (Value.int .i64) e)), Up.refl _⟩
theorem st1_7 (w : World) (a : Act) (o : Oper) (_ : Up W w) (hc : x.js.length ≤ c1) (h16 : fG W.heap.size B A0 A1 A2 A3 A4 c0 c1 c2 c3 c4 x 16 (a.tmps.getD 16 undef) w) (h20 : fG W.heap.size B A0 A1 A2 A3 A4 c0 c1 c2 c3 c4 x 20 (a.tmps.getD 20 undef) w) (hd : o.dst = some 21) (ho : o.op = .slice 23 (.tmp 16) none (some (.tmp 20)) none) :
    ∃ v w', (execOp a.eval o).run Try.prog w = .ok (.value v) w' ∧ (∀ d, o.dst = some d → fG W.heap.size B A0 A1 A2 A3 A4 c0 c1 c2 c3 c4 x d v w') ∧ Up w w' := by
  have e : (cut5 x).js.length ≤ x.js.length := by show (x.js.take 100).length ≤ _; rw [List.length_take]; omega
  exact ⟨_, _, ex_cutJ w a o 16 20 A1 x.js.length c1 (cut5 x).js.length (by omega) h16 h20 ho, (fun d hd' => by rw [hd] at hd'; injection hd' with hd'; subst hd'; exact (show gP W.heap.size B 1 54 2 A1 x.js.length c1 (cut5 x).js.length (jc (cut5 x).js) 7 _ w from rfl)), Up.refl _⟩
theorem st1_8 (w : World) (a : Act) (o : Oper) (u : Up W w) (r : Rc W A1 (jc x.js)) (h14 : fG W.heap.size B A0 A1 A2 A3 A4 c0 c1 c2 c3 c4 x 14 (a.tmps.getD 14 undef) w) (h21 : fG W.heap.size B A0 A1 A2 A3 A4 c0 c1 c2 c3 c4 x 21 (a.tmps.getD 21 undef) w) (hd : o.dst = some 22) (ho : o.op = .call { callee := .builtin .append, args := #[.tmp 14, .tmp 21], argTypes := #[23, 23] }) :
    ∃ v w', (execOp a.eval o).run Try.prog w = .ok (.value v) w' ∧ (∀ d, o.dst = some d → fG W.heap.size B A0 A1 A2 A3 A4 c0 c1 c2 c3 c4 x d v w') ∧ Up w w' := by
  obtain ⟨g, hg, hown⟩ := (show gP W.heap.size B 1 54 2 A1 x.js.length c1 (cut5 x).js.length (jc (cut5 x).js) 0 _ _ from h14)
  have e : (cut5 x).js.length ≤ 1000 := by show (x.js.take 100).length ≤ _; rw [List.length_take]; omega
  obtain ⟨v', w', h1, h2, h3⟩ := ex_appJ w a o W.heap.size 14 21 g hg hown A1 (cut5 x).js.length c1 (jc (cut5 x).js) h21 (jc_len _) ((r.up u).takeJ 100) (one_jc _) e u.size ho
  exact ⟨v', w', h1, (fun d hd' => by rw [hd] at hd'; injection hd' with hd'; subst hd'; exact (show gP W.heap.size B 1 54 2 A1 x.js.length c1 (cut5 x).js.length (jc (cut5 x).js) 8 _ _ from h2)), h3⟩
theorem st2_0 (w : World) (a : Act) (o : Oper) (u : Up W w)  (hd : o.dst = some 23) (ho : o.op = .buildSlice 24 0 #[]) :
    ∃ v w', (execOp a.eval o).run Try.prog w = .ok (.value v) w' ∧ (∀ d, o.dst = some d → fG W.heap.size B A0 A1 A2 A3 A4 c0 c1 c2 c3 c4 x d v w') ∧ Up w w' := by
  exact ⟨_, _, ex_newL w a o ho, (fun d hd' => by rw [hd] at hd'; injection hd' with hd'; subst hd'; exact (show gP W.heap.size B 2 67 2 A2 x.ls.length c2 (cut5 x).ls.length (lc (cut5 x).ls) 0 _ _ from ⟨_, rfl, World.ownsRow_made w #[] 0 u.size (Nat.zero_le _) rfl⟩)), Up.alloc _ _⟩
theorem st2_1 (w : World) (a : Act) (o : Oper) (_ : Up W w) (h1 : a.tmps.getD 1 undef = .pointer (some ⟨B, 0, none⟩)) (hd : o.dst = some 24) (ho : o.op = .fieldAddr 27 (.tmp 1) 2) :
    ∃ v w', (execOp a.eval o).run Try.prog w = .ok (.value v) w' ∧ (∀ d, o.dst = some d → fG W.heap.size B A0 A1 A2 A3 A4 c0 c1 c2 c3 c4 x d v w') ∧ Up w w' := by
  exact ⟨_, _, ex_fld w a o 1 B h1 2 (by decide) ho, (fun d hd' => by rw [hd] at hd'; injection hd' with hd'; subst hd'; exact (show gP W.heap.size B 2 67 2 A2 x.ls.length c2 (cut5 x).ls.length (lc (cut5 x).ls) 1 _ w from rfl)), Up.refl _⟩
theorem st2_3 (w : World) (a : Act) (o : Oper) (_ : Up W w) (h1 : a.tmps.getD 1 undef = .pointer (some ⟨B, 0, none⟩)) (hd : o.dst = some 26) (ho : o.op = .fieldAddr 27 (.tmp 1) 2) :
    ∃ v w', (execOp a.eval o).run Try.prog w = .ok (.value v) w' ∧ (∀ d, o.dst = some d → fG W.heap.size B A0 A1 A2 A3 A4 c0 c1 c2 c3 c4 x d v w') ∧ Up w w' := by
  exact ⟨_, _, ex_fld w a o 1 B h1 2 (by decide) ho, (fun d hd' => by rw [hd] at hd'; injection hd' with hd'; subst hd'; exact (show gP W.heap.size B 2 67 2 A2 x.ls.length c2 (cut5 x).ls.length (lc (cut5 x).ls) 3 _ w from rfl)), Up.refl _⟩
theorem st2_2 (w : World) (a : Act) (o : Oper) (u : Up W w) (bx : W.cell? ⟨B, 2, none⟩ = some (.slice A2 x.ls.length c2)) (h24 : fG W.heap.size B A0 A1 A2 A3 A4 c0 c1 c2 c3 c4 x 24 (a.tmps.getD 24 undef) w) (hd : o.dst = some 25) (ho : o.op = .load 24 (.tmp 24)) :
    ∃ v w', (execOp a.eval o).run Try.prog w = .ok (.value v) w' ∧ (∀ d, o.dst = some d → fG W.heap.size B A0 A1 A2 A3 A4 c0 c1 c2 c3 c4 x d v w') ∧ Up w w' := by
  exact ⟨_, _, ex_ldL w a o B 2 24 _ h24 (u.cell bx) ho, (fun d hd' => by rw [hd] at hd'; injection hd' with hd'; subst hd'; exact (show gP W.heap.size B 2 67 2 A2 x.ls.length c2 (cut5 x).ls.length (lc (cut5 x).ls) 2 _ w from rfl)), Up.refl _⟩
theorem st2_4 (w : World) (a : Act) (o : Oper) (u : Up W w) (bx : W.cell? ⟨B, 2, none⟩ = some (.slice A2 x.ls.length c2)) (h26 : fG W.heap.size B A0 A1 A2 A3 A4 c0 c1 c2 c3 c4 x 26 (a.tmps.getD 26 undef) w) (hd : o.dst = some 27) (ho : o.op = .load 24 (.tmp 26)) :
    ∃ v w', (execOp a.eval o).run Try.prog w = .ok (.value v) w' ∧ (∀ d, o.dst = some d → fG W.heap.size B A0 A1 A2 A3 A4 c0 c1 c2 c3 c4 x d v w') ∧ Up w w' := by
  exact ⟨_, _, ex_ldL w a o B 2 26 _ h26 (u.cell bx) ho, (fun d hd' => by rw [hd] at hd'; injection hd' with hd'; subst hd'; exact (show gP W.heap.size B 2 67 2 A2 x.ls.length c2 (cut5 x).ls.length (lc (cut5 x).ls) 4 _ w from rfl)), Up.refl _⟩
theorem st2_5 (w : World) (a : Act) (o : Oper) (_ : Up W w) (h27 : fG W.heap.size B A0 A1 A2 A3 A4 c0 c1 c2 c3 c4 x 27 (a.tmps.getD 27 undef) w) (hd : o.dst = some 28) (ho : o.op = .call { callee := .builtin .len, args := #[.tmp 27], argTypes := #[24] }) :
    ∃ v w', (execOp a.eval o).run Try.prog w = .ok (.value v) w' ∧ (∀ d, o.dst = some d → fG W.heap.size B A0 A1 A2 A3 A4 c0 c1 c2 c3 c4 x d v w') ∧ Up w w' := by
  exact ⟨_, _, ex_lenL w a o 27 A2 x.ls.length c2 h27 ho, (fun d hd' => by rw [hd] at hd'; injection hd' with hd'; subst hd'; exact (show gP W.heap.size B 2 67 2 A2 x.ls.length c2 (cut5 x).ls.length (lc (cut5 x).ls) 5 _ w from rfl)), Up.refl _⟩
theorem st2_6 (w : World) (a : Act) (o : Oper) (_ : Up W w) (h28 : fG W.heap.size B A0 A1 A2 A3 A4 c0 c1 c2 c3 c4 x 28 (a.tmps.getD 28 undef) w) (ht : o.type = 3) (hd : o.dst = some 29) (ho : o.op = .call { callee := .builtin .min, args := #[.tmp 28, .const (.int .i64 50)], argTypes := #[3, 3] }) :
    ∃ v w', (execOp a.eval o).run Try.prog w = .ok (.value v) w' ∧ (∀ d, o.dst = some d → fG W.heap.size B A0 A1 A2 A3 A4 c0 c1 c2 c3 c4 x d v w') ∧ Up w w' := by
  have e : min (x.ls.length : Int) 50 = ((cut5 x).ls.length : Int) := by show _ = ((x.ls.take 50).length : Int); rw [List.length_take]; omega
  refine ⟨_, _, ex_min w a o 28 x.ls.length 50 h28 ho ht, (fun d hd' => by rw [hd] at hd'; injection hd' with hd'; subst hd'; exact (show gP W.heap.size B 2 67 2 A2 x.ls.length c2 (cut5 x).ls.length (lc (cut5 x).ls) 6 _ w from congrArg (Value.int .i64) e)), Up.refl _⟩
theorem st2_7 (w : World) (a : Act) (o : Oper) (_ : Up W w) (hc : x.ls.length ≤ c2) (h25 : fG W.heap.size B A0 A1 A2 A3 A4 c0 c1 c2 c3 c4 x 25 (a.tmps.getD 25 undef) w) (h29 : fG W.heap.size B A0 A1 A2 A3 A4 c0 c1 c2 c3 c4 x 29 (a.tmps.getD 29 undef) w) (hd : o.dst = some 30) (ho : o.op = .slice 24 (.tmp 25) none (some (.tmp 29)) none) :
    ∃ v w', (execOp a.eval o).run Try.prog w = .ok (.value v) w' ∧ (∀ d, o.dst = some d → fG W.heap.size B A0 A1 A2 A3 A4 c0 c1 c2 c3 c4 x d v w') ∧ Up w w' := by
  have e : (cut5 x).ls.length ≤ x.ls.length := by show (x.ls.take 50).length ≤ _; rw [List.length_take]; omega
  exact ⟨_, _, ex_cutL w a o 25 29 A2 x.ls.length c2 (cut5 x).ls.length (by omega) h25 h29 ho, (fun d hd' => by rw [hd] at hd'; injection hd' with hd'; subst hd'; exact (show gP W.heap.size B 2 67 2 A2 x.ls.length c2 (cut5 x).ls.length (lc (cut5 x).ls) 7 _ w from rfl)), Up.refl _⟩
theorem st2_8 (w : World) (a : Act) (o : Oper) (u : Up W w) (r : Rc W A2 (lc x.ls)) (h23 : fG W.heap.size B A0 A1 A2 A3 A4 c0 c1 c2 c3 c4 x 23 (a.tmps.getD 23 undef) w) (h30 : fG W.heap.size B A0 A1 A2 A3 A4 c0 c1 c2 c3 c4 x 30 (a.tmps.getD 30 undef) w) (hd : o.dst = some 31) (ho : o.op = .call { callee := .builtin .append, args := #[.tmp 23, .tmp 30], argTypes := #[24, 24] }) :
    ∃ v w', (execOp a.eval o).run Try.prog w = .ok (.value v) w' ∧ (∀ d, o.dst = some d → fG W.heap.size B A0 A1 A2 A3 A4 c0 c1 c2 c3 c4 x d v w') ∧ Up w w' := by
  obtain ⟨g, hg, hown⟩ := (show gP W.heap.size B 2 67 2 A2 x.ls.length c2 (cut5 x).ls.length (lc (cut5 x).ls) 0 _ _ from h23)
  have e : (cut5 x).ls.length ≤ 1000 := by show (x.ls.take 50).length ≤ _; rw [List.length_take]; omega
  obtain ⟨v', w', h1, h2, h3⟩ := ex_appL w a o W.heap.size 23 30 g hg hown A2 (cut5 x).ls.length c2 (lc (cut5 x).ls) h30 (lc_len _) ((r.up u).takeL 50) (one_lc _) e u.size ho
  exact ⟨v', w', h1, (fun d hd' => by rw [hd] at hd'; injection hd' with hd'; subst hd'; exact (show gP W.heap.size B 2 67 2 A2 x.ls.length c2 (cut5 x).ls.length (lc (cut5 x).ls) 8 _ _ from h2)), h3⟩
theorem st3_0 (w : World) (a : Act) (o : Oper) (u : Up W w)  (hd : o.dst = some 32) (ho : o.op = .buildSlice 25 0 #[]) :
    ∃ v w', (execOp a.eval o).run Try.prog w = .ok (.value v) w' ∧ (∀ d, o.dst = some d → fG W.heap.size B A0 A1 A2 A3 A4 c0 c1 c2 c3 c4 x d v w') ∧ Up w w' := by
  exact ⟨_, _, ex_newB w a o ho, (fun d hd' => by rw [hd] at hd'; injection hd' with hd'; subst hd'; exact (show gP W.heap.size B 3 4 1 A3 x.sd.length c3 (cut5 x).sd.length (oc (cut5 x).sd) 0 _ _ from ⟨_, rfl, World.ownsRow_made w #[] 0 u.size (Nat.zero_le _) rfl⟩)), Up.alloc _ _⟩
theorem st3_1 (w : World) (a : Act) (o : Oper) (_ : Up W w) (h1 : a.tmps.getD 1 undef = .pointer (some ⟨B, 0, none⟩)) (hd : o.dst = some 33) (ho : o.op = .fieldAddr 27 (.tmp 1) 3) :
    ∃ v w', (execOp a.eval o).run Try.prog w = .ok (.value v) w' ∧ (∀ d, o.dst = some d → fG W.heap.size B A0 A1 A2 A3 A4 c0 c1 c2 c3 c4 x d v w') ∧ Up w w' := by
  exact ⟨_, _, ex_fld w a o 1 B h1 3 (by decide) ho, (fun d hd' => by rw [hd] at hd'; injection hd' with hd'; subst hd'; exact (show gP W.heap.size B 3 4 1 A3 x.sd.length c3 (cut5 x).sd.length (oc (cut5 x).sd) 1 _ w from rfl)), Up.refl _⟩
theorem st3_3 (w : World) (a : Act) (o : Oper) (_ : Up W w) (h1 : a.tmps.getD 1 undef = .pointer (some ⟨B, 0, none⟩)) (hd : o.dst = some 35) (ho : o.op = .fieldAddr 27 (.tmp 1) 3) :
    ∃ v w', (execOp a.eval o).run Try.prog w = .ok (.value v) w' ∧ (∀ d, o.dst = some d → fG W.heap.size B A0 A1 A2 A3 A4 c0 c1 c2 c3 c4 x d v w') ∧ Up w w' := by
  exact ⟨_, _, ex_fld w a o 1 B h1 3 (by decide) ho, (fun d hd' => by rw [hd] at hd'; injection hd' with hd'; subst hd'; exact (show gP W.heap.size B 3 4 1 A3 x.sd.length c3 (cut5 x).sd.length (oc (cut5 x).sd) 3 _ w from rfl)), Up.refl _⟩
theorem st3_2 (w : World) (a : Act) (o : Oper) (u : Up W w) (bx : W.cell? ⟨B, 3, none⟩ = some (.slice A3 x.sd.length c3)) (h33 : fG W.heap.size B A0 A1 A2 A3 A4 c0 c1 c2 c3 c4 x 33 (a.tmps.getD 33 undef) w) (hd : o.dst = some 34) (ho : o.op = .load 25 (.tmp 33)) :
    ∃ v w', (execOp a.eval o).run Try.prog w = .ok (.value v) w' ∧ (∀ d, o.dst = some d → fG W.heap.size B A0 A1 A2 A3 A4 c0 c1 c2 c3 c4 x d v w') ∧ Up w w' := by
  exact ⟨_, _, ex_ldB w a o B 3 33 _ h33 (u.cell bx) ho, (fun d hd' => by rw [hd] at hd'; injection hd' with hd'; subst hd'; exact (show gP W.heap.size B 3 4 1 A3 x.sd.length c3 (cut5 x).sd.length (oc (cut5 x).sd) 2 _ w from rfl)), Up.refl _⟩
theorem st3_4 (w : World) (a : Act) (o : Oper) (u : Up W w) (bx : W.cell? ⟨B, 3, none⟩ = some (.slice A3 x.sd.length c3)) (h35 : fG W.heap.size B A0 A1 A2 A3 A4 c0 c1 c2 c3 c4 x 35 (a.tmps.getD 35 undef) w) (hd : o.dst = some 36) (ho : o.op = .load 25 (.tmp 35)) :
    ∃ v w', (execOp a.eval o).run Try.prog w = .ok (.value v) w' ∧ (∀ d, o.dst = some d → fG W.heap.size B A0 A1 A2 A3 A4 c0 c1 c2 c3 c4 x d v w') ∧ Up w w' := by
  exact ⟨_, _, ex_ldB w a o B 3 35 _ h35 (u.cell bx) ho, (fun d hd' => by rw [hd] at hd'; injection hd' with hd'; subst hd'; exact (show gP W.heap.size B 3 4 1 A3 x.sd.length c3 (cut5 x).sd.length (oc (cut5 x).sd) 4 _ w from rfl)), Up.refl _⟩
theorem st3_5 (w : World) (a : Act) (o : Oper) (_ : Up W w) (h36 : fG W.heap.size B A0 A1 A2 A3 A4 c0 c1 c2 c3 c4 x 36 (a.tmps.getD 36 undef) w) (hd : o.dst = some 37) (ho : o.op = .call { callee := .builtin .len, args := #[.tmp 36], argTypes := #[25] }) :
    ∃ v w', (execOp a.eval o).run Try.prog w = .ok (.value v) w' ∧ (∀ d, o.dst = some d → fG W.heap.size B A0 A1 A2 A3 A4 c0 c1 c2 c3 c4 x d v w') ∧ Up w w' := by
  exact ⟨_, _, ex_lenB w a o 36 A3 x.sd.length c3 h36 ho, (fun d hd' => by rw [hd] at hd'; injection hd' with hd'; subst hd'; exact (show gP W.heap.size B 3 4 1 A3 x.sd.length c3 (cut5 x).sd.length (oc (cut5 x).sd) 5 _ w from rfl)), Up.refl _⟩
theorem st3_6 (w : World) (a : Act) (o : Oper) (_ : Up W w) (h37 : fG W.heap.size B A0 A1 A2 A3 A4 c0 c1 c2 c3 c4 x 37 (a.tmps.getD 37 undef) w) (ht : o.type = 3) (hd : o.dst = some 38) (ho : o.op = .call { callee := .builtin .min, args := #[.tmp 37, .const (.int .i64 40)], argTypes := #[3, 3] }) :
    ∃ v w', (execOp a.eval o).run Try.prog w = .ok (.value v) w' ∧ (∀ d, o.dst = some d → fG W.heap.size B A0 A1 A2 A3 A4 c0 c1 c2 c3 c4 x d v w') ∧ Up w w' := by
  have e : min (x.sd.length : Int) 40 = ((cut5 x).sd.length : Int) := by show _ = ((x.sd.take 40).length : Int); rw [List.length_take]; omega
  refine ⟨_, _, ex_min w a o 37 x.sd.length 40 h37 ho ht, (fun d hd' => by rw [hd] at hd'; injection hd' with hd'; subst hd'; exact (show gP W.heap.size B 3 4 1 A3 x.sd.length c3 (cut5 x).sd.length (oc (cut5 x).sd) 6 _ w from congrArg (Value.int .i64) e)), Up.refl _⟩
theorem st3_7 (w : World) (a : Act) (o : Oper) (_ : Up W w) (hc : x.sd.length ≤ c3) (h34 : fG W.heap.size B A0 A1 A2 A3 A4 c0 c1 c2 c3 c4 x 34 (a.tmps.getD 34 undef) w) (h38 : fG W.heap.size B A0 A1 A2 A3 A4 c0 c1 c2 c3 c4 x 38 (a.tmps.getD 38 undef) w) (hd : o.dst = some 39) (ho : o.op = .slice 25 (.tmp 34) none (some (.tmp 38)) none) :
    ∃ v w', (execOp a.eval o).run Try.prog w = .ok (.value v) w' ∧ (∀ d, o.dst = some d → fG W.heap.size B A0 A1 A2 A3 A4 c0 c1 c2 c3 c4 x d v w') ∧ Up w w' := by
  have e : (cut5 x).sd.length ≤ x.sd.length := by show (x.sd.take 40).length ≤ _; rw [List.length_take]; omega
  exact ⟨_, _, ex_cutB w a o 34 38 A3 x.sd.length c3 (cut5 x).sd.length (by omega) h34 h38 ho, (fun d hd' => by rw [hd] at hd'; injection hd' with hd'; subst hd'; exact (show gP W.heap.size B 3 4 1 A3 x.sd.length c3 (cut5 x).sd.length (oc (cut5 x).sd) 7 _ w from rfl)), Up.refl _⟩
theorem st3_8 (w : World) (a : Act) (o : Oper) (u : Up W w) (r : Rc W A3 (oc x.sd)) (h32 : fG W.heap.size B A0 A1 A2 A3 A4 c0 c1 c2 c3 c4 x 32 (a.tmps.getD 32 undef) w) (h39 : fG W.heap.size B A0 A1 A2 A3 A4 c0 c1 c2 c3 c4 x 39 (a.tmps.getD 39 undef) w) (hd : o.dst = some 40) (ho : o.op = .call { callee := .builtin .append, args := #[.tmp 32, .tmp 39], argTypes := #[25, 25] }) :
    ∃ v w', (execOp a.eval o).run Try.prog w = .ok (.value v) w' ∧ (∀ d, o.dst = some d → fG W.heap.size B A0 A1 A2 A3 A4 c0 c1 c2 c3 c4 x d v w') ∧ Up w w' := by
  obtain ⟨g, hg, hown⟩ := (show gP W.heap.size B 3 4 1 A3 x.sd.length c3 (cut5 x).sd.length (oc (cut5 x).sd) 0 _ _ from h32)
  have e : (cut5 x).sd.length ≤ 1000 := by show (x.sd.take 40).length ≤ _; rw [List.length_take]; omega
  obtain ⟨v', w', h1, h2, h3⟩ := ex_appB w a o W.heap.size 32 39 g hg hown A3 (cut5 x).sd.length c3 (oc (cut5 x).sd) h39 (by rw [oc_len, Nat.mul_one]) ((r.up u).takeB 40) (one_oc _) e u.size ho
  exact ⟨v', w', h1, (fun d hd' => by rw [hd] at hd'; injection hd' with hd'; subst hd'; exact (show gP W.heap.size B 3 4 1 A3 x.sd.length c3 (cut5 x).sd.length (oc (cut5 x).sd) 8 _ _ from h2)), h3⟩
theorem st4_0 (w : World) (a : Act) (o : Oper) (u : Up W w)  (hd : o.dst = some 41) (ho : o.op = .buildSlice 25 0 #[]) :
    ∃ v w', (execOp a.eval o).run Try.prog w = .ok (.value v) w' ∧ (∀ d, o.dst = some d → fG W.heap.size B A0 A1 A2 A3 A4 c0 c1 c2 c3 c4 x d v w') ∧ Up w w' := by
  exact ⟨_, _, ex_newB w a o ho, (fun d hd' => by rw [hd] at hd'; injection hd' with hd'; subst hd'; exact (show gP W.heap.size B 4 4 1 A4 x.ut.length c4 (cut5 x).ut.length (oc (cut5 x).ut) 0 _ _ from ⟨_, rfl, World.ownsRow_made w #[] 0 u.size (Nat.zero_le _) rfl⟩)), Up.alloc _ _⟩
theorem st4_1 (w : World) (a : Act) (o : Oper) (_ : Up W w) (h1 : a.tmps.getD 1 undef = .pointer (some ⟨B, 0, none⟩)) (hd : o.dst = some 42) (ho : o.op = .fieldAddr 27 (.tmp 1) 4) :
    ∃ v w', (execOp a.eval o).run Try.prog w = .ok (.value v) w' ∧ (∀ d, o.dst = some d → fG W.heap.size B A0 A1 A2 A3 A4 c0 c1 c2 c3 c4 x d v w') ∧ Up w w' := by
  exact ⟨_, _, ex_fld w a o 1 B h1 4 (by decide) ho, (fun d hd' => by rw [hd] at hd'; injection hd' with hd'; subst hd'; exact (show gP W.heap.size B 4 4 1 A4 x.ut.length c4 (cut5 x).ut.length (oc (cut5 x).ut) 1 _ w from rfl)), Up.refl _⟩
theorem st4_3 (w : World) (a : Act) (o : Oper) (_ : Up W w) (h1 : a.tmps.getD 1 undef = .pointer (some ⟨B, 0, none⟩)) (hd : o.dst = some 44) (ho : o.op = .fieldAddr 27 (.tmp 1) 4) :
    ∃ v w', (execOp a.eval o).run Try.prog w = .ok (.value v) w' ∧ (∀ d, o.dst = some d → fG W.heap.size B A0 A1 A2 A3 A4 c0 c1 c2 c3 c4 x d v w') ∧ Up w w' := by
  exact ⟨_, _, ex_fld w a o 1 B h1 4 (by decide) ho, (fun d hd' => by rw [hd] at hd'; injection hd' with hd'; subst hd'; exact (show gP W.heap.size B 4 4 1 A4 x.ut.length c4 (cut5 x).ut.length (oc (cut5 x).ut) 3 _ w from rfl)), Up.refl _⟩
theorem st4_2 (w : World) (a : Act) (o : Oper) (u : Up W w) (bx : W.cell? ⟨B, 4, none⟩ = some (.slice A4 x.ut.length c4)) (h42 : fG W.heap.size B A0 A1 A2 A3 A4 c0 c1 c2 c3 c4 x 42 (a.tmps.getD 42 undef) w) (hd : o.dst = some 43) (ho : o.op = .load 25 (.tmp 42)) :
    ∃ v w', (execOp a.eval o).run Try.prog w = .ok (.value v) w' ∧ (∀ d, o.dst = some d → fG W.heap.size B A0 A1 A2 A3 A4 c0 c1 c2 c3 c4 x d v w') ∧ Up w w' := by
  exact ⟨_, _, ex_ldB w a o B 4 42 _ h42 (u.cell bx) ho, (fun d hd' => by rw [hd] at hd'; injection hd' with hd'; subst hd'; exact (show gP W.heap.size B 4 4 1 A4 x.ut.length c4 (cut5 x).ut.length (oc (cut5 x).ut) 2 _ w from rfl)), Up.refl _⟩
theorem st4_4 (w : World) (a : Act) (o : Oper) (u : Up W w) (bx : W.cell? ⟨B, 4, none⟩ = some (.slice A4 x.ut.length c4)) (h44 : fG W.heap.size B A0 A1 A2 A3 A4 c0 c1 c2 c3 c4 x 44 (a.tmps.getD 44 undef) w) (hd : o.dst = some 45) (ho : o.op = .load 25 (.tmp 44)) :
    ∃ v w', (execOp a.eval o).run Try.prog w = .ok (.value v) w' ∧ (∀ d, o.dst = some d → fG W.heap.size B A0 A1 A2 A3 A4 c0 c1 c2 c3 c4 x d v w') ∧ Up w w' := by
  exact ⟨_, _, ex_ldB w a o B 4 44 _ h44 (u.cell bx) ho, (fun d hd' => by rw [hd] at hd'; injection hd' with hd'; subst hd'; exact (show gP W.heap.size B 4 4 1 A4 x.ut.length c4 (cut5 x).ut.length (oc (cut5 x).ut) 4 _ w from rfl)), Up.refl _⟩
theorem st4_5 (w : World) (a : Act) (o : Oper) (_ : Up W w) (h45 : fG W.heap.size B A0 A1 A2 A3 A4 c0 c1 c2 c3 c4 x 45 (a.tmps.getD 45 undef) w) (hd : o.dst = some 46) (ho : o.op = .call { callee := .builtin .len, args := #[.tmp 45], argTypes := #[25] }) :
    ∃ v w', (execOp a.eval o).run Try.prog w = .ok (.value v) w' ∧ (∀ d, o.dst = some d → fG W.heap.size B A0 A1 A2 A3 A4 c0 c1 c2 c3 c4 x d v w') ∧ Up w w' := by
  exact ⟨_, _, ex_lenB w a o 45 A4 x.ut.length c4 h45 ho, (fun d hd' => by rw [hd] at hd'; injection hd' with hd'; subst hd'; exact (show gP W.heap.size B 4 4 1 A4 x.ut.length c4 (cut5 x).ut.length (oc (cut5 x).ut) 5 _ w from rfl)), Up.refl _⟩
theorem st4_6 (w : World) (a : Act) (o : Oper) (_ : Up W w) (h46 : fG W.heap.size B A0 A1 A2 A3 A4 c0 c1 c2 c3 c4 x 46 (a.tmps.getD 46 undef) w) (ht : o.type = 3) (hd : o.dst = some 47) (ho : o.op = .call { callee := .builtin .min, args := #[.tmp 46, .const (.int .i64 40)], argTypes := #[3, 3] }) :
    ∃ v w', (execOp a.eval o).run Try.prog w = .ok (.value v) w' ∧ (∀ d, o.dst = some d → fG W.heap.size B A0 A1 A2 A3 A4 c0 c1 c2 c3 c4 x d v w') ∧ Up w w' := by
  have e : min (x.ut.length : Int) 40 = ((cut5 x).ut.length : Int) := by show _ = ((x.ut.take 40).length : Int); rw [List.length_take]; omega
  refine ⟨_, _, ex_min w a o 46 x.ut.length 40 h46 ho ht, (fun d hd' => by rw [hd] at hd'; injection hd' with hd'; subst hd'; exact (show gP W.heap.size B 4 4 1 A4 x.ut.length c4 (cut5 x).ut.length (oc (cut5 x).ut) 6 _ w from congrArg (Value.int .i64) e)), Up.refl _⟩
theorem st4_7 (w : World) (a : Act) (o : Oper) (_ : Up W w) (hc : x.ut.length ≤ c4) (h43 : fG W.heap.size B A0 A1 A2 A3 A4 c0 c1 c2 c3 c4 x 43 (a.tmps.getD 43 undef) w) (h47 : fG W.heap.size B A0 A1 A2 A3 A4 c0 c1 c2 c3 c4 x 47 (a.tmps.getD 47 undef) w) (hd : o.dst = some 48) (ho : o.op = .slice 25 (.tmp 43) none (some (.tmp 47)) none) :
    ∃ v w', (execOp a.eval o).run Try.prog w = .ok (.value v) w' ∧ (∀ d, o.dst = some d → fG W.heap.size B A0 A1 A2 A3 A4 c0 c1 c2 c3 c4 x d v w') ∧ Up w w' := by
  have e : (cut5 x).ut.length ≤ x.ut.length := by show (x.ut.take 40).length ≤ _; rw [List.length_take]; omega
  exact ⟨_, _, ex_cutB w a o 43 47 A4 x.ut.length c4 (cut5 x).ut.length (by omega) h43 h47 ho, (fun d hd' => by rw [hd] at hd'; injection hd' with hd'; subst hd'; exact (show gP W.heap.size B 4 4 1 A4 x.ut.length c4 (cut5 x).ut.length (oc (cut5 x).ut) 7 _ w from rfl)), Up.refl _⟩
theorem st4_8 (w : World) (a : Act) (o : Oper) (u : Up W w) (r : Rc W A4 (oc x.ut)) (h41 : fG W.heap.size B A0 A1 A2 A3 A4 c0 c1 c2 c3 c4 x 41 (a.tmps.getD 41 undef) w) (h48 : fG W.heap.size B A0 A1 A2 A3 A4 c0 c1 c2 c3 c4 x 48 (a.tmps.getD 48 undef) w) (hd : o.dst = some 49) (ho : o.op = .call { callee := .builtin .append, args := #[.tmp 41, .tmp 48], argTypes := #[25, 25] }) :
    ∃ v w', (execOp a.eval o).run Try.prog w = .ok (.value v) w' ∧ (∀ d, o.dst = some d → fG W.heap.size B A0 A1 A2 A3 A4 c0 c1 c2 c3 c4 x d v w') ∧ Up w w' := by
  obtain ⟨g, hg, hown⟩ := (show gP W.heap.size B 4 4 1 A4 x.ut.length c4 (cut5 x).ut.length (oc (cut5 x).ut) 0 _ _ from h41)
  have e : (cut5 x).ut.length ≤ 1000 := by show (x.ut.take 40).length ≤ _; rw [List.length_take]; omega
  obtain ⟨v', w', h1, h2, h3⟩ := ex_appB w a o W.heap.size 41 48 g hg hown A4 (cut5 x).ut.length c4 (oc (cut5 x).ut) h48 (by rw [oc_len, Nat.mul_one]) ((r.up u).takeB 40) (one_oc _) e u.size ho
  exact ⟨v', w', h1, (fun d hd' => by rw [hd] at hd'; injection hd' with hd'; subst hd'; exact (show gP W.heap.size B 4 4 1 A4 x.ut.length c4 (cut5 x).ut.length (oc (cut5 x).ut) 8 _ _ from h2)), h3⟩
theorem st_bld (w : World) (a : Act) (o : Oper) (h13 : fG W.heap.size B A0 A1 A2 A3 A4 c0 c1 c2 c3 c4 x 13 (a.tmps.getD 13 undef) w) (h22 : fG W.heap.size B A0 A1 A2 A3 A4 c0 c1 c2 c3 c4 x 22 (a.tmps.getD 22 undef) w) (h31 : fG W.heap.size B A0 A1 A2 A3 A4 c0 c1 c2 c3 c4 x 31 (a.tmps.getD 31 undef) w) (h40 : fG W.heap.size B A0 A1 A2 A3 A4 c0 c1 c2 c3 c4 x 40 (a.tmps.getD 40 undef) w) (h49 : fG W.heap.size B A0 A1 A2 A3 A4 c0 c1 c2 c3 c4 x 49 (a.tmps.getD 49 undef) w) (hd : o.dst = some 50) (ho : o.op = .build 27 #[(0, .tmp 13), (1, .tmp 22), (2, .tmp 31), (3, .tmp 40), (4, .tmp 49)]) :
    ∃ v w', (execOp a.eval o).run Try.prog w = .ok (.value v) w' ∧ (∀ d, o.dst = some d → fG W.heap.size B A0 A1 A2 A3 A4 c0 c1 c2 c3 c4 x d v w') ∧ Up w w' := by
  have g0 : w.ownsRow W.heap.size 56 3 (a.tmps.getD 13 undef) (cut5 x).ks.length (kc (cut5 x).ks) := h13
  have g1 : w.ownsRow W.heap.size 54 2 (a.tmps.getD 22 undef) (cut5 x).js.length (jc (cut5 x).js) := h22
  have g2 : w.ownsRow W.heap.size 67 2 (a.tmps.getD 31 undef) (cut5 x).ls.length (lc (cut5 x).ls) := h31
  have g3 : w.ownsRow W.heap.size 4 1 (a.tmps.getD 40 undef) (cut5 x).sd.length (oc (cut5 x).sd) := h40
  have g4 : w.ownsRow W.heap.size 4 1 (a.tmps.getD 49 undef) (cut5 x).ut.length (oc (cut5 x).ut) := h49
  obtain ⟨P0, d0, e0⟩ := row_form g0
  rw [e0] at g0
  obtain ⟨P1, d1, e1⟩ := row_form g1
  rw [e1] at g1
  obtain ⟨P2, d2, e2⟩ := row_form g2
  rw [e2] at g2
  obtain ⟨P3, d3, e3⟩ := row_form g3
  rw [e3] at g3
  obtain ⟨P4, d4, e4⟩ := row_form g4
  rw [e4] at g4
  refine ⟨_, _, ex_bld w a o 13 22 31 40 49 P0 P1 P2 P3 P4 _ _ _ _ _ d0 d1 d2 d3 d4 e0 e1 e2 e3 e4 ho, (fun d hd' => ?_), Up.refl _⟩
  rw [hd] at hd'; injection hd' with hd'; subst hd'; exact (show OwB w W.heap.size _ (cut5 x) from ⟨_, _, _, _, _, rfl, g0, g1, g2, g3, g4⟩)
theorem st_box (w : World) (a : Act) (o : Oper) (u : Up W w) (hd : o.dst = some 3) (ho : o.op = .alloc 27) :
    ∃ v w', (execOp a.eval o).run Try.prog w = .ok (.value v) w' ∧ (∀ d, o.dst = some d → fG W.heap.size B A0 A1 A2 A3 A4 c0 c1 c2 c3 c4 x d v w') ∧ Up w w' := by
  refine ⟨_, _, ex_box w a o ho, (fun d hd' => ?_), Up.alloc _ _⟩
  rw [hd] at hd'; injection hd' with hd'; subst hd'
  exact (show ∃ b, Value.pointer (some ⟨w.heap.size, 0, none⟩) = .pointer (some ⟨b, 0, none⟩) ∧ W.heap.size ≤ b ∧ (w.alloc _).heap[b]? = some (.cells #[.slice none 0 0, .slice none 0 0, .slice none 0 0, .slice none 0 0, .slice none 0 0] 27 (0, 0)) from ⟨_, rfl, u.size, heap_alloc_new w _⟩)
end
end Go.Proofs.Ytoijaananjlfpaa
