/-
  few: a block, cut, in new memory.
-/
import Derived.Test.YtaljddoenjgbfaaGreatLcFvA
import Derived.StillTailTactics
namespace Go.Proofs.YtaljddoenjgbfaaGreat
open Go.ChangeShapes Go.WideShapes Go.ChangeAt Go.RowKit Lc

section
variable (W : World) (B : Nat) (A0 A1 A2 A3 A4 : Option Addr) (c0 c1 c2 c3 c4 : Nat) (x : Blk)
set_option maxRecDepth 100000 in
theorem st0_0 (w : World) (a : Act) (o : Oper) (u : Up W w)  (hd : o.dst = some 8) (ho : o.op = .buildSlice 22 0 #[]) :
    ∃ v w', (execOp a.eval o).run Tryz.prog w = .ok (.value v) w' ∧ (∀ d, o.dst = some d → fG W.heap.size B A0 A1 A2 A3 A4 c0 c1 c2 c3 c4 x d v w') ∧ Up w w' := by
  exact ⟨_, _, ex_newK w a o ho, (fun d hd' => by rw [hd] at hd'; injection hd' with hd'; subst hd'; exact (show gP W.heap.size B 0 51 3 A0 x.ks.length c0 (cut5 x).ks.length (kc (cut5 x).ks) 0 _ _ from ⟨_, rfl, World.ownsRow_made w #[] 0 u.size (Nat.zero_le _) rfl⟩)), Up.alloc _ _⟩
set_option maxRecDepth 100000 in
theorem st0_1 (w : World) (a : Act) (o : Oper) (_ : Up W w) (h1 : a.tmps.getD 3 undef = .pointer (some ⟨B, 0, none⟩)) (hd : o.dst = some 9) (ho : o.op = .fieldAddr 27 (.tmp 3) 0) :
    ∃ v w', (execOp a.eval o).run Tryz.prog w = .ok (.value v) w' ∧ (∀ d, o.dst = some d → fG W.heap.size B A0 A1 A2 A3 A4 c0 c1 c2 c3 c4 x d v w') ∧ Up w w' := by
  exact ⟨_, _, ex_fld w a o 3 B h1 0 (by decide) ho, (fun d hd' => by rw [hd] at hd'; injection hd' with hd'; subst hd'; exact (show gP W.heap.size B 0 51 3 A0 x.ks.length c0 (cut5 x).ks.length (kc (cut5 x).ks) 1 _ w from rfl)), Up.refl _⟩
set_option maxRecDepth 100000 in
theorem st0_3 (w : World) (a : Act) (o : Oper) (_ : Up W w) (h1 : a.tmps.getD 3 undef = .pointer (some ⟨B, 0, none⟩)) (hd : o.dst = some 11) (ho : o.op = .fieldAddr 27 (.tmp 3) 0) :
    ∃ v w', (execOp a.eval o).run Tryz.prog w = .ok (.value v) w' ∧ (∀ d, o.dst = some d → fG W.heap.size B A0 A1 A2 A3 A4 c0 c1 c2 c3 c4 x d v w') ∧ Up w w' := by
  exact ⟨_, _, ex_fld w a o 3 B h1 0 (by decide) ho, (fun d hd' => by rw [hd] at hd'; injection hd' with hd'; subst hd'; exact (show gP W.heap.size B 0 51 3 A0 x.ks.length c0 (cut5 x).ks.length (kc (cut5 x).ks) 3 _ w from rfl)), Up.refl _⟩
set_option maxRecDepth 100000 in
theorem st0_2 (w : World) (a : Act) (o : Oper) (u : Up W w) (bx : W.cell? ⟨B, 0, none⟩ = some (.slice A0 x.ks.length c0)) (h9 : fG W.heap.size B A0 A1 A2 A3 A4 c0 c1 c2 c3 c4 x 9 (a.tmps.getD 9 undef) w) (hd : o.dst = some 10) (ho : o.op = .load 22 (.tmp 9)) :
    ∃ v w', (execOp a.eval o).run Tryz.prog w = .ok (.value v) w' ∧ (∀ d, o.dst = some d → fG W.heap.size B A0 A1 A2 A3 A4 c0 c1 c2 c3 c4 x d v w') ∧ Up w w' := by
  exact ⟨_, _, ex_ldK w a o B 0 9 _ h9 (u.cell bx) ho, (fun d hd' => by rw [hd] at hd'; injection hd' with hd'; subst hd'; exact (show gP W.heap.size B 0 51 3 A0 x.ks.length c0 (cut5 x).ks.length (kc (cut5 x).ks) 2 _ w from rfl)), Up.refl _⟩
set_option maxRecDepth 100000 in
theorem st0_4 (w : World) (a : Act) (o : Oper) (u : Up W w) (bx : W.cell? ⟨B, 0, none⟩ = some (.slice A0 x.ks.length c0)) (h11 : fG W.heap.size B A0 A1 A2 A3 A4 c0 c1 c2 c3 c4 x 11 (a.tmps.getD 11 undef) w) (hd : o.dst = some 12) (ho : o.op = .load 22 (.tmp 11)) :
    ∃ v w', (execOp a.eval o).run Tryz.prog w = .ok (.value v) w' ∧ (∀ d, o.dst = some d → fG W.heap.size B A0 A1 A2 A3 A4 c0 c1 c2 c3 c4 x d v w') ∧ Up w w' := by
  exact ⟨_, _, ex_ldK w a o B 0 11 _ h11 (u.cell bx) ho, (fun d hd' => by rw [hd] at hd'; injection hd' with hd'; subst hd'; exact (show gP W.heap.size B 0 51 3 A0 x.ks.length c0 (cut5 x).ks.length (kc (cut5 x).ks) 4 _ w from rfl)), Up.refl _⟩
set_option maxRecDepth 100000 in
theorem st0_5 (w : World) (a : Act) (o : Oper) (_ : Up W w) (h12 : fG W.heap.size B A0 A1 A2 A3 A4 c0 c1 c2 c3 c4 x 12 (a.tmps.getD 12 undef) w) (hd : o.dst = some 13) (ho : o.op = .call { callee := .builtin .len, args := #[.tmp 12], argTypes := #[22] }) :
    ∃ v w', (execOp a.eval o).run Tryz.prog w = .ok (.value v) w' ∧ (∀ d, o.dst = some d → fG W.heap.size B A0 A1 A2 A3 A4 c0 c1 c2 c3 c4 x d v w') ∧ Up w w' := by
  exact ⟨_, _, ex_lenK w a o 12 A0 x.ks.length c0 h12 ho, (fun d hd' => by rw [hd] at hd'; injection hd' with hd'; subst hd'; exact (show gP W.heap.size B 0 51 3 A0 x.ks.length c0 (cut5 x).ks.length (kc (cut5 x).ks) 5 _ w from rfl)), Up.refl _⟩
set_option maxRecDepth 100000 in
theorem st0_6 (w : World) (a : Act) (o : Oper) (_ : Up W w) (h13 : fG W.heap.size B A0 A1 A2 A3 A4 c0 c1 c2 c3 c4 x 13 (a.tmps.getD 13 undef) w) (ht : o.type = 3) (hd : o.dst = some 14) (ho : o.op = .call { callee := .builtin .min, args := #[.tmp 13, .const (.int .i64 40)], argTypes := #[3, 3] }) :
    ∃ v w', (execOp a.eval o).run Tryz.prog w = .ok (.value v) w' ∧ (∀ d, o.dst = some d → fG W.heap.size B A0 A1 A2 A3 A4 c0 c1 c2 c3 c4 x d v w') ∧ Up w w' := by
  have e : min (x.ks.length : Int) 40 = ((cut5 x).ks.length : Int) := by show _ = ((x.ks.take 40).length : Int); rw [List.length_take]; omega
  refine ⟨_, _, ex_min w a o 13 x.ks.length 40 h13 ho ht, (fun d hd' => by rw [hd] at hd'; injection hd' with hd'; subst hd'; exact (show gP W.heap.size B 0 51 3 A0 x.ks.length c0 (cut5 x).ks.length (kc (cut5 x).ks) 6 _ w from congrArg (Value.int .i64) e)), Up.refl _⟩
set_option maxRecDepth 100000 in
theorem st0_7 (w : World) (a : Act) (o : Oper) (_ : Up W w) (hc : x.ks.length ≤ c0) (h10 : fG W.heap.size B A0 A1 A2 A3 A4 c0 c1 c2 c3 c4 x 10 (a.tmps.getD 10 undef) w) (h14 : fG W.heap.size B A0 A1 A2 A3 A4 c0 c1 c2 c3 c4 x 14 (a.tmps.getD 14 undef) w) (hd : o.dst = some 15) (ho : o.op = .slice 22 (.tmp 10) none (some (.tmp 14)) none) :
    ∃ v w', (execOp a.eval o).run Tryz.prog w = .ok (.value v) w' ∧ (∀ d, o.dst = some d → fG W.heap.size B A0 A1 A2 A3 A4 c0 c1 c2 c3 c4 x d v w') ∧ Up w w' := by
  have e : (cut5 x).ks.length ≤ x.ks.length := by show (x.ks.take 40).length ≤ _; rw [List.length_take]; omega
  exact ⟨_, _, ex_cutK w a o 10 14 A0 x.ks.length c0 (cut5 x).ks.length (by omega) h10 h14 ho, (fun d hd' => by rw [hd] at hd'; injection hd' with hd'; subst hd'; exact (show gP W.heap.size B 0 51 3 A0 x.ks.length c0 (cut5 x).ks.length (kc (cut5 x).ks) 7 _ w from rfl)), Up.refl _⟩
set_option maxRecDepth 100000 in
theorem st0_8 (w : World) (a : Act) (o : Oper) (u : Up W w) (r : Rc W A0 (kc x.ks)) (h8 : fG W.heap.size B A0 A1 A2 A3 A4 c0 c1 c2 c3 c4 x 8 (a.tmps.getD 8 undef) w) (h15 : fG W.heap.size B A0 A1 A2 A3 A4 c0 c1 c2 c3 c4 x 15 (a.tmps.getD 15 undef) w) (hd : o.dst = some 16) (ho : o.op = .call { callee := .builtin .append, args := #[.tmp 8, .tmp 15], argTypes := #[22, 22] }) :
    ∃ v w', (execOp a.eval o).run Tryz.prog w = .ok (.value v) w' ∧ (∀ d, o.dst = some d → fG W.heap.size B A0 A1 A2 A3 A4 c0 c1 c2 c3 c4 x d v w') ∧ Up w w' := by
  obtain ⟨g, hg, hown⟩ := (show gP W.heap.size B 0 51 3 A0 x.ks.length c0 (cut5 x).ks.length (kc (cut5 x).ks) 0 _ _ from h8)
  have e : (cut5 x).ks.length ≤ 1000 := by show (x.ks.take 40).length ≤ _; rw [List.length_take]; omega
  obtain ⟨v', w', h1, h2, h3⟩ := ex_appK w a o W.heap.size 8 15 g hg hown A0 (cut5 x).ks.length c0 (kc (cut5 x).ks) h15 (kc_len _) ((r.up u).takeK 40) (one_kc _) e u.size ho
  exact ⟨v', w', h1, (fun d hd' => by rw [hd] at hd'; injection hd' with hd'; subst hd'; exact (show gP W.heap.size B 0 51 3 A0 x.ks.length c0 (cut5 x).ks.length (kc (cut5 x).ks) 8 _ _ from h2)), h3⟩
set_option maxRecDepth 100000 in
theorem st1_0 (w : World) (a : Act) (o : Oper) (u : Up W w)  (hd : o.dst = some 17) (ho : o.op = .buildSlice 23 0 #[]) :
    ∃ v w', (execOp a.eval o).run Tryz.prog w = .ok (.value v) w' ∧ (∀ d, o.dst = some d → fG W.heap.size B A0 A1 A2 A3 A4 c0 c1 c2 c3 c4 x d v w') ∧ Up w w' := by
  exact ⟨_, _, ex_newJ w a o ho, (fun d hd' => by rw [hd] at hd'; injection hd' with hd'; subst hd'; exact (show gP W.heap.size B 1 70 2 A1 x.js.length c1 (cut5 x).js.length (jc (cut5 x).js) 0 _ _ from ⟨_, rfl, World.ownsRow_made w #[] 0 u.size (Nat.zero_le _) rfl⟩)), Up.alloc _ _⟩
set_option maxRecDepth 100000 in
theorem st1_1 (w : World) (a : Act) (o : Oper) (_ : Up W w) (h1 : a.tmps.getD 3 undef = .pointer (some ⟨B, 0, none⟩)) (hd : o.dst = some 18) (ho : o.op = .fieldAddr 27 (.tmp 3) 1) :
    ∃ v w', (execOp a.eval o).run Tryz.prog w = .ok (.value v) w' ∧ (∀ d, o.dst = some d → fG W.heap.size B A0 A1 A2 A3 A4 c0 c1 c2 c3 c4 x d v w') ∧ Up w w' := by
  exact ⟨_, _, ex_fld w a o 3 B h1 1 (by decide) ho, (fun d hd' => by rw [hd] at hd'; injection hd' with hd'; subst hd'; exact (show gP W.heap.size B 1 70 2 A1 x.js.length c1 (cut5 x).js.length (jc (cut5 x).js) 1 _ w from rfl)), Up.refl _⟩
set_option maxRecDepth 100000 in
theorem st1_3 (w : World) (a : Act) (o : Oper) (_ : Up W w) (h1 : a.tmps.getD 3 undef = .pointer (some ⟨B, 0, none⟩)) (hd : o.dst = some 20) (ho : o.op = .fieldAddr 27 (.tmp 3) 1) :
    ∃ v w', (execOp a.eval o).run Tryz.prog w = .ok (.value v) w' ∧ (∀ d, o.dst = some d → fG W.heap.size B A0 A1 A2 A3 A4 c0 c1 c2 c3 c4 x d v w') ∧ Up w w' := by
  exact ⟨_, _, ex_fld w a o 3 B h1 1 (by decide) ho, (fun d hd' => by rw [hd] at hd'; injection hd' with hd'; subst hd'; exact (show gP W.heap.size B 1 70 2 A1 x.js.length c1 (cut5 x).js.length (jc (cut5 x).js) 3 _ w from rfl)), Up.refl _⟩
set_option maxRecDepth 100000 in
theorem st1_2 (w : World) (a : Act) (o : Oper) (u : Up W w) (bx : W.cell? ⟨B, 1, none⟩ = some (.slice A1 x.js.length c1)) (h18 : fG W.heap.size B A0 A1 A2 A3 A4 c0 c1 c2 c3 c4 x 18 (a.tmps.getD 18 undef) w) (hd : o.dst = some 19) (ho : o.op = .load 23 (.tmp 18)) :
    ∃ v w', (execOp a.eval o).run Tryz.prog w = .ok (.value v) w' ∧ (∀ d, o.dst = some d → fG W.heap.size B A0 A1 A2 A3 A4 c0 c1 c2 c3 c4 x d v w') ∧ Up w w' := by
  exact ⟨_, _, ex_ldJ w a o B 1 18 _ h18 (u.cell bx) ho, (fun d hd' => by rw [hd] at hd'; injection hd' with hd'; subst hd'; exact (show gP W.heap.size B 1 70 2 A1 x.js.length c1 (cut5 x).js.length (jc (cut5 x).js) 2 _ w from rfl)), Up.refl _⟩
set_option maxRecDepth 100000 in
theorem st1_4 (w : World) (a : Act) (o : Oper) (u : Up W w) (bx : W.cell? ⟨B, 1, none⟩ = some (.slice A1 x.js.length c1)) (h20 : fG W.heap.size B A0 A1 A2 A3 A4 c0 c1 c2 c3 c4 x 20 (a.tmps.getD 20 undef) w) (hd : o.dst = some 21) (ho : o.op = .load 23 (.tmp 20)) :
    ∃ v w', (execOp a.eval o).run Tryz.prog w = .ok (.value v) w' ∧ (∀ d, o.dst = some d → fG W.heap.size B A0 A1 A2 A3 A4 c0 c1 c2 c3 c4 x d v w') ∧ Up w w' := by
  exact ⟨_, _, ex_ldJ w a o B 1 20 _ h20 (u.cell bx) ho, (fun d hd' => by rw [hd] at hd'; injection hd' with hd'; subst hd'; exact (show gP W.heap.size B 1 70 2 A1 x.js.length c1 (cut5 x).js.length (jc (cut5 x).js) 4 _ w from rfl)), Up.refl _⟩
set_option maxRecDepth 100000 in
theorem st1_5 (w : World) (a : Act) (o : Oper) (_ : Up W w) (h21 : fG W.heap.size B A0 A1 A2 A3 A4 c0 c1 c2 c3 c4 x 21 (a.tmps.getD 21 undef) w) (hd : o.dst = some 22) (ho : o.op = .call { callee := .builtin .len, args := #[.tmp 21], argTypes := #[23] }) :
    ∃ v w', (execOp a.eval o).run Tryz.prog w = .ok (.value v) w' ∧ (∀ d, o.dst = some d → fG W.heap.size B A0 A1 A2 A3 A4 c0 c1 c2 c3 c4 x d v w') ∧ Up w w' := by
  exact ⟨_, _, ex_lenJ w a o 21 A1 x.js.length c1 h21 ho, (fun d hd' => by rw [hd] at hd'; injection hd' with hd'; subst hd'; exact (show gP W.heap.size B 1 70 2 A1 x.js.length c1 (cut5 x).js.length (jc (cut5 x).js) 5 _ w from rfl)), Up.refl _⟩
set_option maxRecDepth 100000 in
theorem st1_6 (w : World) (a : Act) (o : Oper) (_ : Up W w) (h22 : fG W.heap.size B A0 A1 A2 A3 A4 c0 c1 c2 c3 c4 x 22 (a.tmps.getD 22 undef) w) (ht : o.type = 3) (hd : o.dst = some 23) (ho : o.op = .call { callee := .builtin .min, args := #[.tmp 22, .const (.int .i64 100)], argTypes := #[3, 3] }) :
    ∃ v w', (execOp a.eval o).run Tryz.prog w = .ok (.value v) w' ∧ (∀ d, o.dst = some d → fG W.heap.size B A0 A1 A2 A3 A4 c0 c1 c2 c3 c4 x d v w') ∧ Up w w' := by
  have e : min (x.js.length : Int) 100 = ((cut5 x).js.length : Int) := by show _ = ((x.js.take 100).length : Int); rw [List.length_take]; omega
  refine ⟨_, _, ex_min w a o 22 x.js.length 100 h22 ho ht, (fun d hd' => by rw [hd] at hd'; injection hd' with hd'; subst hd'; exact (show gP W.heap.size B 1 70 2 A1 x.js.length c1 (cut5 x).js.length (jc (cut5 x).js) 6 _ w from congrArg (Value.int .i64) e)), Up.refl _⟩
set_option maxRecDepth 100000 in
theorem st1_7 (w : World) (a : Act) (o : Oper) (_ : Up W w) (hc : x.js.length ≤ c1) (h19 : fG W.heap.size B A0 A1 A2 A3 A4 c0 c1 c2 c3 c4 x 19 (a.tmps.getD 19 undef) w) (h23 : fG W.heap.size B A0 A1 A2 A3 A4 c0 c1 c2 c3 c4 x 23 (a.tmps.getD 23 undef) w) (hd : o.dst = some 24) (ho : o.op = .slice 23 (.tmp 19) none (some (.tmp 23)) none) :
    ∃ v w', (execOp a.eval o).run Tryz.prog w = .ok (.value v) w' ∧ (∀ d, o.dst = some d → fG W.heap.size B A0 A1 A2 A3 A4 c0 c1 c2 c3 c4 x d v w') ∧ Up w w' := by
  have e : (cut5 x).js.length ≤ x.js.length := by show (x.js.take 100).length ≤ _; rw [List.length_take]; omega
  exact ⟨_, _, ex_cutJ w a o 19 23 A1 x.js.length c1 (cut5 x).js.length (by omega) h19 h23 ho, (fun d hd' => by rw [hd] at hd'; injection hd' with hd'; subst hd'; exact (show gP W.heap.size B 1 70 2 A1 x.js.length c1 (cut5 x).js.length (jc (cut5 x).js) 7 _ w from rfl)), Up.refl _⟩
set_option maxRecDepth 100000 in
theorem st1_8 (w : World) (a : Act) (o : Oper) (u : Up W w) (r : Rc W A1 (jc x.js)) (h17 : fG W.heap.size B A0 A1 A2 A3 A4 c0 c1 c2 c3 c4 x 17 (a.tmps.getD 17 undef) w) (h24 : fG W.heap.size B A0 A1 A2 A3 A4 c0 c1 c2 c3 c4 x 24 (a.tmps.getD 24 undef) w) (hd : o.dst = some 25) (ho : o.op = .call { callee := .builtin .append, args := #[.tmp 17, .tmp 24], argTypes := #[23, 23] }) :
    ∃ v w', (execOp a.eval o).run Tryz.prog w = .ok (.value v) w' ∧ (∀ d, o.dst = some d → fG W.heap.size B A0 A1 A2 A3 A4 c0 c1 c2 c3 c4 x d v w') ∧ Up w w' := by
  obtain ⟨g, hg, hown⟩ := (show gP W.heap.size B 1 70 2 A1 x.js.length c1 (cut5 x).js.length (jc (cut5 x).js) 0 _ _ from h17)
  have e : (cut5 x).js.length ≤ 1000 := by show (x.js.take 100).length ≤ _; rw [List.length_take]; omega
  obtain ⟨v', w', h1, h2, h3⟩ := ex_appJ w a o W.heap.size 17 24 g hg hown A1 (cut5 x).js.length c1 (jc (cut5 x).js) h24 (jc_len _) ((r.up u).takeJ 100) (one_jc _) e u.size ho
  exact ⟨v', w', h1, (fun d hd' => by rw [hd] at hd'; injection hd' with hd'; subst hd'; exact (show gP W.heap.size B 1 70 2 A1 x.js.length c1 (cut5 x).js.length (jc (cut5 x).js) 8 _ _ from h2)), h3⟩
set_option maxRecDepth 100000 in
theorem st2_0 (w : World) (a : Act) (o : Oper) (u : Up W w)  (hd : o.dst = some 26) (ho : o.op = .buildSlice 24 0 #[]) :
    ∃ v w', (execOp a.eval o).run Tryz.prog w = .ok (.value v) w' ∧ (∀ d, o.dst = some d → fG W.heap.size B A0 A1 A2 A3 A4 c0 c1 c2 c3 c4 x d v w') ∧ Up w w' := by
  exact ⟨_, _, ex_newL w a o ho, (fun d hd' => by rw [hd] at hd'; injection hd' with hd'; subst hd'; exact (show gP W.heap.size B 2 73 2 A2 x.ls.length c2 (cut5 x).ls.length (lc (cut5 x).ls) 0 _ _ from ⟨_, rfl, World.ownsRow_made w #[] 0 u.size (Nat.zero_le _) rfl⟩)), Up.alloc _ _⟩
set_option maxRecDepth 100000 in
theorem st2_1 (w : World) (a : Act) (o : Oper) (_ : Up W w) (h1 : a.tmps.getD 3 undef = .pointer (some ⟨B, 0, none⟩)) (hd : o.dst = some 27) (ho : o.op = .fieldAddr 27 (.tmp 3) 2) :
    ∃ v w', (execOp a.eval o).run Tryz.prog w = .ok (.value v) w' ∧ (∀ d, o.dst = some d → fG W.heap.size B A0 A1 A2 A3 A4 c0 c1 c2 c3 c4 x d v w') ∧ Up w w' := by
  exact ⟨_, _, ex_fld w a o 3 B h1 2 (by decide) ho, (fun d hd' => by rw [hd] at hd'; injection hd' with hd'; subst hd'; exact (show gP W.heap.size B 2 73 2 A2 x.ls.length c2 (cut5 x).ls.length (lc (cut5 x).ls) 1 _ w from rfl)), Up.refl _⟩
set_option maxRecDepth 100000 in
theorem st2_3 (w : World) (a : Act) (o : Oper) (_ : Up W w) (h1 : a.tmps.getD 3 undef = .pointer (some ⟨B, 0, none⟩)) (hd : o.dst = some 29) (ho : o.op = .fieldAddr 27 (.tmp 3) 2) :
    ∃ v w', (execOp a.eval o).run Tryz.prog w = .ok (.value v) w' ∧ (∀ d, o.dst = some d → fG W.heap.size B A0 A1 A2 A3 A4 c0 c1 c2 c3 c4 x d v w') ∧ Up w w' := by
  exact ⟨_, _, ex_fld w a o 3 B h1 2 (by decide) ho, (fun d hd' => by rw [hd] at hd'; injection hd' with hd'; subst hd'; exact (show gP W.heap.size B 2 73 2 A2 x.ls.length c2 (cut5 x).ls.length (lc (cut5 x).ls) 3 _ w from rfl)), Up.refl _⟩
set_option maxRecDepth 100000 in
theorem st2_2 (w : World) (a : Act) (o : Oper) (u : Up W w) (bx : W.cell? ⟨B, 2, none⟩ = some (.slice A2 x.ls.length c2)) (h27 : fG W.heap.size B A0 A1 A2 A3 A4 c0 c1 c2 c3 c4 x 27 (a.tmps.getD 27 undef) w) (hd : o.dst = some 28) (ho : o.op = .load 24 (.tmp 27)) :
    ∃ v w', (execOp a.eval o).run Tryz.prog w = .ok (.value v) w' ∧ (∀ d, o.dst = some d → fG W.heap.size B A0 A1 A2 A3 A4 c0 c1 c2 c3 c4 x d v w') ∧ Up w w' := by
  exact ⟨_, _, ex_ldL w a o B 2 27 _ h27 (u.cell bx) ho, (fun d hd' => by rw [hd] at hd'; injection hd' with hd'; subst hd'; exact (show gP W.heap.size B 2 73 2 A2 x.ls.length c2 (cut5 x).ls.length (lc (cut5 x).ls) 2 _ w from rfl)), Up.refl _⟩
set_option maxRecDepth 100000 in
theorem st2_4 (w : World) (a : Act) (o : Oper) (u : Up W w) (bx : W.cell? ⟨B, 2, none⟩ = some (.slice A2 x.ls.length c2)) (h29 : fG W.heap.size B A0 A1 A2 A3 A4 c0 c1 c2 c3 c4 x 29 (a.tmps.getD 29 undef) w) (hd : o.dst = some 30) (ho : o.op = .load 24 (.tmp 29)) :
    ∃ v w', (execOp a.eval o).run Tryz.prog w = .ok (.value v) w' ∧ (∀ d, o.dst = some d → fG W.heap.size B A0 A1 A2 A3 A4 c0 c1 c2 c3 c4 x d v w') ∧ Up w w' := by
  exact ⟨_, _, ex_ldL w a o B 2 29 _ h29 (u.cell bx) ho, (fun d hd' => by rw [hd] at hd'; injection hd' with hd'; subst hd'; exact (show gP W.heap.size B 2 73 2 A2 x.ls.length c2 (cut5 x).ls.length (lc (cut5 x).ls) 4 _ w from rfl)), Up.refl _⟩
set_option maxRecDepth 100000 in
theorem st2_5 (w : World) (a : Act) (o : Oper) (_ : Up W w) (h30 : fG W.heap.size B A0 A1 A2 A3 A4 c0 c1 c2 c3 c4 x 30 (a.tmps.getD 30 undef) w) (hd : o.dst = some 31) (ho : o.op = .call { callee := .builtin .len, args := #[.tmp 30], argTypes := #[24] }) :
    ∃ v w', (execOp a.eval o).run Tryz.prog w = .ok (.value v) w' ∧ (∀ d, o.dst = some d → fG W.heap.size B A0 A1 A2 A3 A4 c0 c1 c2 c3 c4 x d v w') ∧ Up w w' := by
  exact ⟨_, _, ex_lenL w a o 30 A2 x.ls.length c2 h30 ho, (fun d hd' => by rw [hd] at hd'; injection hd' with hd'; subst hd'; exact (show gP W.heap.size B 2 73 2 A2 x.ls.length c2 (cut5 x).ls.length (lc (cut5 x).ls) 5 _ w from rfl)), Up.refl _⟩
set_option maxRecDepth 100000 in
theorem st2_6 (w : World) (a : Act) (o : Oper) (_ : Up W w) (h31 : fG W.heap.size B A0 A1 A2 A3 A4 c0 c1 c2 c3 c4 x 31 (a.tmps.getD 31 undef) w) (ht : o.type = 3) (hd : o.dst = some 32) (ho : o.op = .call { callee := .builtin .min, args := #[.tmp 31, .const (.int .i64 50)], argTypes := #[3, 3] }) :
    ∃ v w', (execOp a.eval o).run Tryz.prog w = .ok (.value v) w' ∧ (∀ d, o.dst = some d → fG W.heap.size B A0 A1 A2 A3 A4 c0 c1 c2 c3 c4 x d v w') ∧ Up w w' := by
  have e : min (x.ls.length : Int) 50 = ((cut5 x).ls.length : Int) := by show _ = ((x.ls.take 50).length : Int); rw [List.length_take]; omega
  refine ⟨_, _, ex_min w a o 31 x.ls.length 50 h31 ho ht, (fun d hd' => by rw [hd] at hd'; injection hd' with hd'; subst hd'; exact (show gP W.heap.size B 2 73 2 A2 x.ls.length c2 (cut5 x).ls.length (lc (cut5 x).ls) 6 _ w from congrArg (Value.int .i64) e)), Up.refl _⟩
set_option maxRecDepth 100000 in
theorem st2_7 (w : World) (a : Act) (o : Oper) (_ : Up W w) (hc : x.ls.length ≤ c2) (h28 : fG W.heap.size B A0 A1 A2 A3 A4 c0 c1 c2 c3 c4 x 28 (a.tmps.getD 28 undef) w) (h32 : fG W.heap.size B A0 A1 A2 A3 A4 c0 c1 c2 c3 c4 x 32 (a.tmps.getD 32 undef) w) (hd : o.dst = some 33) (ho : o.op = .slice 24 (.tmp 28) none (some (.tmp 32)) none) :
    ∃ v w', (execOp a.eval o).run Tryz.prog w = .ok (.value v) w' ∧ (∀ d, o.dst = some d → fG W.heap.size B A0 A1 A2 A3 A4 c0 c1 c2 c3 c4 x d v w') ∧ Up w w' := by
  have e : (cut5 x).ls.length ≤ x.ls.length := by show (x.ls.take 50).length ≤ _; rw [List.length_take]; omega
  exact ⟨_, _, ex_cutL w a o 28 32 A2 x.ls.length c2 (cut5 x).ls.length (by omega) h28 h32 ho, (fun d hd' => by rw [hd] at hd'; injection hd' with hd'; subst hd'; exact (show gP W.heap.size B 2 73 2 A2 x.ls.length c2 (cut5 x).ls.length (lc (cut5 x).ls) 7 _ w from rfl)), Up.refl _⟩
set_option maxRecDepth 100000 in
theorem st2_8 (w : World) (a : Act) (o : Oper) (u : Up W w) (r : Rc W A2 (lc x.ls)) (h26 : fG W.heap.size B A0 A1 A2 A3 A4 c0 c1 c2 c3 c4 x 26 (a.tmps.getD 26 undef) w) (h33 : fG W.heap.size B A0 A1 A2 A3 A4 c0 c1 c2 c3 c4 x 33 (a.tmps.getD 33 undef) w) (hd : o.dst = some 34) (ho : o.op = .call { callee := .builtin .append, args := #[.tmp 26, .tmp 33], argTypes := #[24, 24] }) :
    ∃ v w', (execOp a.eval o).run Tryz.prog w = .ok (.value v) w' ∧ (∀ d, o.dst = some d → fG W.heap.size B A0 A1 A2 A3 A4 c0 c1 c2 c3 c4 x d v w') ∧ Up w w' := by
  obtain ⟨g, hg, hown⟩ := (show gP W.heap.size B 2 73 2 A2 x.ls.length c2 (cut5 x).ls.length (lc (cut5 x).ls) 0 _ _ from h26)
  have e : (cut5 x).ls.length ≤ 1000 := by show (x.ls.take 50).length ≤ _; rw [List.length_take]; omega
  obtain ⟨v', w', h1, h2, h3⟩ := ex_appL w a o W.heap.size 26 33 g hg hown A2 (cut5 x).ls.length c2 (lc (cut5 x).ls) h33 (lc_len _) ((r.up u).takeL 50) (one_lc _) e u.size ho
  exact ⟨v', w', h1, (fun d hd' => by rw [hd] at hd'; injection hd' with hd'; subst hd'; exact (show gP W.heap.size B 2 73 2 A2 x.ls.length c2 (cut5 x).ls.length (lc (cut5 x).ls) 8 _ _ from h2)), h3⟩
set_option maxRecDepth 100000 in
theorem st3_0 (w : World) (a : Act) (o : Oper) (u : Up W w)  (hd : o.dst = some 35) (ho : o.op = .buildSlice 25 0 #[]) :
    ∃ v w', (execOp a.eval o).run Tryz.prog w = .ok (.value v) w' ∧ (∀ d, o.dst = some d → fG W.heap.size B A0 A1 A2 A3 A4 c0 c1 c2 c3 c4 x d v w') ∧ Up w w' := by
  exact ⟨_, _, ex_newB w a o ho, (fun d hd' => by rw [hd] at hd'; injection hd' with hd'; subst hd'; exact (show gP W.heap.size B 3 4 1 A3 x.sd.length c3 (cut5 x).sd.length (oc (cut5 x).sd) 0 _ _ from ⟨_, rfl, World.ownsRow_made w #[] 0 u.size (Nat.zero_le _) rfl⟩)), Up.alloc _ _⟩
set_option maxRecDepth 100000 in
theorem st3_1 (w : World) (a : Act) (o : Oper) (_ : Up W w) (h1 : a.tmps.getD 3 undef = .pointer (some ⟨B, 0, none⟩)) (hd : o.dst = some 36) (ho : o.op = .fieldAddr 27 (.tmp 3) 3) :
    ∃ v w', (execOp a.eval o).run Tryz.prog w = .ok (.value v) w' ∧ (∀ d, o.dst = some d → fG W.heap.size B A0 A1 A2 A3 A4 c0 c1 c2 c3 c4 x d v w') ∧ Up w w' := by
  exact ⟨_, _, ex_fld w a o 3 B h1 3 (by decide) ho, (fun d hd' => by rw [hd] at hd'; injection hd' with hd'; subst hd'; exact (show gP W.heap.size B 3 4 1 A3 x.sd.length c3 (cut5 x).sd.length (oc (cut5 x).sd) 1 _ w from rfl)), Up.refl _⟩
set_option maxRecDepth 100000 in
theorem st3_3 (w : World) (a : Act) (o : Oper) (_ : Up W w) (h1 : a.tmps.getD 3 undef = .pointer (some ⟨B, 0, none⟩)) (hd : o.dst = some 38) (ho : o.op = .fieldAddr 27 (.tmp 3) 3) :
    ∃ v w', (execOp a.eval o).run Tryz.prog w = .ok (.value v) w' ∧ (∀ d, o.dst = some d → fG W.heap.size B A0 A1 A2 A3 A4 c0 c1 c2 c3 c4 x d v w') ∧ Up w w' := by
  exact ⟨_, _, ex_fld w a o 3 B h1 3 (by decide) ho, (fun d hd' => by rw [hd] at hd'; injection hd' with hd'; subst hd'; exact (show gP W.heap.size B 3 4 1 A3 x.sd.length c3 (cut5 x).sd.length (oc (cut5 x).sd) 3 _ w from rfl)), Up.refl _⟩
set_option maxRecDepth 100000 in
theorem st3_2 (w : World) (a : Act) (o : Oper) (u : Up W w) (bx : W.cell? ⟨B, 3, none⟩ = some (.slice A3 x.sd.length c3)) (h36 : fG W.heap.size B A0 A1 A2 A3 A4 c0 c1 c2 c3 c4 x 36 (a.tmps.getD 36 undef) w) (hd : o.dst = some 37) (ho : o.op = .load 25 (.tmp 36)) :
    ∃ v w', (execOp a.eval o).run Tryz.prog w = .ok (.value v) w' ∧ (∀ d, o.dst = some d → fG W.heap.size B A0 A1 A2 A3 A4 c0 c1 c2 c3 c4 x d v w') ∧ Up w w' := by
  exact ⟨_, _, ex_ldB w a o B 3 36 _ h36 (u.cell bx) ho, (fun d hd' => by rw [hd] at hd'; injection hd' with hd'; subst hd'; exact (show gP W.heap.size B 3 4 1 A3 x.sd.length c3 (cut5 x).sd.length (oc (cut5 x).sd) 2 _ w from rfl)), Up.refl _⟩
set_option maxRecDepth 100000 in
theorem st3_4 (w : World) (a : Act) (o : Oper) (u : Up W w) (bx : W.cell? ⟨B, 3, none⟩ = some (.slice A3 x.sd.length c3)) (h38 : fG W.heap.size B A0 A1 A2 A3 A4 c0 c1 c2 c3 c4 x 38 (a.tmps.getD 38 undef) w) (hd : o.dst = some 39) (ho : o.op = .load 25 (.tmp 38)) :
    ∃ v w', (execOp a.eval o).run Tryz.prog w = .ok (.value v) w' ∧ (∀ d, o.dst = some d → fG W.heap.size B A0 A1 A2 A3 A4 c0 c1 c2 c3 c4 x d v w') ∧ Up w w' := by
  exact ⟨_, _, ex_ldB w a o B 3 38 _ h38 (u.cell bx) ho, (fun d hd' => by rw [hd] at hd'; injection hd' with hd'; subst hd'; exact (show gP W.heap.size B 3 4 1 A3 x.sd.length c3 (cut5 x).sd.length (oc (cut5 x).sd) 4 _ w from rfl)), Up.refl _⟩
set_option maxRecDepth 100000 in
theorem st3_5 (w : World) (a : Act) (o : Oper) (_ : Up W w) (h39 : fG W.heap.size B A0 A1 A2 A3 A4 c0 c1 c2 c3 c4 x 39 (a.tmps.getD 39 undef) w) (hd : o.dst = some 40) (ho : o.op = .call { callee := .builtin .len, args := #[.tmp 39], argTypes := #[25] }) :
    ∃ v w', (execOp a.eval o).run Tryz.prog w = .ok (.value v) w' ∧ (∀ d, o.dst = some d → fG W.heap.size B A0 A1 A2 A3 A4 c0 c1 c2 c3 c4 x d v w') ∧ Up w w' := by
  exact ⟨_, _, ex_lenB w a o 39 A3 x.sd.length c3 h39 ho, (fun d hd' => by rw [hd] at hd'; injection hd' with hd'; subst hd'; exact (show gP W.heap.size B 3 4 1 A3 x.sd.length c3 (cut5 x).sd.length (oc (cut5 x).sd) 5 _ w from rfl)), Up.refl _⟩
set_option maxRecDepth 100000 in
theorem st3_6 (w : World) (a : Act) (o : Oper) (_ : Up W w) (h40 : fG W.heap.size B A0 A1 A2 A3 A4 c0 c1 c2 c3 c4 x 40 (a.tmps.getD 40 undef) w) (ht : o.type = 3) (hd : o.dst = some 41) (ho : o.op = .call { callee := .builtin .min, args := #[.tmp 40, .const (.int .i64 40)], argTypes := #[3, 3] }) :
    ∃ v w', (execOp a.eval o).run Tryz.prog w = .ok (.value v) w' ∧ (∀ d, o.dst = some d → fG W.heap.size B A0 A1 A2 A3 A4 c0 c1 c2 c3 c4 x d v w') ∧ Up w w' := by
  have e : min (x.sd.length : Int) 40 = ((cut5 x).sd.length : Int) := by show _ = ((x.sd.take 40).length : Int); rw [List.length_take]; omega
  refine ⟨_, _, ex_min w a o 40 x.sd.length 40 h40 ho ht, (fun d hd' => by rw [hd] at hd'; injection hd' with hd'; subst hd'; exact (show gP W.heap.size B 3 4 1 A3 x.sd.length c3 (cut5 x).sd.length (oc (cut5 x).sd) 6 _ w from congrArg (Value.int .i64) e)), Up.refl _⟩
set_option maxRecDepth 100000 in
theorem st3_7 (w : World) (a : Act) (o : Oper) (_ : Up W w) (hc : x.sd.length ≤ c3) (h37 : fG W.heap.size B A0 A1 A2 A3 A4 c0 c1 c2 c3 c4 x 37 (a.tmps.getD 37 undef) w) (h41 : fG W.heap.size B A0 A1 A2 A3 A4 c0 c1 c2 c3 c4 x 41 (a.tmps.getD 41 undef) w) (hd : o.dst = some 42) (ho : o.op = .slice 25 (.tmp 37) none (some (.tmp 41)) none) :
    ∃ v w', (execOp a.eval o).run Tryz.prog w = .ok (.value v) w' ∧ (∀ d, o.dst = some d → fG W.heap.size B A0 A1 A2 A3 A4 c0 c1 c2 c3 c4 x d v w') ∧ Up w w' := by
  have e : (cut5 x).sd.length ≤ x.sd.length := by show (x.sd.take 40).length ≤ _; rw [List.length_take]; omega
  exact ⟨_, _, ex_cutB w a o 37 41 A3 x.sd.length c3 (cut5 x).sd.length (by omega) h37 h41 ho, (fun d hd' => by rw [hd] at hd'; injection hd' with hd'; subst hd'; exact (show gP W.heap.size B 3 4 1 A3 x.sd.length c3 (cut5 x).sd.length (oc (cut5 x).sd) 7 _ w from rfl)), Up.refl _⟩
set_option maxRecDepth 100000 in
theorem st3_8 (w : World) (a : Act) (o : Oper) (u : Up W w) (r : Rc W A3 (oc x.sd)) (h35 : fG W.heap.size B A0 A1 A2 A3 A4 c0 c1 c2 c3 c4 x 35 (a.tmps.getD 35 undef) w) (h42 : fG W.heap.size B A0 A1 A2 A3 A4 c0 c1 c2 c3 c4 x 42 (a.tmps.getD 42 undef) w) (hd : o.dst = some 43) (ho : o.op = .call { callee := .builtin .append, args := #[.tmp 35, .tmp 42], argTypes := #[25, 25] }) :
    ∃ v w', (execOp a.eval o).run Tryz.prog w = .ok (.value v) w' ∧ (∀ d, o.dst = some d → fG W.heap.size B A0 A1 A2 A3 A4 c0 c1 c2 c3 c4 x d v w') ∧ Up w w' := by
  obtain ⟨g, hg, hown⟩ := (show gP W.heap.size B 3 4 1 A3 x.sd.length c3 (cut5 x).sd.length (oc (cut5 x).sd) 0 _ _ from h35)
  have e : (cut5 x).sd.length ≤ 1000 := by show (x.sd.take 40).length ≤ _; rw [List.length_take]; omega
  obtain ⟨v', w', h1, h2, h3⟩ := ex_appB w a o W.heap.size 35 42 g hg hown A3 (cut5 x).sd.length c3 (oc (cut5 x).sd) h42 (by rw [oc_len, Nat.mul_one]) ((r.up u).takeB 40) (one_oc _) e u.size ho
  exact ⟨v', w', h1, (fun d hd' => by rw [hd] at hd'; injection hd' with hd'; subst hd'; exact (show gP W.heap.size B 3 4 1 A3 x.sd.length c3 (cut5 x).sd.length (oc (cut5 x).sd) 8 _ _ from h2)), h3⟩
set_option maxRecDepth 100000 in
theorem st4_0 (w : World) (a : Act) (o : Oper) (u : Up W w)  (hd : o.dst = some 44) (ho : o.op = .buildSlice 25 0 #[]) :
    ∃ v w', (execOp a.eval o).run Tryz.prog w = .ok (.value v) w' ∧ (∀ d, o.dst = some d → fG W.heap.size B A0 A1 A2 A3 A4 c0 c1 c2 c3 c4 x d v w') ∧ Up w w' := by
  exact ⟨_, _, ex_newB w a o ho, (fun d hd' => by rw [hd] at hd'; injection hd' with hd'; subst hd'; exact (show gP W.heap.size B 4 4 1 A4 x.ut.length c4 (cut5 x).ut.length (oc (cut5 x).ut) 0 _ _ from ⟨_, rfl, World.ownsRow_made w #[] 0 u.size (Nat.zero_le _) rfl⟩)), Up.alloc _ _⟩
set_option maxRecDepth 100000 in
theorem st4_1 (w : World) (a : Act) (o : Oper) (_ : Up W w) (h1 : a.tmps.getD 3 undef = .pointer (some ⟨B, 0, none⟩)) (hd : o.dst = some 45) (ho : o.op = .fieldAddr 27 (.tmp 3) 4) :
    ∃ v w', (execOp a.eval o).run Tryz.prog w = .ok (.value v) w' ∧ (∀ d, o.dst = some d → fG W.heap.size B A0 A1 A2 A3 A4 c0 c1 c2 c3 c4 x d v w') ∧ Up w w' := by
  exact ⟨_, _, ex_fld w a o 3 B h1 4 (by decide) ho, (fun d hd' => by rw [hd] at hd'; injection hd' with hd'; subst hd'; exact (show gP W.heap.size B 4 4 1 A4 x.ut.length c4 (cut5 x).ut.length (oc (cut5 x).ut) 1 _ w from rfl)), Up.refl _⟩
set_option maxRecDepth 100000 in
theorem st4_3 (w : World) (a : Act) (o : Oper) (_ : Up W w) (h1 : a.tmps.getD 3 undef = .pointer (some ⟨B, 0, none⟩)) (hd : o.dst = some 47) (ho : o.op = .fieldAddr 27 (.tmp 3) 4) :
    ∃ v w', (execOp a.eval o).run Tryz.prog w = .ok (.value v) w' ∧ (∀ d, o.dst = some d → fG W.heap.size B A0 A1 A2 A3 A4 c0 c1 c2 c3 c4 x d v w') ∧ Up w w' := by
  exact ⟨_, _, ex_fld w a o 3 B h1 4 (by decide) ho, (fun d hd' => by rw [hd] at hd'; injection hd' with hd'; subst hd'; exact (show gP W.heap.size B 4 4 1 A4 x.ut.length c4 (cut5 x).ut.length (oc (cut5 x).ut) 3 _ w from rfl)), Up.refl _⟩
set_option maxRecDepth 100000 in
theorem st4_2 (w : World) (a : Act) (o : Oper) (u : Up W w) (bx : W.cell? ⟨B, 4, none⟩ = some (.slice A4 x.ut.length c4)) (h45 : fG W.heap.size B A0 A1 A2 A3 A4 c0 c1 c2 c3 c4 x 45 (a.tmps.getD 45 undef) w) (hd : o.dst = some 46) (ho : o.op = .load 25 (.tmp 45)) :
    ∃ v w', (execOp a.eval o).run Tryz.prog w = .ok (.value v) w' ∧ (∀ d, o.dst = some d → fG W.heap.size B A0 A1 A2 A3 A4 c0 c1 c2 c3 c4 x d v w') ∧ Up w w' := by
  exact ⟨_, _, ex_ldB w a o B 4 45 _ h45 (u.cell bx) ho, (fun d hd' => by rw [hd] at hd'; injection hd' with hd'; subst hd'; exact (show gP W.heap.size B 4 4 1 A4 x.ut.length c4 (cut5 x).ut.length (oc (cut5 x).ut) 2 _ w from rfl)), Up.refl _⟩
set_option maxRecDepth 100000 in
theorem st4_4 (w : World) (a : Act) (o : Oper) (u : Up W w) (bx : W.cell? ⟨B, 4, none⟩ = some (.slice A4 x.ut.length c4)) (h47 : fG W.heap.size B A0 A1 A2 A3 A4 c0 c1 c2 c3 c4 x 47 (a.tmps.getD 47 undef) w) (hd : o.dst = some 48) (ho : o.op = .load 25 (.tmp 47)) :
    ∃ v w', (execOp a.eval o).run Tryz.prog w = .ok (.value v) w' ∧ (∀ d, o.dst = some d → fG W.heap.size B A0 A1 A2 A3 A4 c0 c1 c2 c3 c4 x d v w') ∧ Up w w' := by
  exact ⟨_, _, ex_ldB w a o B 4 47 _ h47 (u.cell bx) ho, (fun d hd' => by rw [hd] at hd'; injection hd' with hd'; subst hd'; exact (show gP W.heap.size B 4 4 1 A4 x.ut.length c4 (cut5 x).ut.length (oc (cut5 x).ut) 4 _ w from rfl)), Up.refl _⟩
set_option maxRecDepth 100000 in
theorem st4_5 (w : World) (a : Act) (o : Oper) (_ : Up W w) (h48 : fG W.heap.size B A0 A1 A2 A3 A4 c0 c1 c2 c3 c4 x 48 (a.tmps.getD 48 undef) w) (hd : o.dst = some 49) (ho : o.op = .call { callee := .builtin .len, args := #[.tmp 48], argTypes := #[25] }) :
    ∃ v w', (execOp a.eval o).run Tryz.prog w = .ok (.value v) w' ∧ (∀ d, o.dst = some d → fG W.heap.size B A0 A1 A2 A3 A4 c0 c1 c2 c3 c4 x d v w') ∧ Up w w' := by
  exact ⟨_, _, ex_lenB w a o 48 A4 x.ut.length c4 h48 ho, (fun d hd' => by rw [hd] at hd'; injection hd' with hd'; subst hd'; exact (show gP W.heap.size B 4 4 1 A4 x.ut.length c4 (cut5 x).ut.length (oc (cut5 x).ut) 5 _ w from rfl)), Up.refl _⟩
set_option maxRecDepth 100000 in
theorem st4_6 (w : World) (a : Act) (o : Oper) (_ : Up W w) (h49 : fG W.heap.size B A0 A1 A2 A3 A4 c0 c1 c2 c3 c4 x 49 (a.tmps.getD 49 undef) w) (ht : o.type = 3) (hd : o.dst = some 50) (ho : o.op = .call { callee := .builtin .min, args := #[.tmp 49, .const (.int .i64 40)], argTypes := #[3, 3] }) :
    ∃ v w', (execOp a.eval o).run Tryz.prog w = .ok (.value v) w' ∧ (∀ d, o.dst = some d → fG W.heap.size B A0 A1 A2 A3 A4 c0 c1 c2 c3 c4 x d v w') ∧ Up w w' := by
  have e : min (x.ut.length : Int) 40 = ((cut5 x).ut.length : Int) := by show _ = ((x.ut.take 40).length : Int); rw [List.length_take]; omega
  refine ⟨_, _, ex_min w a o 49 x.ut.length 40 h49 ho ht, (fun d hd' => by rw [hd] at hd'; injection hd' with hd'; subst hd'; exact (show gP W.heap.size B 4 4 1 A4 x.ut.length c4 (cut5 x).ut.length (oc (cut5 x).ut) 6 _ w from congrArg (Value.int .i64) e)), Up.refl _⟩
set_option maxRecDepth 100000 in
theorem st4_7 (w : World) (a : Act) (o : Oper) (_ : Up W w) (hc : x.ut.length ≤ c4) (h46 : fG W.heap.size B A0 A1 A2 A3 A4 c0 c1 c2 c3 c4 x 46 (a.tmps.getD 46 undef) w) (h50 : fG W.heap.size B A0 A1 A2 A3 A4 c0 c1 c2 c3 c4 x 50 (a.tmps.getD 50 undef) w) (hd : o.dst = some 51) (ho : o.op = .slice 25 (.tmp 46) none (some (.tmp 50)) none) :
    ∃ v w', (execOp a.eval o).run Tryz.prog w = .ok (.value v) w' ∧ (∀ d, o.dst = some d → fG W.heap.size B A0 A1 A2 A3 A4 c0 c1 c2 c3 c4 x d v w') ∧ Up w w' := by
  have e : (cut5 x).ut.length ≤ x.ut.length := by show (x.ut.take 40).length ≤ _; rw [List.length_take]; omega
  exact ⟨_, _, ex_cutB w a o 46 50 A4 x.ut.length c4 (cut5 x).ut.length (by omega) h46 h50 ho, (fun d hd' => by rw [hd] at hd'; injection hd' with hd'; subst hd'; exact (show gP W.heap.size B 4 4 1 A4 x.ut.length c4 (cut5 x).ut.length (oc (cut5 x).ut) 7 _ w from rfl)), Up.refl _⟩
set_option maxRecDepth 100000 in
theorem st4_8 (w : World) (a : Act) (o : Oper) (u : Up W w) (r : Rc W A4 (oc x.ut)) (h44 : fG W.heap.size B A0 A1 A2 A3 A4 c0 c1 c2 c3 c4 x 44 (a.tmps.getD 44 undef) w) (h51 : fG W.heap.size B A0 A1 A2 A3 A4 c0 c1 c2 c3 c4 x 51 (a.tmps.getD 51 undef) w) (hd : o.dst = some 52) (ho : o.op = .call { callee := .builtin .append, args := #[.tmp 44, .tmp 51], argTypes := #[25, 25] }) :
    ∃ v w', (execOp a.eval o).run Tryz.prog w = .ok (.value v) w' ∧ (∀ d, o.dst = some d → fG W.heap.size B A0 A1 A2 A3 A4 c0 c1 c2 c3 c4 x d v w') ∧ Up w w' := by
  obtain ⟨g, hg, hown⟩ := (show gP W.heap.size B 4 4 1 A4 x.ut.length c4 (cut5 x).ut.length (oc (cut5 x).ut) 0 _ _ from h44)
  have e : (cut5 x).ut.length ≤ 1000 := by show (x.ut.take 40).length ≤ _; rw [List.length_take]; omega
  obtain ⟨v', w', h1, h2, h3⟩ := ex_appB w a o W.heap.size 44 51 g hg hown A4 (cut5 x).ut.length c4 (oc (cut5 x).ut) h51 (by rw [oc_len, Nat.mul_one]) ((r.up u).takeB 40) (one_oc _) e u.size ho
  exact ⟨v', w', h1, (fun d hd' => by rw [hd] at hd'; injection hd' with hd'; subst hd'; exact (show gP W.heap.size B 4 4 1 A4 x.ut.length c4 (cut5 x).ut.length (oc (cut5 x).ut) 8 _ _ from h2)), h3⟩
set_option maxRecDepth 100000 in
theorem st_bld (w : World) (a : Act) (o : Oper) (h16 : fG W.heap.size B A0 A1 A2 A3 A4 c0 c1 c2 c3 c4 x 16 (a.tmps.getD 16 undef) w) (h25 : fG W.heap.size B A0 A1 A2 A3 A4 c0 c1 c2 c3 c4 x 25 (a.tmps.getD 25 undef) w) (h34 : fG W.heap.size B A0 A1 A2 A3 A4 c0 c1 c2 c3 c4 x 34 (a.tmps.getD 34 undef) w) (h43 : fG W.heap.size B A0 A1 A2 A3 A4 c0 c1 c2 c3 c4 x 43 (a.tmps.getD 43 undef) w) (h52 : fG W.heap.size B A0 A1 A2 A3 A4 c0 c1 c2 c3 c4 x 52 (a.tmps.getD 52 undef) w) (hd : o.dst = some 53) (ho : o.op = .build 27 #[(0, .tmp 16), (1, .tmp 25), (2, .tmp 34), (3, .tmp 43), (4, .tmp 52)]) :
    ∃ v w', (execOp a.eval o).run Tryz.prog w = .ok (.value v) w' ∧ (∀ d, o.dst = some d → fG W.heap.size B A0 A1 A2 A3 A4 c0 c1 c2 c3 c4 x d v w') ∧ Up w w' := by
  have g0 : w.ownsRow W.heap.size 51 3 (a.tmps.getD 16 undef) (cut5 x).ks.length (kc (cut5 x).ks) := h16
  have g1 : w.ownsRow W.heap.size 70 2 (a.tmps.getD 25 undef) (cut5 x).js.length (jc (cut5 x).js) := h25
  have g2 : w.ownsRow W.heap.size 73 2 (a.tmps.getD 34 undef) (cut5 x).ls.length (lc (cut5 x).ls) := h34
  have g3 : w.ownsRow W.heap.size 4 1 (a.tmps.getD 43 undef) (cut5 x).sd.length (oc (cut5 x).sd) := h43
  have g4 : w.ownsRow W.heap.size 4 1 (a.tmps.getD 52 undef) (cut5 x).ut.length (oc (cut5 x).ut) := h52
  obtain ⟨P0, d0, e0⟩ := row_form g0
  rw [e0] at g0
  obtain ⟨P1, d1, e1⟩ := row_form g1
  rw [e1] at g1
  obtain ⟨P2, d2, e2⟩ := row_form g2
  rw [e2] at g2
  obtain ⟨P3, d3, e3⟩ := row_form g3
  rw [e3] at g3
  obtain ⟨P4, d4, e4⟩ := row_form g4
  rw [e4] at g4
  refine ⟨_, _, ex_bld w a o 16 25 34 43 52 P0 P1 P2 P3 P4 _ _ _ _ _ d0 d1 d2 d3 d4 e0 e1 e2 e3 e4 ho, (fun d hd' => ?_), Up.refl _⟩
  rw [hd] at hd'; injection hd' with hd'; subst hd'; exact (show OwB w W.heap.size _ (cut5 x) from ⟨_, _, _, _, _, rfl, g0, g1, g2, g3, g4⟩)
set_option maxRecDepth 100000 in
theorem st_box (w : World) (a : Act) (o : Oper) (u : Up W w) (hd : o.dst = some 4) (ho : o.op = .alloc 27) :
    ∃ v w', (execOp a.eval o).run Tryz.prog w = .ok (.value v) w' ∧ (∀ d, o.dst = some d → fG W.heap.size B A0 A1 A2 A3 A4 c0 c1 c2 c3 c4 x d v w') ∧ Up w w' := by
  refine ⟨_, _, ex_box w a o ho, (fun d hd' => ?_), Up.alloc _ _⟩
  rw [hd] at hd'; injection hd' with hd'; subst hd'
  exact (show ∃ b, Value.pointer (some ⟨w.heap.size, 0, none⟩) = .pointer (some ⟨b, 0, none⟩) ∧ W.heap.size ≤ b ∧ (w.alloc _).heap[b]? = some (.cells #[.slice none 0 0, .slice none 0 0, .slice none 0 0, .slice none 0 0, .slice none 0 0] 27 (0, 0)) from ⟨_, rfl, u.size, heap_alloc_new w _⟩)
end
end Go.Proofs.YtaljddoenjgbfaaGreat
