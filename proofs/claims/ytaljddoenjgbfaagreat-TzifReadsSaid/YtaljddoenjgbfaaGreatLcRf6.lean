/-
  The document's block, filled field by field: a box of five rows of the call's own.
-/
import Derived.Test.YtaljddoenjgbfaaGreatLcMs
namespace Go.Proofs.YtaljddoenjgbfaaGreat
open Go.ChangeShapes Go.WideShapes Go.ChangeAt Go.RowKit Lc
set_option linter.unusedVariables false

/-- The box X holds the rows of the block x, each of the call's own; the two rows of marks are two. -/
def Xv (w : World) (base X : Nat) (a b c d e : Value) (x : Blk) : Prop := w.heap[X]? = some (.cells #[a, b, c, d, e] 37 (0, 0)) ∧ w.ownsRow base 51 3 a x.ks.length (kc x.ks) ∧ w.ownsRow base 70 2 b x.js.length (jc x.js) ∧ w.ownsRow base 73 2 c x.ls.length (lc x.ls) ∧ w.ownsRow base 4 1 d x.sd.length (oc x.sd) ∧ w.ownsRow base 4 1 e x.ut.length (oc x.ut) ∧ ∀ k, d.ownBlock = some k → e.ownBlock ≠ some k
def Xb (w : World) (base X : Nat) (x : Blk) : Prop := ∃ a b c d e, Xv w base X a b c d e x
set_option maxRecDepth 100000 in
theorem Xv.up {w w' : World} {base X : Nat} {a b c d e : Value} {x : Blk} (h : Xv w base X a b c d e x) (u : Up w w') : Xv w' base X a b c d e x :=
  ⟨heap_up u h.1, row_up h.2.1 u, row_up h.2.2.1 u, row_up h.2.2.2.1 u, row_up h.2.2.2.2.1 u, row_up h.2.2.2.2.2.1 u, h.2.2.2.2.2.2⟩
set_option maxRecDepth 100000 in
theorem Xb.up {w w' : World} {base X : Nat} {x : Blk} (h : Xb w base X x) (u : Up w w') : Xb w' base X x := by
  obtain ⟨a, b, c, d, e, h⟩ := h
  exact ⟨a, b, c, d, e, h.up u⟩
set_option maxRecDepth 100000 in
theorem Xb.new (w : World) (base : Nat) : Xb (w.alloc (.cells #[.slice none 0 0, .slice none 0 0, .slice none 0 0, .slice none 0 0, .slice none 0 0] 37)) base w.heap.size ⟨[], [], [], [], []⟩ :=
  ⟨_, _, _, _, _, heap_alloc_new _ _, World.ownsRow_nil _ _ _ _, World.ownsRow_nil _ _ _ _, World.ownsRow_nil _ _ _ _, World.ownsRow_nil _ _ _ _, World.ownsRow_nil _ _ _ _, fun k hk => by cases hk⟩
set_option maxRecDepth 100000 in
theorem Xv.rd {w : World} {base X : Nat} {a b c d e : Value} {x : Blk} (h : Xv w base X a b c d e x) : BkR w (.agg #[a, b, c, d, e]) x :=
  ⟨_, _, _, _, _, rfl, row_sl h.2.1, row_sl h.2.2.1, row_sl h.2.2.2.1, row_sl h.2.2.2.2.1, row_sl h.2.2.2.2.2.1⟩
set_option maxRecDepth 100000 in
theorem Xv.form {w : World} {base X : Nat} {a b c d e : Value} {x : Blk} (h : Xv w base X a b c d e x) : ∃ A0 c0 A1 c1 A2 c2 A3 c3 A4 c4, a = .slice A0 x.ks.length c0 ∧ b = .slice A1 x.js.length c1 ∧ c = .slice A2 x.ls.length c2 ∧ d = .slice A3 x.sd.length c3 ∧ e = .slice A4 x.ut.length c4 := by
  obtain ⟨A0, c0, h0⟩ := row_form h.2.1
  obtain ⟨A1, c1, h1⟩ := row_form h.2.2.1
  obtain ⟨A2, c2, h2⟩ := row_form h.2.2.2.1
  obtain ⟨A3, c3, h3⟩ := row_form h.2.2.2.2.1
  obtain ⟨A4, c4, h4⟩ := row_form h.2.2.2.2.2.1
  exact ⟨A0, c0, A1, c1, A2, c2, A3, c3, A4, c4, h0, h1, h2, h3, h4⟩
set_option maxRecDepth 100000 in
theorem row_dec {w : World} {base : Nat} {e : TypeId} {size : Nat} {v : Value} {n : Nat} {xs : List Value} (h : w.ownsRow base e size v n xs) {k : Nat} (hk : v.ownBlock = some k) : k < w.heap.size := (World.ownsRow.lt h k hk).2
set_option maxRecDepth 100000 in
theorem Xv.app0 {w w' : World} {base X : Nat} {a b c d e v' : Value} {x : Blk} {m : List Knd} (h : Xv w base X a b c d e x) (ho : w'.ownsRow base 51 3 v' (x.ks ++ m).length (kc (x.ks ++ m))) (hg : w.grownBy w' a.ownBlock) (hn : v'.ownBlock = a.ownBlock ∨ v'.ownBlock = some w.heap.size) :
    Xv (w'.setCell ⟨X, 0, none⟩ v') base X v' b c d e ⟨x.ks ++ m, x.js, x.ls, x.sd, x.ut⟩ := by
  have hX := heap_grown hg h.1 (row_ty h.2.1 h.1 (by decide))
  exact ⟨heap_setCell_same w' X 0 _ _ v' hX,
    row_else ho (row_ty ho hX (by decide)) _ _,
    row_else (World.ownsRow.kept h.2.2.1 hg (row_two h.2.2.1 h.2.1 (by decide))) (row_ty (World.ownsRow.kept h.2.2.1 hg (row_two h.2.2.1 h.2.1 (by decide))) hX (by decide)) _ _,
    row_else (World.ownsRow.kept h.2.2.2.1 hg (row_two h.2.2.2.1 h.2.1 (by decide))) (row_ty (World.ownsRow.kept h.2.2.2.1 hg (row_two h.2.2.2.1 h.2.1 (by decide))) hX (by decide)) _ _,
    row_else (World.ownsRow.kept h.2.2.2.2.1 hg (row_two h.2.2.2.2.1 h.2.1 (by decide))) (row_ty (World.ownsRow.kept h.2.2.2.2.1 hg (row_two h.2.2.2.2.1 h.2.1 (by decide))) hX (by decide)) _ _,
    row_else (World.ownsRow.kept h.2.2.2.2.2.1 hg (row_two h.2.2.2.2.2.1 h.2.1 (by decide))) (row_ty (World.ownsRow.kept h.2.2.2.2.2.1 hg (row_two h.2.2.2.2.2.1 h.2.1 (by decide))) hX (by decide)) _ _,
    h.2.2.2.2.2.2⟩
set_option maxRecDepth 100000 in
theorem Xv.app1 {w w' : World} {base X : Nat} {a b c d e v' : Value} {x : Blk} {m : List Jmp} (h : Xv w base X a b c d e x) (ho : w'.ownsRow base 70 2 v' (x.js ++ m).length (jc (x.js ++ m))) (hg : w.grownBy w' b.ownBlock) (hn : v'.ownBlock = b.ownBlock ∨ v'.ownBlock = some w.heap.size) :
    Xv (w'.setCell ⟨X, 1, none⟩ v') base X a v' c d e ⟨x.ks, x.js ++ m, x.ls, x.sd, x.ut⟩ := by
  have hX := heap_grown hg h.1 (row_ty h.2.2.1 h.1 (by decide))
  exact ⟨heap_setCell_same w' X 1 _ _ v' hX,
    row_else (World.ownsRow.kept h.2.1 hg (row_two h.2.1 h.2.2.1 (by decide))) (row_ty (World.ownsRow.kept h.2.1 hg (row_two h.2.1 h.2.2.1 (by decide))) hX (by decide)) _ _,
    row_else ho (row_ty ho hX (by decide)) _ _,
    row_else (World.ownsRow.kept h.2.2.2.1 hg (row_two h.2.2.2.1 h.2.2.1 (by decide))) (row_ty (World.ownsRow.kept h.2.2.2.1 hg (row_two h.2.2.2.1 h.2.2.1 (by decide))) hX (by decide)) _ _,
    row_else (World.ownsRow.kept h.2.2.2.2.1 hg (row_two h.2.2.2.2.1 h.2.2.1 (by decide))) (row_ty (World.ownsRow.kept h.2.2.2.2.1 hg (row_two h.2.2.2.2.1 h.2.2.1 (by decide))) hX (by decide)) _ _,
    row_else (World.ownsRow.kept h.2.2.2.2.2.1 hg (row_two h.2.2.2.2.2.1 h.2.2.1 (by decide))) (row_ty (World.ownsRow.kept h.2.2.2.2.2.1 hg (row_two h.2.2.2.2.2.1 h.2.2.1 (by decide))) hX (by decide)) _ _,
    h.2.2.2.2.2.2⟩
set_option maxRecDepth 100000 in
theorem Xv.app2 {w w' : World} {base X : Nat} {a b c d e v' : Value} {x : Blk} {m : List Lep} (h : Xv w base X a b c d e x) (ho : w'.ownsRow base 73 2 v' (x.ls ++ m).length (lc (x.ls ++ m))) (hg : w.grownBy w' c.ownBlock) (hn : v'.ownBlock = c.ownBlock ∨ v'.ownBlock = some w.heap.size) :
    Xv (w'.setCell ⟨X, 2, none⟩ v') base X a b v' d e ⟨x.ks, x.js, x.ls ++ m, x.sd, x.ut⟩ := by
  have hX := heap_grown hg h.1 (row_ty h.2.2.2.1 h.1 (by decide))
  exact ⟨heap_setCell_same w' X 2 _ _ v' hX,
    row_else (World.ownsRow.kept h.2.1 hg (row_two h.2.1 h.2.2.2.1 (by decide))) (row_ty (World.ownsRow.kept h.2.1 hg (row_two h.2.1 h.2.2.2.1 (by decide))) hX (by decide)) _ _,
    row_else (World.ownsRow.kept h.2.2.1 hg (row_two h.2.2.1 h.2.2.2.1 (by decide))) (row_ty (World.ownsRow.kept h.2.2.1 hg (row_two h.2.2.1 h.2.2.2.1 (by decide))) hX (by decide)) _ _,
    row_else ho (row_ty ho hX (by decide)) _ _,
    row_else (World.ownsRow.kept h.2.2.2.2.1 hg (row_two h.2.2.2.2.1 h.2.2.2.1 (by decide))) (row_ty (World.ownsRow.kept h.2.2.2.2.1 hg (row_two h.2.2.2.2.1 h.2.2.2.1 (by decide))) hX (by decide)) _ _,
    row_else (World.ownsRow.kept h.2.2.2.2.2.1 hg (row_two h.2.2.2.2.2.1 h.2.2.2.1 (by decide))) (row_ty (World.ownsRow.kept h.2.2.2.2.2.1 hg (row_two h.2.2.2.2.2.1 h.2.2.2.1 (by decide))) hX (by decide)) _ _,
    h.2.2.2.2.2.2⟩
set_option maxRecDepth 100000 in
theorem Xv.app3 {w w' : World} {base X : Nat} {a b c d e v' : Value} {x : Blk} {m : List Bool} (h : Xv w base X a b c d e x) (ho : w'.ownsRow base 4 1 v' (x.sd ++ m).length (oc (x.sd ++ m))) (hg : w.grownBy w' d.ownBlock) (hn : v'.ownBlock = d.ownBlock ∨ v'.ownBlock = some w.heap.size) :
    Xv (w'.setCell ⟨X, 3, none⟩ v') base X a b c v' e ⟨x.ks, x.js, x.ls, x.sd ++ m, x.ut⟩ := by
  have hX := heap_grown hg h.1 (row_ty h.2.2.2.2.1 h.1 (by decide))
  exact ⟨heap_setCell_same w' X 3 _ _ v' hX,
    row_else (World.ownsRow.kept h.2.1 hg (row_two h.2.1 h.2.2.2.2.1 (by decide))) (row_ty (World.ownsRow.kept h.2.1 hg (row_two h.2.1 h.2.2.2.2.1 (by decide))) hX (by decide)) _ _,
    row_else (World.ownsRow.kept h.2.2.1 hg (row_two h.2.2.1 h.2.2.2.2.1 (by decide))) (row_ty (World.ownsRow.kept h.2.2.1 hg (row_two h.2.2.1 h.2.2.2.2.1 (by decide))) hX (by decide)) _ _,
    row_else (World.ownsRow.kept h.2.2.2.1 hg (row_two h.2.2.2.1 h.2.2.2.2.1 (by decide))) (row_ty (World.ownsRow.kept h.2.2.2.1 hg (row_two h.2.2.2.1 h.2.2.2.2.1 (by decide))) hX (by decide)) _ _,
    row_else ho (row_ty ho hX (by decide)) _ _,
    row_else (World.ownsRow.kept h.2.2.2.2.2.1 hg (by rcases hb : e.ownBlock with _ | k; exact .inl rfl; exact .inr fun c => h.2.2.2.2.2.2 k c.symm hb)) (row_ty (World.ownsRow.kept h.2.2.2.2.2.1 hg (by rcases hb : e.ownBlock with _ | k; exact .inl rfl; exact .inr fun c => h.2.2.2.2.2.2 k c.symm hb)) hX (by decide)) _ _,
    fun k hk hk2 => by
    rcases hn with g | g
    · exact h.2.2.2.2.2.2 k (g ▸ hk) hk2
    · rw [g] at hk; injection hk with hk; have := row_dec h.2.2.2.2.2.1 hk2; omega⟩
set_option maxRecDepth 100000 in
theorem Xv.app4 {w w' : World} {base X : Nat} {a b c d e v' : Value} {x : Blk} {m : List Bool} (h : Xv w base X a b c d e x) (ho : w'.ownsRow base 4 1 v' (x.ut ++ m).length (oc (x.ut ++ m))) (hg : w.grownBy w' e.ownBlock) (hn : v'.ownBlock = e.ownBlock ∨ v'.ownBlock = some w.heap.size) :
    Xv (w'.setCell ⟨X, 4, none⟩ v') base X a b c d v' ⟨x.ks, x.js, x.ls, x.sd, x.ut ++ m⟩ := by
  have hX := heap_grown hg h.1 (row_ty h.2.2.2.2.2.1 h.1 (by decide))
  exact ⟨heap_setCell_same w' X 4 _ _ v' hX,
    row_else (World.ownsRow.kept h.2.1 hg (row_two h.2.1 h.2.2.2.2.2.1 (by decide))) (row_ty (World.ownsRow.kept h.2.1 hg (row_two h.2.1 h.2.2.2.2.2.1 (by decide))) hX (by decide)) _ _,
    row_else (World.ownsRow.kept h.2.2.1 hg (row_two h.2.2.1 h.2.2.2.2.2.1 (by decide))) (row_ty (World.ownsRow.kept h.2.2.1 hg (row_two h.2.2.1 h.2.2.2.2.2.1 (by decide))) hX (by decide)) _ _,
    row_else (World.ownsRow.kept h.2.2.2.1 hg (row_two h.2.2.2.1 h.2.2.2.2.2.1 (by decide))) (row_ty (World.ownsRow.kept h.2.2.2.1 hg (row_two h.2.2.2.1 h.2.2.2.2.2.1 (by decide))) hX (by decide)) _ _,
    row_else (World.ownsRow.kept h.2.2.2.2.1 hg (by rcases hb : d.ownBlock with _ | k; exact .inl rfl; exact .inr fun c => h.2.2.2.2.2.2 k hb c.symm)) (row_ty (World.ownsRow.kept h.2.2.2.2.1 hg (by rcases hb : d.ownBlock with _ | k; exact .inl rfl; exact .inr fun c => h.2.2.2.2.2.2 k hb c.symm)) hX (by decide)) _ _,
    row_else ho (row_ty ho hX (by decide)) _ _,
    fun k hk hk2 => by
    rcases hn with g | g
    · exact h.2.2.2.2.2.2 k hk (g ▸ hk2)
    · rw [g] at hk2; injection hk2 with hk2; have := row_dec h.2.2.2.2.1 hk; omega⟩
set_option maxRecDepth 100000 in
theorem step_append_knd (w : World) {ops : Array Oper} {o : Oper} {a : Act} {K : Act → World → Prop} {Q : Exit → Act → World → Prop} {E : Prop} (hgd : o.guard = none) (s x : Operand)
    (ho : o.op = .call { callee := .builtin .append, args := #[s, x], argTypes := #[22, 22] })
    (base : Nat) (v : Value) (l : List Knd) (hs : a.eval s = v) (h : w.ownsRow base 51 3 v l.length (kc l)) (A : Option Addr) (m : List Knd) (n c : Nat) (hx : a.eval x = .slice A n c) (hn : m.length = n) (hr : Rc w A (kc m))
    (hsz : l.length + m.length ≤ 1000000) (hb : base ≤ w.heap.size)
    (k : ∀ v' w', w'.ownsRow base 51 3 v' (l ++ m).length (kc (l ++ m)) → w.grownBy w' v.ownBlock → (v'.ownBlock = v.ownBlock ∨ v'.ownBlock = some w.heap.size) → K (a.put o.dst v') w') :
    if Region.wanted o (yielded ops a.tmps) = true then Oper.wp Tryz.prog o a w K Q else E := by
  have hw : Region.wanted o (yielded ops a.tmps) = true := by simp [Region.wanted, hgd]
  rw [if_pos hw]
  subst hn
  obtain ⟨i0, hi, hz0, hz1, hz2⟩ := info_parts kndInfo
  obtain ⟨v', w', hrun, h2, h3, h4⟩ := run_append_row Tryz.prog w base 22 o.type 51 i0 _ 3 32 Tryz.underlying22 hi hz0 hz1 hz2 rfl (by decide) v l.length (kc l) h A m.length c (kc m) (kc_len _) hr (one_kc _) (by unfold maxLen; omega) (by omega) hb
  unfold Oper.wp execOp
  simp only [ho, resolve, invoke, builtin, Sem.run_bind, Sem.run_pure, Result.andThen_ok, List.map_toArray, List.map_cons, List.map_nil, hs, hx, hrun]
  exact k v' w' (by rw [kc_append, List.length_append]; exact h2) h3 h4
set_option maxRecDepth 100000 in
theorem step_append_jmp (w : World) {ops : Array Oper} {o : Oper} {a : Act} {K : Act → World → Prop} {Q : Exit → Act → World → Prop} {E : Prop} (hgd : o.guard = none) (s x : Operand)
    (ho : o.op = .call { callee := .builtin .append, args := #[s, x], argTypes := #[23, 23] })
    (base : Nat) (v : Value) (l : List Jmp) (hs : a.eval s = v) (h : w.ownsRow base 70 2 v l.length (jc l)) (A : Option Addr) (m : List Jmp) (n c : Nat) (hx : a.eval x = .slice A n c) (hn : m.length = n) (hr : Rc w A (jc m))
    (hsz : l.length + m.length ≤ 1000000) (hb : base ≤ w.heap.size)
    (k : ∀ v' w', w'.ownsRow base 70 2 v' (l ++ m).length (jc (l ++ m)) → w.grownBy w' v.ownBlock → (v'.ownBlock = v.ownBlock ∨ v'.ownBlock = some w.heap.size) → K (a.put o.dst v') w') :
    if Region.wanted o (yielded ops a.tmps) = true then Oper.wp Tryz.prog o a w K Q else E := by
  have hw : Region.wanted o (yielded ops a.tmps) = true := by simp [Region.wanted, hgd]
  rw [if_pos hw]
  subst hn
  obtain ⟨i0, hi, hz0, hz1, hz2⟩ := info_parts jmpInfo
  obtain ⟨v', w', hrun, h2, h3, h4⟩ := run_append_row Tryz.prog w base 23 o.type 70 i0 _ 2 16 Tryz.underlying23 hi hz0 hz1 hz2 rfl (by decide) v l.length (jc l) h A m.length c (jc m) (jc_len _) hr (one_jc _) (by unfold maxLen; omega) (by omega) hb
  unfold Oper.wp execOp
  simp only [ho, resolve, invoke, builtin, Sem.run_bind, Sem.run_pure, Result.andThen_ok, List.map_toArray, List.map_cons, List.map_nil, hs, hx, hrun]
  exact k v' w' (by rw [jc_append, List.length_append]; exact h2) h3 h4
set_option maxRecDepth 100000 in
theorem step_append_lep (w : World) {ops : Array Oper} {o : Oper} {a : Act} {K : Act → World → Prop} {Q : Exit → Act → World → Prop} {E : Prop} (hgd : o.guard = none) (s x : Operand)
    (ho : o.op = .call { callee := .builtin .append, args := #[s, x], argTypes := #[24, 24] })
    (base : Nat) (v : Value) (l : List Lep) (hs : a.eval s = v) (h : w.ownsRow base 73 2 v l.length (lc l)) (A : Option Addr) (m : List Lep) (n c : Nat) (hx : a.eval x = .slice A n c) (hn : m.length = n) (hr : Rc w A (lc m))
    (hsz : l.length + m.length ≤ 1000000) (hb : base ≤ w.heap.size)
    (k : ∀ v' w', w'.ownsRow base 73 2 v' (l ++ m).length (lc (l ++ m)) → w.grownBy w' v.ownBlock → (v'.ownBlock = v.ownBlock ∨ v'.ownBlock = some w.heap.size) → K (a.put o.dst v') w') :
    if Region.wanted o (yielded ops a.tmps) = true then Oper.wp Tryz.prog o a w K Q else E := by
  have hw : Region.wanted o (yielded ops a.tmps) = true := by simp [Region.wanted, hgd]
  rw [if_pos hw]
  subst hn
  obtain ⟨i0, hi, hz0, hz1, hz2⟩ := info_parts lepInfo
  obtain ⟨v', w', hrun, h2, h3, h4⟩ := run_append_row Tryz.prog w base 24 o.type 73 i0 _ 2 16 Tryz.underlying24 hi hz0 hz1 hz2 rfl (by decide) v l.length (lc l) h A m.length c (lc m) (lc_len _) hr (one_lc _) (by unfold maxLen; omega) (by omega) hb
  unfold Oper.wp execOp
  simp only [ho, resolve, invoke, builtin, Sem.run_bind, Sem.run_pure, Result.andThen_ok, List.map_toArray, List.map_cons, List.map_nil, hs, hx, hrun]
  exact k v' w' (by rw [lc_append, List.length_append]; exact h2) h3 h4
set_option maxRecDepth 100000 in
theorem step_append_bol (w : World) {ops : Array Oper} {o : Oper} {a : Act} {K : Act → World → Prop} {Q : Exit → Act → World → Prop} {E : Prop} (hgd : o.guard = none) (s x : Operand)
    (ho : o.op = .call { callee := .builtin .append, args := #[s, x], argTypes := #[25, 25] })
    (base : Nat) (v : Value) (l : List Bool) (hs : a.eval s = v) (h : w.ownsRow base 4 1 v l.length (oc l)) (A : Option Addr) (m : List Bool) (n c : Nat) (hx : a.eval x = .slice A n c) (hn : m.length = n) (hr : Rc w A (oc m))
    (hsz : l.length + m.length ≤ 1000000) (hb : base ≤ w.heap.size)
    (k : ∀ v' w', w'.ownsRow base 4 1 v' (l ++ m).length (oc (l ++ m)) → w.grownBy w' v.ownBlock → (v'.ownBlock = v.ownBlock ∨ v'.ownBlock = some w.heap.size) → K (a.put o.dst v') w') :
    if Region.wanted o (yielded ops a.tmps) = true then Oper.wp Tryz.prog o a w K Q else E := by
  have hw : Region.wanted o (yielded ops a.tmps) = true := by simp [Region.wanted, hgd]
  rw [if_pos hw]
  subst hn
  obtain ⟨i0, hi, hz0, hz1, hz2⟩ := info_parts bolInfo
  obtain ⟨v', w', hrun, h2, h3, h4⟩ := run_append_row Tryz.prog w base 25 o.type 4 i0 _ 1 1 Tryz.underlying25 hi hz0 hz1 hz2 rfl (by decide) v l.length (oc l) h A m.length c (oc m) (by rw [oc_len, Nat.mul_one]) hr (one_oc _) (by unfold maxLen; omega) (by omega) hb
  unfold Oper.wp execOp
  simp only [ho, resolve, invoke, builtin, Sem.run_bind, Sem.run_pure, Result.andThen_ok, List.map_toArray, List.map_cons, List.map_nil, hs, hx, hrun]
  exact k v' w' (by rw [oc_append, List.length_append]; exact h2) h3 h4
end Go.Proofs.YtaljddoenjgbfaaGreat
