/-
  'append(v, x)' of kinds, jumps, leap seconds and marks onto a row of the call's own.
-/
import Derived.Test.YtoijaananjlfpaaLcFew
namespace Go.Proofs.Ytoijaananjlfpaa
open Go.ChangeShapes Go.WideShapes Go.ChangeAt Go.RowKit Lc

theorem run_append_row (P : Program) (w : World) (base : Nat) (t ty e : TypeId) (i : TypeInfo) (z : Value) (size bytes : Nat) (ht : P.underlying t = some (.slice e)) (hi : P.info? e = some i) (hz : i.zero = some z)
    (hsize : i.size = size) (hby : i.bytes = bytes) (hzs : z.cells.size = size) (hsz : 0 < size)
    (v : Value) (n : Nat) (xs : List Value) (hown : w.ownsRow base e size v n xs)
    (A : Option Addr) (m c : Nat) (news : List Value) (hl : news.length = m * size) (hr : Rc w A news) (h1 : ∀ u ∈ news, u.oneCell' = true)
    (h63 : n + m ≤ maxLen) (hbytes : (n + m) * bytes ≤ 140737488355328) (hbase : base ≤ w.heap.size) :
    ∃ v' w', (Builtin.append_ #[t, t] ty #[v, .slice A m c]).run P w = .ok v' w' ∧ w'.ownsRow base e size v' (n + m) (xs ++ news) ∧ w.grownBy w' v.ownBlock ∧ (v'.ownBlock = v.ownBlock ∨ v'.ownBlock = some w.heap.size) := by
  rcases A with _ | p
  · have hm : news = [] := by
      rcases Nat.eq_zero_or_pos news.length with h0 | h0
      · exact List.eq_nil_of_length_eq_zero h0
      · obtain ⟨b, o, e, _⟩ := hr h0; cases e
    subst hm
    have m0 : m = 0 := by
      rcases Nat.eq_zero_or_pos m with h | h
      · exact h
      · have := Nat.mul_pos h hsz; simp at hl; omega
    subst m0
    refine ⟨v, w, ?_, by simpa using hown, World.grownBy.refl w _, .inl rfl⟩
    rcases hown.2 with ⟨rfl, h0⟩ | ⟨g, cap, cur, rfl, _, _, hnc, _⟩
    · simp [Builtin.append_, run_underlying ht, sizeOf, typeInfo, hi, Builtin.lenOf, Builtin.firstCells]
    · simp [Builtin.append_, run_underlying ht, sizeOf, typeInfo, hi, Builtin.lenOf, Builtin.firstCells, hnc, storeCells]
  · have hnews : ∀ j u, news[j]? = some u → w.cell? (p.add j) = some u := fun j u hj => by
      have hp : 0 < news.length := by
        rcases Nat.eq_zero_or_pos news.length with h0 | h0
        · rw [List.eq_nil_of_length_eq_zero h0] at hj; cases hj
        · exact h0
      obtain ⟨b, o, e, hc⟩ := hr hp
      injection e with e
      subst e
      have ea : (⟨b, o, none⟩ : Addr).add j = ⟨b, o + j, none⟩ := by unfold Addr.add; split <;> simp_all
      rw [ea]; exact hc j u hj
    obtain ⟨v', w', hrun, h2, h3, _, h5⟩ := run_append_own_at (P := P) w base t ty e i z size bytes ht hi hz hsize hby hzs hsz v n xs hown p m c news hl hnews h1 h63 hbytes hbase
    exact ⟨v', w', hrun, h2, h3, h5⟩
theorem wpList_append_knd (w : World) {ops : Array Oper} {rest : List Oper} {o : Oper} {a : Act} {Q : Exit → Act → World → Prop} (hgd : o.guard = none) (s x : Operand)
    (ho : o.op = .call { callee := .builtin .append, args := #[s, x], argTypes := #[22, 22] })
    (base : Nat) (v : Value) (l : List Knd) (hs : a.eval s = v) (h : w.ownsRow base 56 3 v l.length (kc l)) (A : Option Addr) (m : List Knd) (n c : Nat) (hx : a.eval x = .slice A n c) (hn : m.length = n) (hr : Rc w A (kc m))
    (hsz : l.length + m.length ≤ 1000000) (hb : base ≤ w.heap.size)
    (k : ∀ v' w', w'.ownsRow base 56 3 v' (l ++ m).length (kc (l ++ m)) → w.grownBy w' v.ownBlock → (v'.ownBlock = v.ownBlock ∨ v'.ownBlock = some w.heap.size) → wpList Try.prog ops Q rest (a.put o.dst v') w') : wpList Try.prog ops Q (o :: rest) a w := by
  refine wpList_plain hgd fun K hK => ?_
  subst hn
  obtain ⟨i0, hi, hz0, hz1, hz2⟩ := info_parts kndInfo
  obtain ⟨v', w', hrun, h2, h3, h4⟩ := run_append_row Try.prog w base 22 o.type 56 i0 _ 3 32 Try.underlying22 hi hz0 hz1 hz2 rfl (by decide) v l.length (kc l) h A m.length c (kc m) (kc_len _) hr (one_kc _) (by unfold maxLen; omega) (by omega) hb
  unfold Oper.wp execOp
  simp only [ho, resolve, invoke, builtin, Sem.run_bind, Sem.run_pure, Result.andThen_ok, List.map_toArray, List.map_cons, List.map_nil, hs, hx, hrun]
  exact hK _ _ (k v' w' (by rw [kc_append, List.length_append]; exact h2) h3 h4)
theorem wpList_append_jmp (w : World) {ops : Array Oper} {rest : List Oper} {o : Oper} {a : Act} {Q : Exit → Act → World → Prop} (hgd : o.guard = none) (s x : Operand)
    (ho : o.op = .call { callee := .builtin .append, args := #[s, x], argTypes := #[23, 23] })
    (base : Nat) (v : Value) (l : List Jmp) (hs : a.eval s = v) (h : w.ownsRow base 54 2 v l.length (jc l)) (A : Option Addr) (m : List Jmp) (n c : Nat) (hx : a.eval x = .slice A n c) (hn : m.length = n) (hr : Rc w A (jc m))
    (hsz : l.length + m.length ≤ 1000000) (hb : base ≤ w.heap.size)
    (k : ∀ v' w', w'.ownsRow base 54 2 v' (l ++ m).length (jc (l ++ m)) → w.grownBy w' v.ownBlock → (v'.ownBlock = v.ownBlock ∨ v'.ownBlock = some w.heap.size) → wpList Try.prog ops Q rest (a.put o.dst v') w') : wpList Try.prog ops Q (o :: rest) a w := by
  refine wpList_plain hgd fun K hK => ?_
  subst hn
  obtain ⟨i0, hi, hz0, hz1, hz2⟩ := info_parts jmpInfo
  obtain ⟨v', w', hrun, h2, h3, h4⟩ := run_append_row Try.prog w base 23 o.type 54 i0 _ 2 16 Try.underlying23 hi hz0 hz1 hz2 rfl (by decide) v l.length (jc l) h A m.length c (jc m) (jc_len _) hr (one_jc _) (by unfold maxLen; omega) (by omega) hb
  unfold Oper.wp execOp
  simp only [ho, resolve, invoke, builtin, Sem.run_bind, Sem.run_pure, Result.andThen_ok, List.map_toArray, List.map_cons, List.map_nil, hs, hx, hrun]
  exact hK _ _ (k v' w' (by rw [jc_append, List.length_append]; exact h2) h3 h4)
theorem wpList_append_lep (w : World) {ops : Array Oper} {rest : List Oper} {o : Oper} {a : Act} {Q : Exit → Act → World → Prop} (hgd : o.guard = none) (s x : Operand)
    (ho : o.op = .call { callee := .builtin .append, args := #[s, x], argTypes := #[24, 24] })
    (base : Nat) (v : Value) (l : List Lep) (hs : a.eval s = v) (h : w.ownsRow base 67 2 v l.length (lc l)) (A : Option Addr) (m : List Lep) (n c : Nat) (hx : a.eval x = .slice A n c) (hn : m.length = n) (hr : Rc w A (lc m))
    (hsz : l.length + m.length ≤ 1000000) (hb : base ≤ w.heap.size)
    (k : ∀ v' w', w'.ownsRow base 67 2 v' (l ++ m).length (lc (l ++ m)) → w.grownBy w' v.ownBlock → (v'.ownBlock = v.ownBlock ∨ v'.ownBlock = some w.heap.size) → wpList Try.prog ops Q rest (a.put o.dst v') w') : wpList Try.prog ops Q (o :: rest) a w := by
  refine wpList_plain hgd fun K hK => ?_
  subst hn
  obtain ⟨i0, hi, hz0, hz1, hz2⟩ := info_parts lepInfo
  obtain ⟨v', w', hrun, h2, h3, h4⟩ := run_append_row Try.prog w base 24 o.type 67 i0 _ 2 16 Try.underlying24 hi hz0 hz1 hz2 rfl (by decide) v l.length (lc l) h A m.length c (lc m) (lc_len _) hr (one_lc _) (by unfold maxLen; omega) (by omega) hb
  unfold Oper.wp execOp
  simp only [ho, resolve, invoke, builtin, Sem.run_bind, Sem.run_pure, Result.andThen_ok, List.map_toArray, List.map_cons, List.map_nil, hs, hx, hrun]
  exact hK _ _ (k v' w' (by rw [lc_append, List.length_append]; exact h2) h3 h4)
theorem wpList_append_bol (w : World) {ops : Array Oper} {rest : List Oper} {o : Oper} {a : Act} {Q : Exit → Act → World → Prop} (hgd : o.guard = none) (s x : Operand)
    (ho : o.op = .call { callee := .builtin .append, args := #[s, x], argTypes := #[25, 25] })
    (base : Nat) (v : Value) (l : List Bool) (hs : a.eval s = v) (h : w.ownsRow base 4 1 v l.length (oc l)) (A : Option Addr) (m : List Bool) (n c : Nat) (hx : a.eval x = .slice A n c) (hn : m.length = n) (hr : Rc w A (oc m))
    (hsz : l.length + m.length ≤ 1000000) (hb : base ≤ w.heap.size)
    (k : ∀ v' w', w'.ownsRow base 4 1 v' (l ++ m).length (oc (l ++ m)) → w.grownBy w' v.ownBlock → (v'.ownBlock = v.ownBlock ∨ v'.ownBlock = some w.heap.size) → wpList Try.prog ops Q rest (a.put o.dst v') w') : wpList Try.prog ops Q (o :: rest) a w := by
  refine wpList_plain hgd fun K hK => ?_
  subst hn
  obtain ⟨i0, hi, hz0, hz1, hz2⟩ := info_parts bolInfo
  obtain ⟨v', w', hrun, h2, h3, h4⟩ := run_append_row Try.prog w base 25 o.type 4 i0 _ 1 1 Try.underlying25 hi hz0 hz1 hz2 rfl (by decide) v l.length (oc l) h A m.length c (oc m) (by rw [oc_len, Nat.mul_one]) hr (one_oc _) (by unfold maxLen; omega) (by omega) hb
  unfold Oper.wp execOp
  simp only [ho, resolve, invoke, builtin, Sem.run_bind, Sem.run_pure, Result.andThen_ok, List.map_toArray, List.map_cons, List.map_nil, hs, hx, hrun]
  exact hK _ _ (k v' w' (by rw [oc_append, List.length_append]; exact h2) h3 h4)
theorem row_two {w : World} {base base' : Nat} {e e' : TypeId} {size size' : Nat} {v v' : Value} {n n' : Nat} {xs xs' : List Value} (h : w.ownsRow base e size v n xs) (h' : w.ownsRow base' e' size' v' n' xs') (hne : e ≠ e') : v.ownBlock = none ∨ v.ownBlock ≠ v'.ownBlock := by
  rcases h.2 with ⟨rfl, _⟩ | ⟨g, cap, cur, rfl, _, hh, _⟩
  · exact .inl rfl
  · refine .inr fun c => ?_
    exact row_ty h' hh hne (by rw [← c]; rfl)
/-- One jump more. -/
theorem OwB.jumps {w w' : World} {base : Nat} {a b c d e b' : Value} {x : Blk} (h : OwB w base (.agg #[a, b, c, d, e]) x) {m : List Jmp} (ho : w'.ownsRow base 54 2 b' (x.js ++ m).length (jc (x.js ++ m))) (hg : w.grownBy w' b.ownBlock) : OwB w' base (.agg #[a, b', c, d, e]) ⟨x.ks, x.js ++ m, x.ls, x.sd, x.ut⟩ := by
  obtain ⟨_, _, _, _, _, he, h1, h2, h3, h4, h5⟩ := h
  simp only [Value.agg.injEq, Array.mk.injEq, List.cons.injEq, and_true] at he
  obtain ⟨rfl, rfl, rfl, rfl, rfl⟩ := he
  exact ⟨_, _, _, _, _, rfl, World.ownsRow.kept h1 hg (row_two h1 h2 (by decide)), ho, World.ownsRow.kept h3 hg (row_two h3 h2 (by decide)), World.ownsRow.kept h4 hg (row_two h4 h2 (by decide)), World.ownsRow.kept h5 hg (row_two h5 h2 (by decide))⟩
theorem heap_grown {w w' : World} {row : Option Nat} (hg : w.grownBy w' row) {b : Nat} {o : Obj} (h : w.heap[b]? = some o) (hne : row ≠ some b) : w'.heap[b]? = some o := by
  have lt : b < w.heap.size := by
    rcases Nat.lt_or_ge b w.heap.size with g | g
    · exact g
    · rw [Array.getElem?_eq_none g] at h; cases h
  rw [hg.block b lt (fun c => hne c.symm)]; exact h
theorem OwB.jb {w : World} {base : Nat} {a b c d e : Value} {x : Blk} (h : OwB w base (.agg #[a, b, c, d, e]) x) : w.ownsRow base 54 2 b x.js.length (jc x.js) := by
  obtain ⟨_, _, _, _, _, he, h1, h2, h3, h4, h5⟩ := h
  simp only [Value.agg.injEq, Array.mk.injEq, List.cons.injEq, and_true] at he
  obtain ⟨rfl, rfl, rfl, rfl, rfl⟩ := he
  exact h2
end Go.Proofs.Ytoijaananjlfpaa
