/-
  'append(v, x)' of kinds, jumps, leap seconds and marks onto a row of the call's own.
-/
import Derived.Test.YtaljddoenjgbfaaGreatLcFewG
import Derived.Test.YtaljddoenjgbfaaGreatLcMa
import Derived.Maps.AppendAt
import Derived.Deep.AppendLies
import Derived.OwnWalk
import Derived.Test.YtaljddoenjgbfaaGreatLcMe
import Derived.BigQuiet
import Derived.Deep.CutRange
namespace Go.Proofs.YtaljddoenjgbfaaGreat
open Go.ChangeShapes Go.WideShapes Go.ChangeAt Go.RowKit Lc

set_option maxRecDepth 100000 in
theorem run_append_row (P : Program) (w : World) (base : Nat) (t ty e : TypeId) (i : TypeInfo) (z : Value) (size bytes : Nat) (ht : P.underlying t = some (.slice e)) (hi : P.info? e = some i) (hz : i.zero = some z)
    (hsize : i.size = size) (hby : i.bytes = bytes) (hzs : z.cells.size = size) (hsz : 0 < size)
    (v : Value) (n : Nat) (xs : List Value) (hown : w.ownsRow base e size v n xs)
    (A : Option Addr) (m c : Nat) (news : List Value) (hl : news.length = m * size) (hr : Rc w A news) (h1 : ∀ u ∈ news, u.oneCell' = true)
    (h63 : n + m ≤ maxLen) (hbytes : (n + m) * bytes ≤ 140737488355328) (hbase : base ≤ w.heap.size) :
    ∃ v' w', (Builtin.append_ #[t, t] ty #[v, .slice A m c]).run P w = .ok v' w' ∧ w'.ownsRow base e size v' (n + m) (xs ++ news) ∧ w.grownBy w' v.ownBlock ∧ (v'.ownBlock = v.ownBlock ∨ v'.ownBlock = some w.heap.size) := by
  rcases A with _ | p
  · have hm : news = [] := by
      rcases Nat.eq_zero_or_pos news.length with h0 | h0
      · exact List.eq_nil_of_length_eq_zero h0
      · obtain ⟨b, o, e, _⟩ := hr h0; cases e
    subst hm
    have m0 : m = 0 := by
      rcases Nat.eq_zero_or_pos m with h | h
      · exact h
      · have := Nat.mul_pos h hsz; simp at hl; omega
    subst m0
    refine ⟨v, w, ?_, by simpa using hown, World.grownBy.refl w _, .inl rfl⟩
    rcases hown.2 with ⟨rfl, h0⟩ | ⟨g, cap, cur, rfl, _, _, hnc, _⟩
    · simp [Builtin.append_, run_underlying ht, sizeOf, typeInfo, hi, Builtin.lenOf, Builtin.firstCells]
    · simp [Builtin.append_, run_underlying ht, sizeOf, typeInfo, hi, Builtin.lenOf, Builtin.firstCells, hnc, storeCells]
  · have hnews : ∀ j u, news[j]? = some u → w.cell? (p.add j) = some u := fun j u hj => by
      have hp : 0 < news.length := by
        rcases Nat.eq_zero_or_pos news.length with h0 | h0
        · rw [List.eq_nil_of_length_eq_zero h0] at hj; cases hj
        · exact h0
      obtain ⟨b, o, e, hc⟩ := hr hp
      injection e with e
      subst e
      have ea : (⟨b, o, none⟩ : Addr).add j = ⟨b, o + j, none⟩ := by unfold Addr.add; split <;> simp_all
      rw [ea]; exact hc j u hj
    obtain ⟨v', w', hrun, h2, h3, _, h5⟩ := run_append_own_at (P := P) w base t ty e i z size bytes ht hi hz hsize hby hzs hsz v n xs hown p m c news hl hnews h1 h63 hbytes hbase
    exact ⟨v', w', hrun, h2, h3, h5⟩
set_option maxRecDepth 100000 in
theorem wpList_append_knd (w : World) {ops : Array Oper} {rest : List Oper} {o : Oper} {a : Act} {Q : Exit → Act → World → Prop} (hgd : o.guard = none) (s x : Operand)
    (ho : o.op = .call { callee := .builtin .append, args := #[s, x], argTypes := #[22, 22] })
    (base : Nat) (v : Value) (l : List Knd) (hs : a.eval s = v) (h : w.ownsRow base 51 3 v l.length (kc l)) (A : Option Addr) (m : List Knd) (n c : Nat) (hx : a.eval x = .slice A n c) (hn : m.length = n) (hr : Rc w A (kc m))
    (hsz : l.length + m.length ≤ 1000000) (hb : base ≤ w.heap.size)
    (k : ∀ v' w', w'.ownsRow base 51 3 v' (l ++ m).length (kc (l ++ m)) → w.grownBy w' v.ownBlock → (v'.ownBlock = v.ownBlock ∨ v'.ownBlock = some w.heap.size) → wpList Tryz.prog ops Q rest (a.put o.dst v') w') : wpList Tryz.prog ops Q (o :: rest) a w := by
  refine wpList_plain hgd fun K hK => ?_
  subst hn
  obtain ⟨i0, hi, hz0, hz1, hz2⟩ := info_parts kndInfo
  obtain ⟨v', w', hrun, h2, h3, h4⟩ := run_append_row Tryz.prog w base 22 o.type 51 i0 _ 3 32 Tryz.underlying22 hi hz0 hz1 hz2 rfl (by decide) v l.length (kc l) h A m.length c (kc m) (kc_len _) hr (one_kc _) (by unfold maxLen; omega) (by omega) hb
  unfold Oper.wp execOp
  simp only [ho, resolve, invoke, builtin, Sem.run_bind, Sem.run_pure, Result.andThen_ok, List.map_toArray, List.map_cons, List.map_nil, hs, hx, hrun]
  exact hK _ _ (k v' w' (by rw [kc_append, List.length_append]; exact h2) h3 h4)
set_option maxRecDepth 100000 in
theorem wpList_append_jmp (w : World) {ops : Array Oper} {rest : List Oper} {o : Oper} {a : Act} {Q : Exit → Act → World → Prop} (hgd : o.guard = none) (s x : Operand)
    (ho : o.op = .call { callee := .builtin .append, args := #[s, x], argTypes := #[23, 23] })
    (base : Nat) (v : Value) (l : List Jmp) (hs : a.eval s = v) (h : w.ownsRow base 70 2 v l.length (jc l)) (A : Option Addr) (m : List Jmp) (n c : Nat) (hx : a.eval x = .slice A n c) (hn : m.length = n) (hr : Rc w A (jc m))
    (hsz : l.length + m.length ≤ 1000000) (hb : base ≤ w.heap.size)
    (k : ∀ v' w', w'.ownsRow base 70 2 v' (l ++ m).length (jc (l ++ m)) → w.grownBy w' v.ownBlock → (v'.ownBlock = v.ownBlock ∨ v'.ownBlock = some w.heap.size) → wpList Tryz.prog ops Q rest (a.put o.dst v') w') : wpList Tryz.prog ops Q (o :: rest) a w := by
  refine wpList_plain hgd fun K hK => ?_
  subst hn
  obtain ⟨i0, hi, hz0, hz1, hz2⟩ := info_parts jmpInfo
  obtain ⟨v', w', hrun, h2, h3, h4⟩ := run_append_row Tryz.prog w base 23 o.type 70 i0 _ 2 16 Tryz.underlying23 hi hz0 hz1 hz2 rfl (by decide) v l.length (jc l) h A m.length c (jc m) (jc_len _) hr (one_jc _) (by unfold maxLen; omega) (by omega) hb
  unfold Oper.wp execOp
  simp only [ho, resolve, invoke, builtin, Sem.run_bind, Sem.run_pure, Result.andThen_ok, List.map_toArray, List.map_cons, List.map_nil, hs, hx, hrun]
  exact hK _ _ (k v' w' (by rw [jc_append, List.length_append]; exact h2) h3 h4)
set_option maxRecDepth 100000 in
theorem wpList_append_lep (w : World) {ops : Array Oper} {rest : List Oper} {o : Oper} {a : Act} {Q : Exit → Act → World → Prop} (hgd : o.guard = none) (s x : Operand)
    (ho : o.op = .call { callee := .builtin .append, args := #[s, x], argTypes := #[24, 24] })
    (base : Nat) (v : Value) (l : List Lep) (hs : a.eval s = v) (h : w.ownsRow base 73 2 v l.length (lc l)) (A : Option Addr) (m : List Lep) (n c : Nat) (hx : a.eval x = .slice A n c) (hn : m.length = n) (hr : Rc w A (lc m))
    (hsz : l.length + m.length ≤ 1000000) (hb : base ≤ w.heap.size)
    (k : ∀ v' w', w'.ownsRow base 73 2 v' (l ++ m).length (lc (l ++ m)) → w.grownBy w' v.ownBlock → (v'.ownBlock = v.ownBlock ∨ v'.ownBlock = some w.heap.size) → wpList Tryz.prog ops Q rest (a.put o.dst v') w') : wpList Tryz.prog ops Q (o :: rest) a w := by
  refine wpList_plain hgd fun K hK => ?_
  subst hn
  obtain ⟨i0, hi, hz0, hz1, hz2⟩ := info_parts lepInfo
  obtain ⟨v', w', hrun, h2, h3, h4⟩ := run_append_row Tryz.prog w base 24 o.type 73 i0 _ 2 16 Tryz.underlying24 hi hz0 hz1 hz2 rfl (by decide) v l.length (lc l) h A m.length c (lc m) (lc_len _) hr (one_lc _) (by unfold maxLen; omega) (by omega) hb
  unfold Oper.wp execOp
  simp only [ho, resolve, invoke, builtin, Sem.run_bind, Sem.run_pure, Result.andThen_ok, List.map_toArray, List.map_cons, List.map_nil, hs, hx, hrun]
  exact hK _ _ (k v' w' (by rw [lc_append, List.length_append]; exact h2) h3 h4)
set_option maxRecDepth 100000 in
theorem wpList_append_bol (w : World) {ops : Array Oper} {rest : List Oper} {o : Oper} {a : Act} {Q : Exit → Act → World → Prop} (hgd : o.guard = none) (s x : Operand)
    (ho : o.op = .call { callee := .builtin .append, args := #[s, x], argTypes := #[25, 25] })
    (base : Nat) (v : Value) (l : List Bool) (hs : a.eval s = v) (h : w.ownsRow base 4 1 v l.length (oc l)) (A : Option Addr) (m : List Bool) (n c : Nat) (hx : a.eval x = .slice A n c) (hn : m.length = n) (hr : Rc w A (oc m))
    (hsz : l.length + m.length ≤ 1000000) (hb : base ≤ w.heap.size)
    (k : ∀ v' w', w'.ownsRow base 4 1 v' (l ++ m).length (oc (l ++ m)) → w.grownBy w' v.ownBlock → (v'.ownBlock = v.ownBlock ∨ v'.ownBlock = some w.heap.size) → wpList Tryz.prog ops Q rest (a.put o.dst v') w') : wpList Tryz.prog ops Q (o :: rest) a w := by
  refine wpList_plain hgd fun K hK => ?_
  subst hn
  obtain ⟨i0, hi, hz0, hz1, hz2⟩ := info_parts bolInfo
  obtain ⟨v', w', hrun, h2, h3, h4⟩ := run_append_row Tryz.prog w base 25 o.type 4 i0 _ 1 1 Tryz.underlying25 hi hz0 hz1 hz2 rfl (by decide) v l.length (oc l) h A m.length c (oc m) (by rw [oc_len, Nat.mul_one]) hr (one_oc _) (by unfold maxLen; omega) (by omega) hb
  unfold Oper.wp execOp
  simp only [ho, resolve, invoke, builtin, Sem.run_bind, Sem.run_pure, Result.andThen_ok, List.map_toArray, List.map_cons, List.map_nil, hs, hx, hrun]
  exact hK _ _ (k v' w' (by rw [oc_append, List.length_append]; exact h2) h3 h4)
set_option maxRecDepth 100000 in
theorem row_two {w : World} {base base' : Nat} {e e' : TypeId} {size size' : Nat} {v v' : Value} {n n' : Nat} {xs xs' : List Value} (h : w.ownsRow base e size v n xs) (h' : w.ownsRow base' e' size' v' n' xs') (hne : e ≠ e') : v.ownBlock = none ∨ v.ownBlock ≠ v'.ownBlock := by
  rcases h.2 with ⟨rfl, _⟩ | ⟨g, cap, cur, rfl, _, hh, _⟩
  · exact .inl rfl
  · refine .inr fun c => ?_
    exact row_ty h' hh hne (by rw [← c]; rfl)
set_option maxRecDepth 100000 in
/-- One jump more. -/
theorem OwB.jumps {w w' : World} {base : Nat} {a b c d e b' : Value} {x : Blk} (h : OwB w base (.agg #[a, b, c, d, e]) x) {m : List Jmp} (ho : w'.ownsRow base 70 2 b' (x.js ++ m).length (jc (x.js ++ m))) (hg : w.grownBy w' b.ownBlock) : OwB w' base (.agg #[a, b', c, d, e]) ⟨x.ks, x.js ++ m, x.ls, x.sd, x.ut⟩ := by
  obtain ⟨_, _, _, _, _, he, h1, h2, h3, h4, h5⟩ := h
  simp only [Value.agg.injEq, Array.mk.injEq, List.cons.injEq, and_true] at he
  obtain ⟨rfl, rfl, rfl, rfl, rfl⟩ := he
  exact ⟨_, _, _, _, _, rfl, World.ownsRow.kept h1 hg (row_two h1 h2 (by decide)), ho, World.ownsRow.kept h3 hg (row_two h3 h2 (by decide)), World.ownsRow.kept h4 hg (row_two h4 h2 (by decide)), World.ownsRow.kept h5 hg (row_two h5 h2 (by decide))⟩
set_option maxRecDepth 100000 in
theorem heap_grown {w w' : World} {row : Option Nat} (hg : w.grownBy w' row) {b : Nat} {o : Obj} (h : w.heap[b]? = some o) (hne : row ≠ some b) : w'.heap[b]? = some o := by
  have lt : b < w.heap.size := by
    rcases Nat.lt_or_ge b w.heap.size with g | g
    · exact g
    · rw [Array.getElem?_eq_none g] at h; cases h
  rw [hg.block b lt (fun c => hne c.symm)]; exact h
set_option maxRecDepth 100000 in
theorem OwB.jb {w : World} {base : Nat} {a b c d e : Value} {x : Blk} (h : OwB w base (.agg #[a, b, c, d, e]) x) : w.ownsRow base 70 2 b x.js.length (jc x.js) := by
  obtain ⟨_, _, _, _, _, he, h1, h2, h3, h4, h5⟩ := h
  simp only [Value.agg.injEq, Array.mk.injEq, List.cons.injEq, and_true] at he
  obtain ⟨rfl, rfl, rfl, rfl, rfl⟩ := he
  exact h2
end Go.Proofs.YtaljddoenjgbfaaGreat
/-
  A slice that reads as ints; rows of ints that a call makes.
-/
namespace Go.Proofs.YtaljddoenjgbfaaGreat
open Go.ChangeShapes Go.WideShapes Go.ChangeAt Go.RowKit Lc

/-- Ints, as cells. -/
def ic (l : List Int) : List Value := l.map fun x => Value.int .i64 x
set_option maxRecDepth 100000 in
theorem ic_len (l : List Int) : (ic l).length = l.length := by simp [ic]
set_option maxRecDepth 100000 in
theorem ic_append (l m : List Int) : ic (l ++ m) = ic l ++ ic m := by simp [ic]
set_option maxRecDepth 100000 in
theorem ic_get {l : List Int} {i : Nat} (h : i < l.length) : (ic l)[i]? = some (.int .i64 (l.getD i 0)) := by simp [ic, h]
set_option maxRecDepth 100000 in
theorem ic_one {l : List Int} : ∀ u ∈ ic l, u.oneCell' = true := by
  intro u hu; obtain ⟨x, _, rfl⟩ := List.mem_map.1 hu; rfl

/-- The value v is a row of the ints l that the call made. -/
def Oi (w : World) (base : Nat) (v : Value) (l : List Int) : Prop := w.ownsRow base 3 1 v l.length (ic l)
set_option maxRecDepth 100000 in
theorem Oi.up {w w' : World} {base : Nat} {v : Value} {l : List Int} (h : Oi w base v l) (u : Up w w') : Oi w' base v l :=
  World.ownsRow.kept (row := none) h ⟨u.os, u.tape, u.output, u.size, fun k hk _ => u.block k hk⟩ (by
    rcases hb : v.ownBlock with _ | k
    · exact .inl rfl
    · exact .inr (by simp))
set_option maxRecDepth 100000 in
theorem Oi.empty (w : World) (base : Nat) (h : base ≤ w.heap.size) : Oi (w.alloc (.cells #[] 3)) base (.slice (some ⟨w.heap.size, 0, none⟩) 0 0) [] := World.ownsRow_made w #[] 0 h (Nat.zero_le _) rfl
set_option maxRecDepth 100000 in
theorem Oi.block {w : World} {base : Nat} {v : Value} {l : List Int} (h : Oi w base v l) : ∀ k, v.ownBlock = some k → base ≤ k := fun k hk => (World.ownsRow.lt h k hk).1
set_option maxRecDepth 100000 in
/-- A row that is not empty: where it lies, and what it holds. -/
theorem Oi.form {w : World} {base : Nat} {v : Value} {l : List Int} (h : Oi w base v l) (h0 : 0 < l.length) : ∃ g c, v = .slice (some ⟨g, 0, none⟩) l.length c ∧ base ≤ g ∧ g < w.heap.size ∧ l.length ≤ c ∧ c ≤ maxLen ∧ ∀ i, i < l.length → w.cell? ⟨g, i, none⟩ = some (.int .i64 (l.getD i 0)) := by
  rcases h.2 with ⟨rfl, hn⟩ | ⟨g, cap, cur, rfl, hb, hh, h1, h2, _⟩
  · omega
  · refine ⟨g, cap, rfl, hb, (World.ownsRow.lt h g rfl).2, h1, h2, fun i hi => ?_⟩
    have := h.cells (g := g) rfl i _ (ic_get hi)
    have ea : (⟨g, 0, none⟩ : Addr).add i = ⟨g, 0 + i, none⟩ := by unfold Addr.add; split <;> simp_all
    rw [ea, Nat.zero_add] at this; exact this

set_option maxRecDepth 100000 in
theorem intInfo : (Tryz.prog.info? 3).map (fun i => (i.zero, i.size, i.bytes)) = some (some (.int .i64 0), 1, 8) := by kernel_rfl
set_option maxRecDepth 100000 in
/-- 'append(v, x)' of one int. -/
theorem wpList_append_int (w : World) {ops : Array Oper} {rest : List Oper} {o : Oper} {a : Act} {Q : Exit → Act → World → Prop} (hgd : o.guard = none) (s x : Operand)
    (ho : o.op = .call { callee := .builtin .append, args := #[s, x], argTypes := #[66, 66] })
    (base : Nat) (v : Value) (l : List Int) (hs : a.eval s = v) (h : Oi w base v l) (b : Nat) (n : Int) (hx : a.eval x = .slice (some ⟨b, 0, none⟩) 1 1) (hr : w.cell? ⟨b, 0, none⟩ = some (.int .i64 n))
    (hsz : l.length ≤ 1000000) (hb : base ≤ w.heap.size)
    (k : ∀ v' w', Oi w' base v' (l ++ [n]) → w.grownBy w' v.ownBlock → wpList Tryz.prog ops Q rest (a.put o.dst v') w') : wpList Tryz.prog ops Q (o :: rest) a w := by
  refine wpList_plain hgd fun K hK => ?_
  obtain ⟨i0, hi, hz0, hz1, hz2⟩ := info_parts intInfo
  obtain ⟨v', w', hrun, h2, h3, _, _⟩ := run_append_own_at (P := Tryz.prog) w base 66 o.type 3 i0 (.int .i64 0) 1 8 Tryz.underlying66 hi hz0 hz1 hz2 rfl (by decide) v l.length (ic l) h ⟨b, 0, none⟩ 1 1 [.int .i64 n] rfl (fun j u hj => by
    have : j = 0 := by have := (List.getElem?_eq_some_iff.1 hj).1; simp at this; exact this
    subst this
    have ea : (⟨b, 0, none⟩ : Addr).add 0 = ⟨b, 0, none⟩ := by unfold Addr.add; split <;> simp_all
    rw [ea, hr]; simpa using hj) (by intro u hu; simp at hu; subst hu; rfl) (by unfold maxLen; omega) (by omega) hb
  unfold Oper.wp execOp
  simp only [ho, resolve, invoke, builtin, Sem.run_bind, Sem.run_pure, Result.andThen_ok, List.map_toArray, List.map_cons, List.map_nil, hs, hx, hrun]
  refine hK _ _ (k v' w' ?_ h3)
  unfold Oi; rw [ic_append, List.length_append]; exact h2
end Go.Proofs.YtaljddoenjgbfaaGreat
/-
  The document's block: fits, marks, Names.
-/
namespace Go.Proofs.YtaljddoenjgbfaaGreat
open Go.ChangeShapes Go.WideShapes Go.ChangeAt Go.RowKit Lc

set_option maxRecDepth 100000 in
theorem dfits_any (n z : Int) (w : World) : Calls Tryz.prog 28 #[.int .i64 n, .int .i64 z] w fun e w' => e = .returned (.bool (fitZ n z)) ∧ w = w' := by
  have E := Lib.hid (show fitZ n z = (decide (z = 8) || (decide (-2147483648 ≤ n) && decide (n ≤ 2147483647))) from rfl)
  by_cases h8 : z = 8
  · go_enter Tryz.func28, Tryz.ntmps28
    go_wp2
    go_ret
    exact ⟨ret_b (by rw [E.out]; simp [h8]), rfl⟩
  · by_cases h1 : -2147483648 ≤ n
    · go_enter Tryz.func28, Tryz.ntmps28
      go_wp2
      go_ret
      exact ⟨ret_b (by rw [E.out]; simp [h8, h1]), rfl⟩
    · go_enter Tryz.func28, Tryz.ntmps28
      go_wp2
      go_ret
      exact ⟨ret_b (by rw [E.out, Bool.eq_iff_iff]; simp [h8]; omega), rfl⟩
set_option maxRecDepth 100000 in
theorem dmarks_any (A : Option Addr) (n c q : Nat) (w : World) (hn : n ≤ 9223372036854775807) : Calls Tryz.prog 26 #[.slice A n c, .int .i64 q] w fun e w' => e = .returned (.bool (decide (n = 0) || decide (n = q))) ∧ w = w' := by
  by_cases h0 : n = 0
  · subst h0
    go_enter Tryz.func26, Tryz.ntmps26
    go_wp2
    go_ret
    exact ⟨ret_b (by simp), rfl⟩
  · have hi : ¬ (n : Int) = 0 := by omega
    go_enter Tryz.func26, Tryz.ntmps26
    go_wp2
    go_ret
    exact ⟨ret_b (by rw [Bool.eq_iff_iff]; simp [h0]; omega), rfl⟩

/-- The places of the first k names. -/
def plL (ns : List ByteArray) (k : Nat) : List Int := (List.range k).map fun i => (plcN ns (ns.getD i ByteArray.empty) : Int)
set_option maxRecDepth 100000 in
theorem plL_len (ns : List ByteArray) (k : Nat) : (plL ns k).length = k := by simp [plL]
set_option maxRecDepth 100000 in
theorem plL_get {ns : List ByteArray} {k i : Nat} (h : i < k) : (plL ns k).getD i 0 = (plcN ns (ns.getD i ByteArray.empty) : Int) := by simp [plL, List.getD, h]
set_option maxRecDepth 100000 in
theorem plL_succ (ns : List ByteArray) (k : Nat) : plL ns (k + 1) = plL ns k ++ [(plcN ns (ns.getD k ByteArray.empty) : Int)] := by simp [plL, List.range_succ]
set_option maxRecDepth 100000 in
theorem mem_take {ns : List ByteArray} {k : Nat} {s : ByteArray} (hk : k ≤ ns.length) : s ∈ ns.take k ↔ ∃ i, i < k ∧ ns.getD i ByteArray.empty = s := by
  constructor
  · intro h
    obtain ⟨i, hi, e⟩ := List.mem_iff_getElem.1 h
    have hi' : i < k := by rw [List.length_take] at hi; omega
    refine ⟨i, hi', ?_⟩
    rw [← e]
    simp [List.getD, show i < ns.length by omega]
  · rintro ⟨i, hi, rfl⟩
    refine List.mem_iff_getElem.2 ⟨i, by rw [List.length_take]; omega, ?_⟩
    simp [List.getD, show i < ns.length by omega]
/-- The search among the names before: so far. -/
def Sea (ns : List ByteArray) (k j : Nat) (pl : Int) : Prop := (pl = -1 ∧ ∀ i, i < j → ns.getD i ByteArray.empty ≠ ns.getD k ByteArray.empty) ∨ (pl = (plcN ns (ns.getD k ByteArray.empty) : Int) ∧ ∃ i, i < j ∧ ns.getD i ByteArray.empty = ns.getD k ByteArray.empty)

set_option maxRecDepth 100000 in
theorem txt_ne {a b : ByteArray} (h : a ≠ b) : (a.toList == b.toList) = false := by
  rw [beq_eq_false_iff_ne]
  intro e
  rw [ByteArray.toList_eq, ByteArray.toList_eq] at e
  exact h (Go.WideShapes.bytes_inj e)
set_option maxRecDepth 100000 in
set_option maxHeartbeats 4000000 in
theorem dnames_any (A : Option Addr) (ks : List Knd) (c : Nat) (w : World) (h256 : ks.length ≤ 256) (hsz : ∀ i, i < ks.length → (ks.getD i k0).name.size ≤ 255) (ra : Rc w A (kc ks)) :
    Calls Tryz.prog 27 #[.slice A ks.length c] w fun e w' => ∃ v u, e = .returned (.tuple #[v, u]) ∧ Ow w' w.heap.size v (layN (ks.map Knd.name) ks.length) ∧ Oi w' w.heap.size u (plL (ks.map Knd.name) ks.length) ∧ Up w w' := by
  have RA := Lib.hid ra
  have HS := Lib.hid hsz
  clear ra hsz
  obtain ⟨q, hq⟩ : ∃ q, ks.length = q := ⟨_, rfl⟩
  obtain ⟨ns, hns⟩ : ∃ ns, ks.map Knd.name = ns := ⟨_, rfl⟩
  simp only [hq, hns] at h256 ⊢
  have HQ := Lib.hid hq
  have HL : Hid (ns.length = q) := Lib.hid (by rw [← hns, List.length_map, hq])
  have HG : Hid (∀ i, i < q → ns.getD i ByteArray.empty = (ks.getD i k0).name) := Lib.hid (fun i hi => by rw [← hns]; exact getD_name (by omega))
  have HZ : Hid (∀ i, i < q → (ns.getD i ByteArray.empty).size ≤ 255) := Lib.hid (fun i hi => by rw [HG.out i hi]; exact HS.out i (by omega))
  clear hq hns
  go_enter Tryz.func27, Tryz.ntmps27
  go_wp2_with fail
  go_loopw [4, 5, 6] (fun v u i wr => ∃ k : Nat, k ≤ q ∧ i = .int .i64 k ∧ Ow wr w.heap.size v (layN ns k) ∧ Oi wr w.heap.size u (plL ns k) ∧ Up w wr) (fun _ _ i _ => q - (intOf i).toNat)
  case atStart => exact ⟨0, Nat.zero_le _, rfl, (Ow.empty w _ (Nat.le_refl _)).up (Up.alloc _ _), (show Oi _ _ _ [] from by have := Oi.empty (w.alloc (.cells #[] 5)) w.heap.size (by simp); simpa using this), (Up.alloc _ _).alloc' _⟩
  case round =>
    obtain ⟨k, hk, rfl, ho, hp, hu⟩ := hrel
    have HO := Lib.hid ho
    have HP := Lib.hid hp
    have HU := Lib.hid hu
    clear ho hp hu
    by_cases hlt : k < q
    · go_wp2_with fail
      go_loopw [7, 8] (fun p j wi => ∃ (jj : Nat) (pl : Int), jj ≤ k ∧ j = .int .i64 jj ∧ p = .int .i64 pl ∧ Sea ns k jj pl ∧ Up wr wi) (fun _ j _ => k - (intOf j).toNat)
      case atStart => exact ⟨0, -1, Nat.zero_le _, rfl, rfl, .inl ⟨rfl, fun i hi => absurd hi (Nat.not_lt_zero i)⟩, Up.refl _⟩
      case round =>
        obtain ⟨jj, pl, hj, rfl, rfl, hs, hui⟩ := hrel
        have HS2 := Lib.hid hs
        have HI := Lib.hid (HU.out.trans hui)
        have HO2 := Lib.hid (HO.out.up hui)
        have HP2 := Lib.hid (HP.out.up hui)
        have HJ := Lib.hid hui
        clear hs hui
        obtain ⟨b, o, rfl, c1, c2, c3⟩ := (RA.out.up HI.out).knd (i := k) (by rw [HQ.out]; exact hlt)
        obtain ⟨kn, e3⟩ : ∃ x, Hid ((ks.getD k k0).name = x) := ⟨_, rfl⟩
        rw [e3.out] at c3
        have hkn : kn.size ≤ 255 := by have := HS.out k (by rw [HQ.out]; exact hlt); rw [e3.out] at this; exact this
        have EN : Hid (ns.getD k ByteArray.empty = kn) := Lib.hid (by rw [HG.out k hlt, e3.out])
        have LL := layN_le ns k 255 (fun i hi => HZ.out i (by omega))
        have LL2 : (layN ns k).length ≤ 65536 := by omega
        clear LL c1 c2
        by_cases fin : jj = k ∨ 0 ≤ pl
        · have i3 : (k : Int) < (q : Int) := by omega
          have hkl : k ≤ ns.length := by rw [HL.out]; exact hk
          rcases HS2.out with ⟨rfl, hno⟩ | ⟨hpl, hyes⟩
          · have jk : jj = k := by omega
            subst jk
            have hm : ¬ ns.getD jj ByteArray.empty ∈ ns.take jj := fun h => by
              obtain ⟨i, hi, e⟩ := (mem_take hkl).1 h
              exact hno i hi e
            have HO' : Hid (layN ns (jj + 1) = layN ns jj ++ (tx kn ++ [0])) := Lib.hid (by rw [layN_new hm, EN.out])
            have HP' : Hid (plL ns (jj + 1) = plL ns jj ++ [((layN ns jj).length : Int)]) := Lib.hid (by
              rw [plL_succ]
              unfold plcN
              rw [idx_new (by rw [HL.out]; exact hlt) hm])
            clear fin hno hm HS2
            obtain ⟨A', c', rfl, q1, q2, _, _⟩ := HO2.out.form
            obtain ⟨L, hL⟩ : ∃ L, layN ns jj = L := ⟨_, rfl⟩
            rw [hL] at HO2 HO' HP' LL2 q1 ⊢
            have HLL := Lib.hid hL
            clear hL
            have c3' := Lib.hid c3
            go_wp2_with (at_builtin; refine wpList_append_str _ rfl _ _ rfl w.heap.size _ L rfl HO2.out kn rfl ?e1 ?e2 ?_)
            case e1 => omega
            case e2 => exact HI.out.size
            intro v2 w2 ho2 hg2
            have U2 : Hid (Up w w2) := Lib.hid (HI.out.grown hg2 HO2.out.block)
            have P2 : Hid (Oi w2 w.heap.size u5 (plL ns jj)) := Lib.hid (World.ownsRow.kept HP2.out hg2 (row_two HP2.out HO2.out (by decide)))
            have HO3 := Lib.hid ho2
            have sz2 : w.heap.size ≤ w2.heap.size := U2.out.size
            clear ho2 hg2 HP2 HO2
            go_wp2_with (at_builtin; refine wpList_append_bytes _ rfl _ _ rfl w.heap.size _ (L ++ tx kn) rfl (HO3.out.up (Up.alloc _ _)) (some ⟨w2.heap.size, 0, none⟩) [0] 1 1 rfl rfl (Rd.one _ _ _ _ ?e1) ?e2 ?e3 ?_)
            case e1 => rfl
            case e2 =>
              have : (tx kn).length = kn.size := rfl
              simp only [List.length_append, List.length_cons, List.length_nil]; omega
            case e3 => simp; omega
            intro v3 w3 ho3 hg3 _
            have U3 : Hid (Up w w3) := Lib.hid ((U2.out.alloc' _).grown hg3 HO3.out.block)
            have P3 : Hid (Oi w3 w.heap.size u5 (plL ns jj)) := Lib.hid (World.ownsRow.kept (P2.out.up (Up.alloc w2 _)) hg3 (row_two (P2.out.up (Up.alloc w2 (.cells #[.int .u8 0] 5))) (HO3.out.up (Up.alloc w2 _)) (by decide)))
            have B3 : Hid (Ow w3 w.heap.size v3 (layN ns (jj + 1))) := Lib.hid (by rw [HO'.out]; exact ho3)
            clear ho3 hg3 P2 HO3 U2 sz2
            have HP3 := Lib.hid (P3.out.up (Up.alloc w3 (.cells #[.int .i64 (L.length : Int)] 3)))
            go_wp2_with (at_builtin; refine wpList_append_int _ rfl _ _ rfl w.heap.size _ (plL ns jj) rfl HP3.out w3.heap.size (L.length : Int) rfl (by simp) (by rw [plL_len]; omega) (by have := U3.out.size; simp; omega) ?_)
            intro v5 w5 ho5 hg5
            have O5 : Hid (Oi w5 w.heap.size v5 (plL ns (jj + 1))) := by rw [HP'.out]; exact ho5
            have B5 : Hid (Ow w5 w.heap.size v3 (layN ns (jj + 1))) := Lib.hid (World.ownsRow.kept (B3.out.up (Up.alloc w3 _)) hg5 (row_two (B3.out.up (Up.alloc w3 (.cells #[.int .i64 (L.length : Int)] 3))) HP3.out (by decide)))
            have U5 := Lib.hid (Up.grown (U3.out.alloc' (.cells #[.int .i64 (L.length : Int)] 3)) hg5 HP3.out.block)
            clear ho5 hg5 HP3 P3 B3
            go_wp2_with fail
            go_roundw
            case rel => exact ⟨jj + 1, by omega, by go_num, B5.out, O5.out, U5.out⟩
            case measure => simp [intOf]; omega
          · have hm : ns.getD k ByteArray.empty ∈ ns.take k := (mem_take hkl).2 (by obtain ⟨i, hi, e⟩ := hyes; exact ⟨i, by omega, e⟩)
            have HO' : Hid (layN ns (k + 1) = layN ns k) := Lib.hid (layN_old hm)
            have HP' : Hid (plL ns (k + 1) = plL ns k ++ [pl]) := Lib.hid (by rw [plL_succ, hpl])
            have pl0 : 0 ≤ pl := by omega
            clear fin hyes hm HS2 hpl
            by_cases jk : (jj : Int) < (k : Int)
            all_goals
              have HP3 := Lib.hid (HP2.out.up (Up.alloc wr (.cells #[.int .i64 pl] 3)))
              go_wp2_with (at_builtin; refine wpList_append_int _ rfl _ _ rfl w.heap.size _ (plL ns k) rfl HP3.out wr.heap.size pl rfl (by simp) (by rw [plL_len]; omega) (by have := HI.out.size; simp; omega) ?_)
              intro v5 w5 ho5 hg5
              have O5 : Hid (Oi w5 w.heap.size v5 (plL ns (k + 1))) := by rw [HP'.out]; exact ho5
              have B5 : Hid (Ow w5 w.heap.size u4 (layN ns (k + 1))) := by
                rw [HO'.out]
                exact World.ownsRow.kept (HO2.out.up (Up.alloc wr _)) hg5 (row_two (HO2.out.up (Up.alloc wr (.cells #[.int .i64 pl] 3))) HP3.out (by decide))
              have U5 := Lib.hid (Up.grown (HI.out.alloc' (.cells #[.int .i64 pl] 3)) hg5 HP3.out.block)
              clear ho5 hg5 HP3 HP2 HO2 HO' HP'
              go_wp2_with fail
              go_roundw
              case rel => exact ⟨k + 1, by omega, by go_num, B5.out, O5.out, U5.out⟩
              case measure => simp [intOf]; omega
        · have pl1 : pl = -1 := by
            rcases HS2.out with ⟨h, _⟩ | ⟨h, _⟩
            · exact h
            · omega
          subst pl1
          have jk : jj < k := by omega
          have no := Lib.hid (show ∀ i, i < jj → ns.getD i ByteArray.empty ≠ ns.getD k ByteArray.empty from by
            rcases HS2.out with ⟨_, h⟩ | ⟨h, _⟩
            · exact h
            · omega)
          obtain ⟨b2, o2, eA, d1, d2, d3⟩ := (RA.out.up HI.out).knd (i := jj) (by rw [HQ.out]; omega)
          injection eA with eA
          injection eA with eA1 eA2
          subst eA1 eA2
          obtain ⟨jn, e4⟩ : ∃ x, Hid ((ks.getD jj k0).name = x) := ⟨_, rfl⟩
          rw [e4.out] at d3
          have EJ : Hid (ns.getD jj ByteArray.empty = jn) := Lib.hid (by rw [HG.out jj (by omega), e4.out])
          clear d1 d2 fin
          have i1 : (jj : Int) < (k : Int) := by omega
          have i2 : (jj : Int) < (q : Int) := by omega
          have i3 : (k : Int) < (q : Int) := by omega
          by_cases en : jn = kn
          · subst en
            obtain ⟨g, cu, rfl, _, _, hc1, hc2, hc3⟩ := HP2.out.form (by rw [plL_len]; omega)
            rw [plL_len] at hc1 hc3 ⊢
            have hc := hc3 jj jk
            rw [plL_get jk, EJ.out] at hc
            obtain ⟨pv, epv⟩ : ∃ x, Hid ((plcN ns jn : Int) = x) := ⟨_, rfl⟩
            rw [epv.out] at hc
            clear hc3 HP2 HO2
            unfold maxLen at hc2
            go_wp2_with fail
            go_quiet (fail)
            go_wp2_with fail
            go_roundw
            case rel => exact ⟨jj + 1, pv, by omega, by go_num, rfl, .inr ⟨by rw [EN.out, epv.out], jj, by omega, by rw [EJ.out, EN.out]⟩, HJ.out.drewN' _⟩
            case measure => simp [intOf]; omega
          · have hne : (jn.toList == kn.toList) = false := txt_ne en
            clear HP2 HO2
            go_wp2_with fail
            go_quiet (fail)
            go_wp2_with fail
            go_roundw
            case rel => exact ⟨jj + 1, -1, by omega, by go_num, rfl, .inl ⟨rfl, fun i hi => by
              rcases Nat.lt_or_ge i jj with h | h
              · exact no.out i h
              · have : i = jj := by omega
                rw [this, EJ.out, EN.out]; exact en⟩, HJ.out.drewN' _⟩
            case measure => simp [intOf]; omega
    · have hkq : k = q := by omega
      subst hkq
      go_wp2_with fail
      go_ret2
      exact ⟨_, _, rfl, HO.out, HP.out, HU.out⟩
end Go.Proofs.YtaljddoenjgbfaaGreat
