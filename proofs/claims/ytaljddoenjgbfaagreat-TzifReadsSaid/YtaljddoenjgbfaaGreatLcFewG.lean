/-
  A block of one's own, cut: what few's of all layers have in common (cut out of XLcFewA, XLcFewB, XLcFew in round 7).
-/
import Derived.Test.YtaljddoenjgbfaaGreatLcMz
import Derived.Test.YtaljddoenjgbfaaGreatLcMm
import Derived.StillTailTactics
import Derived.Laws.OwnMore
namespace Go.Proofs.YtaljddoenjgbfaaGreat
open Go.ChangeShapes Go.WideShapes Go.ChangeAt Go.RowKit Lc
set_option maxRecDepth 100000 in
theorem tg {a : Act} {t : Tmp} {v : Value} (h : a.tmps.getD t undef = v) : a.tmps[t]?.getD undef = v := by rw [← Array.getD_eq_getD_getElem?]; exact h
section
variable (w : World) (a : Act) (o : Oper)
set_option maxRecDepth 100000 in
theorem append_new (P : Program) (base : Nat) (t ty e : TypeId) (i : TypeInfo) (z : Value) (size bytes : Nat) (ht : P.underlying t = some (.slice e)) (hi : P.info? e = some i) (hz : i.zero = some z)
    (hsize : i.size = size) (hby : i.bytes = bytes) (hzs : z.cells.size = size) (hsz : 0 < size)
    (g : Nat) (hown : w.ownsRow base e size (.slice (some ⟨g, 0, none⟩) 0 0) 0 [])
    (A : Option Addr) (m c : Nat) (news : List Value) (hl : news.length = m * size) (hr : Rc w A news) (h1 : ∀ u ∈ news, u.oneCell' = true)
    (h63 : m ≤ maxLen) (hbytes : m * bytes ≤ 140737488355328) (hbase : base ≤ w.heap.size) :
    ∃ v' w', (Builtin.append_ #[t, t] ty #[.slice (some ⟨g, 0, none⟩) 0 0, .slice A m c]).run P w = .ok v' w' ∧ w'.ownsRow base e size v' m news ∧ Up w w' := by
  by_cases hm : m = 0
  · subst hm
    have hn : news = [] := List.eq_nil_of_length_eq_zero (by simpa using hl)
    subst hn
    refine ⟨_, w, ?_, hown, Up.refl w⟩
    cases A <;> simp [Builtin.append_, run_underlying ht, sizeOf, typeInfo, hi, Builtin.lenOf, Builtin.firstCells, loadCells, loadCellsFrom, storeCells]
  · have hp : 0 < news.length := by rw [hl]; exact Nat.mul_pos (by omega) hsz
    obtain ⟨b, off, rfl, hc⟩ := hr hp
    have hnews : ∀ j u, news[j]? = some u → w.cell? ((⟨b, off, none⟩ : Addr).add j) = some u := fun j u hj => by
      have ea : (⟨b, off, none⟩ : Addr).add j = ⟨b, off + j, none⟩ := by unfold Addr.add; split <;> simp_all
      rw [ea]; exact hc j u hj
    obtain ⟨v', w', hrun, h2, _, _, _⟩ := run_append_own_at (P := P) w base t ty e i z size bytes ht hi hz hsize hby hzs hsz _ 0 [] hown ⟨b, off, none⟩ m c news hl hnews h1 (by omega) (by rw [Nat.zero_add]; exact hbytes) hbase
    refine ⟨v', w', hrun, ?_, ?_⟩
    · rw [Nat.zero_add, List.nil_append] at h2; exact h2
    · subst hsize hby
      have hr2 := run_append_grow (P := P) w t ty e i z ht hi hz ⟨g, 0, none⟩ 0 0 [] (by simp) (by simp) ⟨b, off, none⟩ m c news hl hnews (by omega) (by unfold maxLen at h63; omega) (growslice_fits (by omega) (by rw [Nat.zero_add]; exact hbytes))
      rw [hrun] at hr2
      injection hr2 with _ hw
      subst hw
      exact Up.alloc' (Up.drewN w 1) _
set_option maxRecDepth 100000 in
theorem ex_min (t : Tmp) (n : Nat) (m : Int) (h : a.tmps.getD t undef = .int .i64 n) (ho : o.op = .call { callee := .builtin .min, args := #[.tmp t, .const (.int .i64 m)], argTypes := #[3, 3] }) (ht : o.type = 3) : (execOp a.eval o).run Tryz.prog w = .ok (.value (.int .i64 (min (n : Int) m))) w := by
  unfold execOp; rw [ho]; simp [go_sem, tg h, ht]
set_option maxRecDepth 100000 in
theorem ex_bld (t0 t1 t2 t3 t4 : Tmp) (A0 A1 A2 A3 A4 : Option Addr) (n0 n1 n2 n3 n4 c0 c1 c2 c3 c4 : Nat) (h0 : a.tmps.getD t0 undef = .slice A0 n0 c0) (h1 : a.tmps.getD t1 undef = .slice A1 n1 c1) (h2 : a.tmps.getD t2 undef = .slice A2 n2 c2) (h3 : a.tmps.getD t3 undef = .slice A3 n3 c3) (h4 : a.tmps.getD t4 undef = .slice A4 n4 c4) (ho : o.op = .build 27 #[(0, .tmp t0), (1, .tmp t1), (2, .tmp t2), (3, .tmp t3), (4, .tmp t4)]) : (execOp a.eval o).run Tryz.prog w = .ok (.value (.agg #[.slice A0 n0 c0, .slice A1 n1 c1, .slice A2 n2 c2, .slice A3 n3 c3, .slice A4 n4 c4])) w := by
  unfold execOp; rw [ho]; simp [go_sem, tg h0, tg h1, tg h2, tg h3, tg h4]
set_option maxRecDepth 100000 in
theorem ex_box (ho : o.op = .alloc 27) : (execOp a.eval o).run Tryz.prog w = .ok (.value (.pointer (some ⟨w.heap.size, 0, none⟩))) (w.alloc (.cells #[.slice none 0 0, .slice none 0 0, .slice none 0 0, .slice none 0 0, .slice none 0 0] 27)) := by
  unfold execOp; rw [ho]; simp [go_sem]
set_option maxRecDepth 100000 in
theorem ex_fld (t : Tmp) (B : Nat) (h : a.tmps.getD t undef = .pointer (some ⟨B, 0, none⟩)) (k : Nat) (hk : k < 5) (ho : o.op = .fieldAddr 27 (.tmp t) k) : (execOp a.eval o).run Tryz.prog w = .ok (.value (.pointer (some ⟨B, k, none⟩))) w := by
  have : k = 0 ∨ k = 1 ∨ k = 2 ∨ k = 3 ∨ k = 4 := by omega
  rcases this with rfl | rfl | rfl | rfl | rfl <;> (unfold execOp; rw [ho]; simp [go_sem, tg h])
set_option maxRecDepth 100000 in
theorem ex_newK (ho : o.op = .buildSlice 22 0 #[]) : (execOp a.eval o).run Tryz.prog w = .ok (.value (.slice (some ⟨w.heap.size, 0, none⟩) 0 0)) (w.alloc (.cells #[] 51)) := by
  unfold execOp; rw [ho]; simp [go_sem]
set_option maxRecDepth 100000 in
theorem ex_ldK (B k : Nat) (t : Tmp) (v : Value) (h : a.tmps.getD t undef = .pointer (some ⟨B, k, none⟩)) (hc : w.cell? ⟨B, k, none⟩ = some v) (ho : o.op = .load 22 (.tmp t)) : (execOp a.eval o).run Tryz.prog w = .ok (.value v) w := by
  unfold execOp; rw [ho]; simp [go_sem, tg h, hc]
set_option maxRecDepth 100000 in
theorem ex_lenK (t : Tmp) (A : Option Addr) (n c : Nat) (h : a.tmps.getD t undef = .slice A n c) (ho : o.op = .call { callee := .builtin .len, args := #[.tmp t], argTypes := #[22] }) : (execOp a.eval o).run Tryz.prog w = .ok (.value (.int .i64 n)) w := by
  unfold execOp; rw [ho]; simp [go_sem, tg h]
set_option maxRecDepth 100000 in
theorem ex_cutK (t s : Tmp) (A : Option Addr) (n c m : Nat) (hm : m ≤ c) (h : a.tmps.getD t undef = .slice A n c) (hs : a.tmps.getD s undef = .int .i64 m) (ho : o.op = .slice 22 (.tmp t) none (some (.tmp s)) none) : (execOp a.eval o).run Tryz.prog w = .ok (.value (.slice A m c)) w := by
  unfold execOp; rw [ho]; simp [go_sem, tg h, tg hs]
  omega
set_option maxRecDepth 100000 in
theorem ex_appK (base : Nat) (t s : Tmp) (g : Nat) (h : a.tmps.getD t undef = .slice (some ⟨g, 0, none⟩) 0 0) (hown : w.ownsRow base 51 3 (.slice (some ⟨g, 0, none⟩) 0 0) 0 [])
    (A : Option Addr) (m c : Nat) (news : List Value) (hs : a.tmps.getD s undef = .slice A m c) (hl : news.length = m * 3) (hr : Rc w A news) (h1 : ∀ u ∈ news, u.oneCell' = true) (hm : m ≤ 1000) (hbase : base ≤ w.heap.size)
    (ho : o.op = .call { callee := .builtin .append, args := #[.tmp t, .tmp s], argTypes := #[22, 22] }) :
    ∃ v' w', (execOp a.eval o).run Tryz.prog w = .ok (.value v') w' ∧ w'.ownsRow base 51 3 v' m news ∧ Up w w' := by
  obtain ⟨i0, hi, hz0, hz1, hz2⟩ := info_parts kndInfo
  obtain ⟨v', w', hrun, h2, h3⟩ := append_new w Tryz.prog base 22 o.type 51 i0 _ 3 32 Tryz.underlying22 hi hz0 hz1 hz2 rfl (by decide) g hown A m c news hl hr h1 (by unfold maxLen; omega) (by omega) hbase
  refine ⟨v', w', ?_, h2, h3⟩
  have e1 : a.eval (.tmp t) = .slice (some ⟨g, 0, none⟩) 0 0 := h
  have e2 : a.eval (.tmp s) = .slice A m c := hs
  unfold execOp
  simp only [ho, resolve, invoke, builtin, Sem.run_bind, Sem.run_pure, Result.andThen_ok, List.map_toArray, List.map_cons, List.map_nil, e1, e2, hrun]
set_option maxRecDepth 100000 in
theorem ex_newJ (ho : o.op = .buildSlice 23 0 #[]) : (execOp a.eval o).run Tryz.prog w = .ok (.value (.slice (some ⟨w.heap.size, 0, none⟩) 0 0)) (w.alloc (.cells #[] 70)) := by
  unfold execOp; rw [ho]; simp [go_sem]
set_option maxRecDepth 100000 in
theorem ex_ldJ (B k : Nat) (t : Tmp) (v : Value) (h : a.tmps.getD t undef = .pointer (some ⟨B, k, none⟩)) (hc : w.cell? ⟨B, k, none⟩ = some v) (ho : o.op = .load 23 (.tmp t)) : (execOp a.eval o).run Tryz.prog w = .ok (.value v) w := by
  unfold execOp; rw [ho]; simp [go_sem, tg h, hc]
set_option maxRecDepth 100000 in
theorem ex_lenJ (t : Tmp) (A : Option Addr) (n c : Nat) (h : a.tmps.getD t undef = .slice A n c) (ho : o.op = .call { callee := .builtin .len, args := #[.tmp t], argTypes := #[23] }) : (execOp a.eval o).run Tryz.prog w = .ok (.value (.int .i64 n)) w := by
  unfold execOp; rw [ho]; simp [go_sem, tg h]
set_option maxRecDepth 100000 in
theorem ex_cutJ (t s : Tmp) (A : Option Addr) (n c m : Nat) (hm : m ≤ c) (h : a.tmps.getD t undef = .slice A n c) (hs : a.tmps.getD s undef = .int .i64 m) (ho : o.op = .slice 23 (.tmp t) none (some (.tmp s)) none) : (execOp a.eval o).run Tryz.prog w = .ok (.value (.slice A m c)) w := by
  unfold execOp; rw [ho]; simp [go_sem, tg h, tg hs]
  omega
set_option maxRecDepth 100000 in
theorem ex_appJ (base : Nat) (t s : Tmp) (g : Nat) (h : a.tmps.getD t undef = .slice (some ⟨g, 0, none⟩) 0 0) (hown : w.ownsRow base 70 2 (.slice (some ⟨g, 0, none⟩) 0 0) 0 [])
    (A : Option Addr) (m c : Nat) (news : List Value) (hs : a.tmps.getD s undef = .slice A m c) (hl : news.length = m * 2) (hr : Rc w A news) (h1 : ∀ u ∈ news, u.oneCell' = true) (hm : m ≤ 1000) (hbase : base ≤ w.heap.size)
    (ho : o.op = .call { callee := .builtin .append, args := #[.tmp t, .tmp s], argTypes := #[23, 23] }) :
    ∃ v' w', (execOp a.eval o).run Tryz.prog w = .ok (.value v') w' ∧ w'.ownsRow base 70 2 v' m news ∧ Up w w' := by
  obtain ⟨i0, hi, hz0, hz1, hz2⟩ := info_parts jmpInfo
  obtain ⟨v', w', hrun, h2, h3⟩ := append_new w Tryz.prog base 23 o.type 70 i0 _ 2 16 Tryz.underlying23 hi hz0 hz1 hz2 rfl (by decide) g hown A m c news hl hr h1 (by unfold maxLen; omega) (by omega) hbase
  refine ⟨v', w', ?_, h2, h3⟩
  have e1 : a.eval (.tmp t) = .slice (some ⟨g, 0, none⟩) 0 0 := h
  have e2 : a.eval (.tmp s) = .slice A m c := hs
  unfold execOp
  simp only [ho, resolve, invoke, builtin, Sem.run_bind, Sem.run_pure, Result.andThen_ok, List.map_toArray, List.map_cons, List.map_nil, e1, e2, hrun]
set_option maxRecDepth 100000 in
theorem ex_newL (ho : o.op = .buildSlice 24 0 #[]) : (execOp a.eval o).run Tryz.prog w = .ok (.value (.slice (some ⟨w.heap.size, 0, none⟩) 0 0)) (w.alloc (.cells #[] 73)) := by
  unfold execOp; rw [ho]; simp [go_sem]
set_option maxRecDepth 100000 in
theorem ex_ldL (B k : Nat) (t : Tmp) (v : Value) (h : a.tmps.getD t undef = .pointer (some ⟨B, k, none⟩)) (hc : w.cell? ⟨B, k, none⟩ = some v) (ho : o.op = .load 24 (.tmp t)) : (execOp a.eval o).run Tryz.prog w = .ok (.value v) w := by
  unfold execOp; rw [ho]; simp [go_sem, tg h, hc]
set_option maxRecDepth 100000 in
theorem ex_lenL (t : Tmp) (A : Option Addr) (n c : Nat) (h : a.tmps.getD t undef = .slice A n c) (ho : o.op = .call { callee := .builtin .len, args := #[.tmp t], argTypes := #[24] }) : (execOp a.eval o).run Tryz.prog w = .ok (.value (.int .i64 n)) w := by
  unfold execOp; rw [ho]; simp [go_sem, tg h]
set_option maxRecDepth 100000 in
theorem ex_cutL (t s : Tmp) (A : Option Addr) (n c m : Nat) (hm : m ≤ c) (h : a.tmps.getD t undef = .slice A n c) (hs : a.tmps.getD s undef = .int .i64 m) (ho : o.op = .slice 24 (.tmp t) none (some (.tmp s)) none) : (execOp a.eval o).run Tryz.prog w = .ok (.value (.slice A m c)) w := by
  unfold execOp; rw [ho]; simp [go_sem, tg h, tg hs]
  omega
set_option maxRecDepth 100000 in
theorem ex_appL (base : Nat) (t s : Tmp) (g : Nat) (h : a.tmps.getD t undef = .slice (some ⟨g, 0, none⟩) 0 0) (hown : w.ownsRow base 73 2 (.slice (some ⟨g, 0, none⟩) 0 0) 0 [])
    (A : Option Addr) (m c : Nat) (news : List Value) (hs : a.tmps.getD s undef = .slice A m c) (hl : news.length = m * 2) (hr : Rc w A news) (h1 : ∀ u ∈ news, u.oneCell' = true) (hm : m ≤ 1000) (hbase : base ≤ w.heap.size)
    (ho : o.op = .call { callee := .builtin .append, args := #[.tmp t, .tmp s], argTypes := #[24, 24] }) :
    ∃ v' w', (execOp a.eval o).run Tryz.prog w = .ok (.value v') w' ∧ w'.ownsRow base 73 2 v' m news ∧ Up w w' := by
  obtain ⟨i0, hi, hz0, hz1, hz2⟩ := info_parts lepInfo
  obtain ⟨v', w', hrun, h2, h3⟩ := append_new w Tryz.prog base 24 o.type 73 i0 _ 2 16 Tryz.underlying24 hi hz0 hz1 hz2 rfl (by decide) g hown A m c news hl hr h1 (by unfold maxLen; omega) (by omega) hbase
  refine ⟨v', w', ?_, h2, h3⟩
  have e1 : a.eval (.tmp t) = .slice (some ⟨g, 0, none⟩) 0 0 := h
  have e2 : a.eval (.tmp s) = .slice A m c := hs
  unfold execOp
  simp only [ho, resolve, invoke, builtin, Sem.run_bind, Sem.run_pure, Result.andThen_ok, List.map_toArray, List.map_cons, List.map_nil, e1, e2, hrun]
set_option maxRecDepth 100000 in
theorem ex_newB (ho : o.op = .buildSlice 25 0 #[]) : (execOp a.eval o).run Tryz.prog w = .ok (.value (.slice (some ⟨w.heap.size, 0, none⟩) 0 0)) (w.alloc (.cells #[] 4)) := by
  unfold execOp; rw [ho]; simp [go_sem]
set_option maxRecDepth 100000 in
theorem ex_ldB (B k : Nat) (t : Tmp) (v : Value) (h : a.tmps.getD t undef = .pointer (some ⟨B, k, none⟩)) (hc : w.cell? ⟨B, k, none⟩ = some v) (ho : o.op = .load 25 (.tmp t)) : (execOp a.eval o).run Tryz.prog w = .ok (.value v) w := by
  unfold execOp; rw [ho]; simp [go_sem, tg h, hc]
set_option maxRecDepth 100000 in
theorem ex_lenB (t : Tmp) (A : Option Addr) (n c : Nat) (h : a.tmps.getD t undef = .slice A n c) (ho : o.op = .call { callee := .builtin .len, args := #[.tmp t], argTypes := #[25] }) : (execOp a.eval o).run Tryz.prog w = .ok (.value (.int .i64 n)) w := by
  unfold execOp; rw [ho]; simp [go_sem, tg h]
set_option maxRecDepth 100000 in
theorem ex_cutB (t s : Tmp) (A : Option Addr) (n c m : Nat) (hm : m ≤ c) (h : a.tmps.getD t undef = .slice A n c) (hs : a.tmps.getD s undef = .int .i64 m) (ho : o.op = .slice 25 (.tmp t) none (some (.tmp s)) none) : (execOp a.eval o).run Tryz.prog w = .ok (.value (.slice A m c)) w := by
  unfold execOp; rw [ho]; simp [go_sem, tg h, tg hs]
  omega
set_option maxRecDepth 100000 in
theorem ex_appB (base : Nat) (t s : Tmp) (g : Nat) (h : a.tmps.getD t undef = .slice (some ⟨g, 0, none⟩) 0 0) (hown : w.ownsRow base 4 1 (.slice (some ⟨g, 0, none⟩) 0 0) 0 [])
    (A : Option Addr) (m c : Nat) (news : List Value) (hs : a.tmps.getD s undef = .slice A m c) (hl : news.length = m * 1) (hr : Rc w A news) (h1 : ∀ u ∈ news, u.oneCell' = true) (hm : m ≤ 1000) (hbase : base ≤ w.heap.size)
    (ho : o.op = .call { callee := .builtin .append, args := #[.tmp t, .tmp s], argTypes := #[25, 25] }) :
    ∃ v' w', (execOp a.eval o).run Tryz.prog w = .ok (.value v') w' ∧ w'.ownsRow base 4 1 v' m news ∧ Up w w' := by
  obtain ⟨i0, hi, hz0, hz1, hz2⟩ := info_parts bolInfo
  obtain ⟨v', w', hrun, h2, h3⟩ := append_new w Tryz.prog base 25 o.type 4 i0 _ 1 1 Tryz.underlying25 hi hz0 hz1 hz2 rfl (by decide) g hown A m c news hl hr h1 (by unfold maxLen; omega) (by omega) hbase
  refine ⟨v', w', ?_, h2, h3⟩
  have e1 : a.eval (.tmp t) = .slice (some ⟨g, 0, none⟩) 0 0 := h
  have e2 : a.eval (.tmp s) = .slice A m c := hs
  unfold execOp
  simp only [ho, resolve, invoke, builtin, Sem.run_bind, Sem.run_pure, Result.andThen_ok, List.map_toArray, List.map_cons, List.map_nil, e1, e2, hrun]
end
/-- What is known of the slots of one of the five groups. -/
def gP (base B k : Nat) (e : TypeId) (size : Nat) (A : Option Addr) (q c m : Nat) (xs : List Value) (j : Nat) (v : Value) (w : World) : Prop :=
  match j with
  | 0 => ∃ g, v = .slice (some ⟨g, 0, none⟩) 0 0 ∧ w.ownsRow base e size (.slice (some ⟨g, 0, none⟩) 0 0) 0 []
  | 1 => v = .pointer (some ⟨B, k, none⟩)
  | 2 => v = .slice A q c
  | 3 => v = .pointer (some ⟨B, k, none⟩)
  | 4 => v = .slice A q c
  | 5 => v = .int .i64 q
  | 6 => v = .int .i64 m
  | 7 => v = .slice A m c
  | _ => w.ownsRow base e size v m xs
set_option maxRecDepth 100000 in
theorem row_up {w w' : World} {base : Nat} {e : TypeId} {size : Nat} {v : Value} {n : Nat} {xs : List Value} (h : w.ownsRow base e size v n xs) (u : Up w w') : w'.ownsRow base e size v n xs :=
  World.ownsRow.kept (row := none) h ⟨u.os, u.tape, u.output, u.size, fun k hk _ => u.block k hk⟩ (by
    rcases hb : v.ownBlock with _ | k
    · exact .inl rfl
    · exact .inr (by simp))
set_option maxRecDepth 100000 in
theorem gP_up {base B k : Nat} {e : TypeId} {size : Nat} {A : Option Addr} {q c m : Nat} {xs : List Value} {j : Nat} {v : Value} {w w' : World} (h : gP base B k e size A q c m xs j v w) (u : Up w w') : gP base B k e size A q c m xs j v w' := by
  unfold gP at *
  split at h
  · obtain ⟨g, h1, h2⟩ := h; exact ⟨g, h1, row_up h2 u⟩
  · exact h
  · exact h
  · exact h
  · exact h
  · exact h
  · exact h
  · exact h
  · exact row_up h u
/-- A block of one's own: five rows of new memory. -/
def OwB (w : World) (base : Nat) (v : Value) (x : Blk) : Prop := ∃ a b c d e, v = .agg #[a, b, c, d, e] ∧ w.ownsRow base 51 3 a x.ks.length (kc x.ks) ∧ w.ownsRow base 70 2 b x.js.length (jc x.js) ∧ w.ownsRow base 73 2 c x.ls.length (lc x.ls) ∧ w.ownsRow base 4 1 d x.sd.length (oc x.sd) ∧ w.ownsRow base 4 1 e x.ut.length (oc x.ut)
set_option maxRecDepth 100000 in
theorem OwB.up {w w' : World} {base : Nat} {v : Value} {x : Blk} (h : OwB w base v x) (u : Up w w') : OwB w' base v x := by
  obtain ⟨a, b, c, d, e, hv, h1, h2, h3, h4, h5⟩ := h
  exact ⟨a, b, c, d, e, hv, row_up h1 u, row_up h2 u, row_up h3 u, row_up h4 u, row_up h5 u⟩
set_option maxRecDepth 100000 in
theorem row_sl {w : World} {base : Nat} {e : TypeId} {size : Nat} {v : Value} {n : Nat} {xs : List Value} (h : w.ownsRow base e size v n xs) : Sl w v n xs := by
  rcases h.2 with ⟨rfl, h0⟩ | ⟨g, cap, cur, rfl, _, _, h1, h2, _⟩
  · have e : xs = [] := List.eq_nil_of_length_eq_zero (by rw [h.1, h0, Nat.zero_mul])
    subst e; subst h0
    exact ⟨none, 0, rfl, Nat.le_refl _, Nat.zero_le _, Rc.nil _ _⟩
  · refine ⟨_, _, rfl, h1, h2, fun _ => ⟨g, 0, rfl, fun i v hi => ?_⟩⟩
    have := h.cells (g := g) rfl i v hi
    have ea : (⟨g, 0, none⟩ : Addr).add i = ⟨g, 0 + i, none⟩ := by unfold Addr.add; split <;> simp_all
    rw [ea] at this; exact this
set_option maxRecDepth 100000 in
theorem OwB.rd {w : World} {base : Nat} {v : Value} {x : Blk} (h : OwB w base v x) : BkR w v x := by
  obtain ⟨a, b, c, d, e, hv, h1, h2, h3, h4, h5⟩ := h
  exact ⟨a, b, c, d, e, hv, row_sl h1, row_sl h2, row_sl h3, row_sl h4, row_sl h5⟩
/-- The block, cut, its names not yet. -/
def cut5 (x : Blk) : Blk := ⟨x.ks.take 40, x.js.take 100, x.ls.take 50, x.sd.take 40, x.ut.take 40⟩
set_option maxRecDepth 100000 in
theorem one_kc (ks : List Knd) : ∀ u ∈ kc ks, u.oneCell' = true := fun u hu => by
  obtain ⟨k, _, hk⟩ := List.mem_flatMap.1 hu
  simp only [List.mem_cons, List.not_mem_nil, or_false] at hk
  rcases hk with rfl | rfl | rfl <;> rfl
set_option maxRecDepth 100000 in
theorem one_jc (ks : List Jmp) : ∀ u ∈ jc ks, u.oneCell' = true := fun u hu => by
  obtain ⟨k, _, hk⟩ := List.mem_flatMap.1 hu
  simp only [List.mem_cons, List.not_mem_nil, or_false] at hk
  rcases hk with rfl | rfl <;> rfl
set_option maxRecDepth 100000 in
theorem one_lc (ks : List Lep) : ∀ u ∈ lc ks, u.oneCell' = true := fun u hu => by
  obtain ⟨k, _, hk⟩ := List.mem_flatMap.1 hu
  simp only [List.mem_cons, List.not_mem_nil, or_false] at hk
  rcases hk with rfl | rfl <;> rfl
set_option maxRecDepth 100000 in
theorem one_oc (ks : List Bool) : ∀ u ∈ oc ks, u.oneCell' = true := fun u hu => by
  obtain ⟨k, _, rfl⟩ := List.mem_map.1 hu
  rfl
set_option maxRecDepth 100000 in
theorem Rc.pre {w : World} {A : Option Addr} {a b : List Value} (h : Rc w A (a ++ b)) : Rc w A a := fun h0 => by
  obtain ⟨g, o, e, hc⟩ := h (by rw [List.length_append]; omega)
  exact ⟨g, o, e, fun i v hi => hc i v (by rw [List.getElem?_append_left (by rcases Nat.lt_or_ge i a.length with k | k; exact k; rw [List.getElem?_eq_none k] at hi; cases hi)]; exact hi)⟩
set_option maxRecDepth 100000 in
theorem Rc.takeK {w : World} {A : Option Addr} {l : List Knd} (h : Rc w A (kc l)) (n : Nat) : Rc w A (kc (l.take n)) := Rc.pre (b := kc (l.drop n)) (by rw [← kc_append, List.take_append_drop]; exact h)
set_option maxRecDepth 100000 in
theorem Rc.takeJ {w : World} {A : Option Addr} {l : List Jmp} (h : Rc w A (jc l)) (n : Nat) : Rc w A (jc (l.take n)) := Rc.pre (b := jc (l.drop n)) (by rw [← jc_append, List.take_append_drop]; exact h)
set_option maxRecDepth 100000 in
theorem Rc.takeL {w : World} {A : Option Addr} {l : List Lep} (h : Rc w A (lc l)) (n : Nat) : Rc w A (lc (l.take n)) := Rc.pre (b := lc (l.drop n)) (by rw [← lc_append, List.take_append_drop]; exact h)
set_option maxRecDepth 100000 in
theorem Rc.takeB {w : World} {A : Option Addr} {l : List Bool} (h : Rc w A (oc l)) (n : Nat) : Rc w A (oc (l.take n)) := Rc.pre (b := oc (l.drop n)) (by rw [← oc_append, List.take_append_drop]; exact h)
set_option maxRecDepth 100000 in
theorem getD_some {t : Array Value} {i : Nat} {v : Value} (h : t[i]? = some v) : t.getD i undef = v := by rw [Array.getD_eq_getD_getElem?, h]; rfl
set_option maxRecDepth 100000 in
theorem row_form {w : World} {base : Nat} {e : TypeId} {size : Nat} {v : Value} {n : Nat} {xs : List Value} (h : w.ownsRow base e size v n xs) : ∃ A c, v = .slice A n c := by
  rcases h.2 with ⟨rfl, rfl⟩ | ⟨g, cap, cur, rfl, _⟩
  · exact ⟨_, _, rfl⟩
  · exact ⟨_, _, rfl⟩
/-- A name, cut. -/
def cut60 (s : ByteArray) : ByteArray := s.extract 0 (min (s.size : Int) 60).toNat
def cutK (k : Knd) : Knd := ⟨k.off, k.dst, cut60 k.name⟩
/-- The first k names cut. -/
def mixK (ks : List Knd) (k : Nat) : List Knd := (ks.take k).map cutK ++ ks.drop k
/-- The block, cut. -/
def cutB (x : Blk) : Blk := ⟨(x.ks.take 40).map cutK, x.js.take 100, x.ls.take 50, x.sd.take 40, x.ut.take 40⟩
def cutI (x : Blk) (k : Nat) : Blk := ⟨mixK (cut5 x).ks k, x.js.take 100, x.ls.take 50, x.sd.take 40, x.ut.take 40⟩
set_option maxRecDepth 100000 in
theorem mixK_len (ks : List Knd) (k : Nat) : (mixK ks k).length = ks.length := by
  unfold mixK; simp; omega
set_option maxRecDepth 100000 in
theorem mixK_zero (ks : List Knd) : mixK ks 0 = ks := by simp [mixK]
set_option maxRecDepth 100000 in
theorem mixK_end (ks : List Knd) : mixK ks ks.length = ks.map cutK := by simp [mixK]
set_option maxRecDepth 100000 in
theorem mixK_get {ks : List Knd} {k : Nat} (h : k < ks.length) : (mixK ks k).getD k k0 = ks.getD k k0 := by
  unfold mixK
  have e : ((ks.take k).map cutK).length = k := by simp; omega
  rw [List.getD_eq_getElem?_getD, List.getElem?_append_right (by omega), e, Nat.sub_self, List.getElem?_drop]
  simp [List.getD]
set_option maxRecDepth 100000 in
theorem mixK_set {ks : List Knd} {k : Nat} (h : k < ks.length) : (mixK ks k).set k (cutK (ks.getD k k0)) = mixK ks (k + 1) := by
  unfold mixK
  have e : ((ks.take k).map cutK).length = k := by simp; omega
  rw [List.set_append_right _ _ (by omega), e, Nat.sub_self, List.take_succ_eq_append_getElem h, List.map_append, List.append_assoc]
  congr 1
  have e2 : ks.getD k k0 = ks[k] := by simp [List.getD, h]
  rw [e2, List.drop_eq_getElem_cons h]
  rfl
set_option maxRecDepth 100000 in
theorem kc_set1 {ks : List Knd} {k : Nat} (h : k < ks.length) (s : ByteArray) : (kc ks).set (k * 3 + 2) (.string s) = kc (ks.set k ⟨(ks.getD k k0).off, (ks.getD k k0).dst, s⟩) := by
  induction ks generalizing k with
  | nil => simp at h
  | cons y ks ih =>
    have e : kc (y :: ks) = .int .i64 y.off :: .bool y.dst :: .string y.name :: kc ks := rfl
    cases k with
    | zero => rw [e]; rfl
    | succ k =>
      rw [e, show (k + 1) * 3 + 2 = k * 3 + 2 + 1 + 1 + 1 by omega]
      simp only [List.set_cons_succ, List.getD_cons_succ]
      show _ = Value.int .i64 y.off :: .bool y.dst :: .string y.name :: kc (ks.set k _)
      rw [← ih (k := k) (by simpa using h)]
set_option maxRecDepth 100000 in
theorem row_else {w : World} {base : Nat} {e : TypeId} {size : Nat} {v : Value} {n : Nat} {xs : List Value} (h : w.ownsRow base e size v n xs) {b : Nat} (hn : v.ownBlock ≠ some b) (o : Nat) (u : Value) : (w.setCell ⟨b, o, none⟩ u).ownsRow base e size v n xs := by
  refine ⟨h.1, ?_⟩
  rcases h.2 with h2 | ⟨g, cap, cur, rfl, hb, hh, rest⟩
  · exact .inl h2
  · exact .inr ⟨g, cap, cur, rfl, hb, by rw [Below.heap_setCell _ _ _ _ (fun e => hn (by have e' : g = b := e; rw [e']; rfl))]; exact hh, rest⟩
set_option maxRecDepth 100000 in
theorem row_ty {w : World} {base : Nat} {e t : TypeId} {size : Nat} {v : Value} {n : Nat} {xs : List Value} (h : w.ownsRow base e size v n xs) {b : Nat} {cs : Array Value} {fr : Nat × Nat} (hb : w.heap[b]? = some (.cells cs t fr)) (ht : t ≠ e) : v.ownBlock ≠ some b := by
  rcases h.2 with ⟨rfl, _⟩ | ⟨g, cap, cur, rfl, _, hh, _⟩
  · exact fun h => by cases h
  · intro h
    have : g = b := by injection h
    subst this
    rw [hh] at hb
    injection hb with hb
    injection hb with _ hb
    exact ht hb.symm
set_option maxRecDepth 100000 in
theorem row_five {w : World} {base : Nat} {e : TypeId} {size : Nat} {v : Value} {n : Nat} {xs : List Value} (h : w.ownsRow base e size v n xs) {b : Nat} (hn : v.ownBlock ≠ some b) (v0 v1 v2 v3 v4 : Value) : (five w b v0 v1 v2 v3 v4).ownsRow base e size v n xs :=
  row_else (row_else (row_else (row_else (row_else h hn 0 v0) hn 1 v1) hn 2 v2) hn 3 v3) hn 4 v4
set_option maxRecDepth 100000 in
theorem OwB.five {w : World} {base : Nat} {v : Value} {x : Blk} (h : OwB w base v x) {b : Nat} {cs : Array Value} {fr : Nat × Nat} (hb : w.heap[b]? = some (.cells cs 27 fr)) (v0 v1 v2 v3 v4 : Value) : OwB (five w b v0 v1 v2 v3 v4) base v x := by
  obtain ⟨a, b', c, d, e, rfl, h1, h2, h3, h4, h5⟩ := h
  exact ⟨_, _, _, _, _, rfl, row_five h1 (row_ty h1 hb (by decide)) _ _ _ _ _, row_five h2 (row_ty h2 hb (by decide)) _ _ _ _ _, row_five h3 (row_ty h3 hb (by decide)) _ _ _ _ _, row_five h4 (row_ty h4 hb (by decide)) _ _ _ _ _, row_five h5 (row_ty h5 hb (by decide)) _ _ _ _ _⟩
set_option maxRecDepth 100000 in
/-- One name stored. -/
theorem OwB.name {w : World} {base g n d : Nat} {b c e f : Value} {x : Blk} (h : OwB w base (.agg #[.slice (some ⟨g, 0, none⟩) n d, b, c, e, f]) x) {k : Nat} (hk : k < x.ks.length) (s : ByteArray) :
    OwB (w.setCell ⟨g, k * 3 + 2, none⟩ (.string s)) base (.agg #[.slice (some ⟨g, 0, none⟩) n d, b, c, e, f]) ⟨x.ks.set k ⟨(x.ks.getD k k0).off, (x.ks.getD k k0).dst, s⟩, x.js, x.ls, x.sd, x.ut⟩ := by
  obtain ⟨_, _, _, _, _, he, h1, h2, h3, h4, h5⟩ := h
  simp only [Value.agg.injEq, Array.mk.injEq, List.cons.injEq, and_true] at he
  obtain ⟨rfl, rfl, rfl, rfl, rfl⟩ := he
  have hh : ∃ cur : Array Value, w.heap[g]? = some (.cells cur 51 (0, 0)) := by
    rcases h1.2 with ⟨hv, _⟩ | ⟨g', cap, cur, hv, _, hg, _⟩
    · cases hv
    · have : g = g' := by injection hv with hv; injection hv with hv; injection hv
      subst this; exact ⟨cur, hg⟩
  obtain ⟨cur, hh⟩ := hh
  have hn : n = x.ks.length := by
    rcases h1.2 with ⟨hv, _⟩ | ⟨g', cap, cur, hv, _⟩
    · cases hv
    · injection hv
  subst hn
  have k1 := (World.ownsRow.stored h1 (k * 3 + 2) (.string s)).1
  rw [kc_set1 hk] at k1
  refine ⟨_, _, _, _, _, rfl, ?_, row_else h2 (row_ty h2 hh (by decide)) _ _, row_else h3 (row_ty h3 hh (by decide)) _ _, row_else h4 (row_ty h4 hh (by decide)) _ _, row_else h5 (row_ty h5 hh (by decide)) _ _⟩
  simp only [List.length_set]
  exact k1
set_option maxRecDepth 100000 in
theorem bx_heap {w : World} {b : Nat} {a c d e f : Value} {t : TypeId} (h : w.heap[b]? = some (.cells #[a, c, d, e, f] t (0, 0))) : Bx5 w b a c d e f ∧ Free w b := by
  have lt : b < w.heap.size := by
    rcases Nat.lt_or_ge b w.heap.size with g | g
    · exact g
    · rw [Array.getElem?_eq_none g] at h; cases h
  refine ⟨?_, lt, fun j => frozen_of_row w b j _ t h⟩
  unfold Bx5
  simp [World.cell?, h]
set_option maxRecDepth 100000 in
theorem five_heap {w : World} {b : Nat} {a c d e f : Value} {t : TypeId} (h : w.heap[b]? = some (.cells #[a, c, d, e, f] t (0, 0))) (v0 v1 v2 v3 v4 : Value) : (five w b v0 v1 v2 v3 v4).heap[b]? = some (.cells #[v0, v1, v2, v3, v4] t (0, 0)) := by
  have h0 := heap_setCell_same w b 0 _ t v0 h
  have h1 := heap_setCell_same _ b 1 _ t v1 h0
  have h2 := heap_setCell_same _ b 2 _ t v2 h1
  have h3 := heap_setCell_same _ b 3 _ t v3 h2
  have h4 := heap_setCell_same _ b 4 _ t v4 h3
  exact h4
set_option maxRecDepth 100000 in
theorem OwB.len {w : World} {base q0 d0 : Nat} {P0 : Option Addr} {b c d e : Value} {x : Blk} (h : OwB w base (.agg #[.slice P0 q0 d0, b, c, d, e]) x) : q0 = x.ks.length := by
  obtain ⟨_, _, _, _, _, he, h1, _⟩ := h
  simp only [Value.agg.injEq, Array.mk.injEq, List.cons.injEq, and_true] at he
  obtain ⟨rfl, _⟩ := he
  obtain ⟨A, c, hv⟩ := row_form h1
  injection hv
set_option maxRecDepth 100000 in
theorem OwB.knd {w : World} {base q0 d0 : Nat} {P0 : Option Addr} {b c d e : Value} {x : Blk} (h : OwB w base (.agg #[.slice P0 q0 d0, b, c, d, e]) x) {k : Nat} (hk : k < x.ks.length) : ∃ g, P0 = some ⟨g, 0, none⟩ ∧ base ≤ g ∧ w.cell? ⟨g, k * 3 + 2, none⟩ = some (.string (x.ks.getD k k0).name) ∧ w.frozen? ⟨g, k * 3 + 2, none⟩ = false ∧ ∃ cs, w.heap[g]? = some (.cells cs 51 (0, 0)) := by
  obtain ⟨_, _, _, _, _, he, h1, _⟩ := h
  simp only [Value.agg.injEq, Array.mk.injEq, List.cons.injEq, and_true] at he
  obtain ⟨rfl, _⟩ := he
  rcases h1.2 with ⟨_, h0⟩ | ⟨g, cap, cur, hv, hb, hh, _⟩
  · omega
  · injection hv with hv _ _
    subst hv
    refine ⟨g, rfl, hb, ?_, frozen_of_row w g _ cur _ hh, cur, hh⟩
    obtain ⟨A, c', hs, _, _, hr⟩ := row_sl h1
    injection hs with hs _ _
    subst hs
    obtain ⟨g', o', e', _, _, hc⟩ := hr.knd hk
    injection e' with e'
    injection e' with e1 e2
    subst e1 e2
    rw [Nat.zero_add] at hc
    exact hc
set_option maxRecDepth 100000 in
theorem OwB.base {w : World} {base base' : Nat} {v : Value} {x : Blk} (h : OwB w base v x) (hb : base' ≤ base) : OwB w base' v x := by
  have mono : ∀ {e : TypeId} {size : Nat} {v : Value} {n : Nat} {xs : List Value}, w.ownsRow base e size v n xs → w.ownsRow base' e size v n xs := fun h => by
    refine ⟨h.1, ?_⟩
    rcases h.2 with h | ⟨g, cap, cur, h1, h2, h3⟩
    · exact .inl h
    · exact .inr ⟨g, cap, cur, h1, by omega, h3⟩
  obtain ⟨a, b, c, d, e, hv, h1, h2, h3, h4, h5⟩ := h
  exact ⟨a, b, c, d, e, hv, mono h1, mono h2, mono h3, mono h4, mono h5⟩
set_option maxRecDepth 100000 in
theorem heap_up {w w' : World} (u : Up w w') {b : Nat} {o : Obj} (h : w.heap[b]? = some o) : w'.heap[b]? = some o := by
  have lt : b < w.heap.size := by
    rcases Nat.lt_or_ge b w.heap.size with g | g
    · exact g
    · rw [Array.getElem?_eq_none g] at h; cases h
  rw [u.block b lt]; exact h
set_option maxRecDepth 100000 in
theorem cutI_zero (x : Blk) : cutI x 0 = cut5 x := by unfold cutI; rw [mixK_zero]; rfl
set_option maxRecDepth 100000 in
theorem cutI_end (x : Blk) : cutI x (cut5 x).ks.length = cutB x := by unfold cutI; rw [mixK_end]; rfl
set_option maxRecDepth 100000 in
theorem wp_sto (w : World) (a : Act) (o : Oper) (s3 s50 : Tmp) (b : Nat) (P0 P1 P2 P3 P4 : Option Addr) (n0 n1 n2 n3 n4 d0 d1 d2 d3 d4 : Nat) (h3 : a.tmps.getD s3 undef = .pointer (some ⟨b, 0, none⟩)) (h50 : a.tmps.getD s50 undef = .agg #[.slice P0 n0 d0, .slice P1 n1 d1, .slice P2 n2 d2, .slice P3 n3 d3, .slice P4 n4 d4])
    {x0 x1 x2 x3 x4 : Value} (hx : Bx5 w b x0 x1 x2 x3 x4) (hf : Free w b) (hd : o.dst = none) (ho : o.op = .store 27 (.tmp s3) (.tmp s50)) {K : Act → World → Prop} {Q : Exit → Act → World → Prop}
    (k : K a (five w b (.slice P0 n0 d0) (.slice P1 n1 d1) (.slice P2 n2 d2) (.slice P3 n3 d3) (.slice P4 n4 d4))) : o.wp Tryz.prog a w K Q := by
  obtain ⟨e0, e1, e2, e3, e4⟩ := hx
  have f0 := hf.2 0; have f1 := hf.2 1; have f2 := hf.2 2; have f3 := hf.2 3; have f4 := hf.2 4
  unfold Oper.wp execOp
  rw [ho]
  simp [go_sem, tg h3, tg h50, e0, e1, e2, e3, e4, f0, f1, f2, f3, f4, Oper.upon, Act.put, hd]
  exact k

end Go.Proofs.YtaljddoenjgbfaaGreat
