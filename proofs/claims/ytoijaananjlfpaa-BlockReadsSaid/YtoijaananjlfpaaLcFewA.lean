/-
  few: the operations of its great region, and what is known of each slot, whatever is made meanwhile.
-/
import Derived.Test.YtoijaananjlfpaaLcBkX
import Derived.Test.YtoijaananjlfpaaLcMid
namespace Go.Proofs.Ytoijaananjlfpaa
open Go.ChangeShapes Go.WideShapes Go.ChangeAt Go.RowKit Lc

theorem tg {a : Act} {t : Tmp} {v : Value} (h : a.tmps.getD t undef = v) : a.tmps[t]?.getD undef = v := by rw [← Array.getD_eq_getD_getElem?]; exact h
section
variable (w : World) (a : Act) (o : Oper)
theorem append_new (P : Program) (base : Nat) (t ty e : TypeId) (i : TypeInfo) (z : Value) (size bytes : Nat) (ht : P.underlying t = some (.slice e)) (hi : P.info? e = some i) (hz : i.zero = some z)
    (hsize : i.size = size) (hby : i.bytes = bytes) (hzs : z.cells.size = size) (hsz : 0 < size)
    (g : Nat) (hown : w.ownsRow base e size (.slice (some ⟨g, 0, none⟩) 0 0) 0 [])
    (A : Option Addr) (m c : Nat) (news : List Value) (hl : news.length = m * size) (hr : Rc w A news) (h1 : ∀ u ∈ news, u.oneCell' = true)
    (h63 : m ≤ maxLen) (hbytes : m * bytes ≤ 140737488355328) (hbase : base ≤ w.heap.size) :
    ∃ v' w', (Builtin.append_ #[t, t] ty #[.slice (some ⟨g, 0, none⟩) 0 0, .slice A m c]).run P w = .ok v' w' ∧ w'.ownsRow base e size v' m news ∧ Up w w' := by
  by_cases hm : m = 0
  · subst hm
    have hn : news = [] := List.eq_nil_of_length_eq_zero (by simpa using hl)
    subst hn
    refine ⟨_, w, ?_, hown, Up.refl w⟩
    cases A <;> simp [Builtin.append_, run_underlying ht, sizeOf, typeInfo, hi, Builtin.lenOf, Builtin.firstCells, loadCells, loadCellsFrom, storeCells]
  · have hp : 0 < news.length := by rw [hl]; exact Nat.mul_pos (by omega) hsz
    obtain ⟨b, off, rfl, hc⟩ := hr hp
    have hnews : ∀ j u, news[j]? = some u → w.cell? ((⟨b, off, none⟩ : Addr).add j) = some u := fun j u hj => by
      have ea : (⟨b, off, none⟩ : Addr).add j = ⟨b, off + j, none⟩ := by unfold Addr.add; split <;> simp_all
      rw [ea]; exact hc j u hj
    obtain ⟨v', w', hrun, h2, _, _, _⟩ := run_append_own_at (P := P) w base t ty e i z size bytes ht hi hz hsize hby hzs hsz _ 0 [] hown ⟨b, off, none⟩ m c news hl hnews h1 (by omega) (by rw [Nat.zero_add]; exact hbytes) hbase
    refine ⟨v', w', hrun, ?_, ?_⟩
    · rw [Nat.zero_add, List.nil_append] at h2; exact h2
    · subst hsize hby
      have hr2 := run_append_grow (P := P) w t ty e i z ht hi hz ⟨g, 0, none⟩ 0 0 [] (by simp) (by simp) ⟨b, off, none⟩ m c news hl hnews (by omega) (by unfold maxLen at h63; omega) (growslice_fits (by omega) (by rw [Nat.zero_add]; exact hbytes))
      rw [hrun] at hr2
      injection hr2 with _ hw
      subst hw
      exact Up.alloc' (Up.drewN w 1) _
theorem ex_min (t : Tmp) (n : Nat) (m : Int) (h : a.tmps.getD t undef = .int .i64 n) (ho : o.op = .call { callee := .builtin .min, args := #[.tmp t, .const (.int .i64 m)], argTypes := #[3, 3] }) (ht : o.type = 3) : (execOp a.eval o).run Try.prog w = .ok (.value (.int .i64 (min (n : Int) m))) w := by
  unfold execOp; rw [ho]; simp [go_sem, tg h, ht]
theorem ex_bld (t0 t1 t2 t3 t4 : Tmp) (A0 A1 A2 A3 A4 : Option Addr) (n0 n1 n2 n3 n4 c0 c1 c2 c3 c4 : Nat) (h0 : a.tmps.getD t0 undef = .slice A0 n0 c0) (h1 : a.tmps.getD t1 undef = .slice A1 n1 c1) (h2 : a.tmps.getD t2 undef = .slice A2 n2 c2) (h3 : a.tmps.getD t3 undef = .slice A3 n3 c3) (h4 : a.tmps.getD t4 undef = .slice A4 n4 c4) (ho : o.op = .build 27 #[(0, .tmp t0), (1, .tmp t1), (2, .tmp t2), (3, .tmp t3), (4, .tmp t4)]) : (execOp a.eval o).run Try.prog w = .ok (.value (.agg #[.slice A0 n0 c0, .slice A1 n1 c1, .slice A2 n2 c2, .slice A3 n3 c3, .slice A4 n4 c4])) w := by
  unfold execOp; rw [ho]; simp [go_sem, tg h0, tg h1, tg h2, tg h3, tg h4]
theorem ex_box (ho : o.op = .alloc 27) : (execOp a.eval o).run Try.prog w = .ok (.value (.pointer (some ⟨w.heap.size, 0, none⟩))) (w.alloc (.cells #[.slice none 0 0, .slice none 0 0, .slice none 0 0, .slice none 0 0, .slice none 0 0] 27)) := by
  unfold execOp; rw [ho]; simp [go_sem]
theorem ex_fld (t : Tmp) (B : Nat) (h : a.tmps.getD t undef = .pointer (some ⟨B, 0, none⟩)) (k : Nat) (hk : k < 5) (ho : o.op = .fieldAddr 27 (.tmp t) k) : (execOp a.eval o).run Try.prog w = .ok (.value (.pointer (some ⟨B, k, none⟩))) w := by
  have : k = 0 ∨ k = 1 ∨ k = 2 ∨ k = 3 ∨ k = 4 := by omega
  rcases this with rfl | rfl | rfl | rfl | rfl <;> (unfold execOp; rw [ho]; simp [go_sem, tg h])
theorem ex_newK (ho : o.op = .buildSlice 22 0 #[]) : (execOp a.eval o).run Try.prog w = .ok (.value (.slice (some ⟨w.heap.size, 0, none⟩) 0 0)) (w.alloc (.cells #[] 56)) := by
  unfold execOp; rw [ho]; simp [go_sem]
theorem ex_ldK (B k : Nat) (t : Tmp) (v : Value) (h : a.tmps.getD t undef = .pointer (some ⟨B, k, none⟩)) (hc : w.cell? ⟨B, k, none⟩ = some v) (ho : o.op = .load 22 (.tmp t)) : (execOp a.eval o).run Try.prog w = .ok (.value v) w := by
  unfold execOp; rw [ho]; simp [go_sem, tg h, hc]
theorem ex_lenK (t : Tmp) (A : Option Addr) (n c : Nat) (h : a.tmps.getD t undef = .slice A n c) (ho : o.op = .call { callee := .builtin .len, args := #[.tmp t], argTypes := #[22] }) : (execOp a.eval o).run Try.prog w = .ok (.value (.int .i64 n)) w := by
  unfold execOp; rw [ho]; simp [go_sem, tg h]
theorem ex_cutK (t s : Tmp) (A : Option Addr) (n c m : Nat) (hm : m ≤ c) (h : a.tmps.getD t undef = .slice A n c) (hs : a.tmps.getD s undef = .int .i64 m) (ho : o.op = .slice 22 (.tmp t) none (some (.tmp s)) none) : (execOp a.eval o).run Try.prog w = .ok (.value (.slice A m c)) w := by
  unfold execOp; rw [ho]; simp [go_sem, tg h, tg hs]
  omega
theorem ex_appK (base : Nat) (t s : Tmp) (g : Nat) (h : a.tmps.getD t undef = .slice (some ⟨g, 0, none⟩) 0 0) (hown : w.ownsRow base 56 3 (.slice (some ⟨g, 0, none⟩) 0 0) 0 [])
    (A : Option Addr) (m c : Nat) (news : List Value) (hs : a.tmps.getD s undef = .slice A m c) (hl : news.length = m * 3) (hr : Rc w A news) (h1 : ∀ u ∈ news, u.oneCell' = true) (hm : m ≤ 1000) (hbase : base ≤ w.heap.size)
    (ho : o.op = .call { callee := .builtin .append, args := #[.tmp t, .tmp s], argTypes := #[22, 22] }) :
    ∃ v' w', (execOp a.eval o).run Try.prog w = .ok (.value v') w' ∧ w'.ownsRow base 56 3 v' m news ∧ Up w w' := by
  obtain ⟨i0, hi, hz0, hz1, hz2⟩ := info_parts kndInfo
  obtain ⟨v', w', hrun, h2, h3⟩ := append_new w Try.prog base 22 o.type 56 i0 _ 3 32 Try.underlying22 hi hz0 hz1 hz2 rfl (by decide) g hown A m c news hl hr h1 (by unfold maxLen; omega) (by omega) hbase
  refine ⟨v', w', ?_, h2, h3⟩
  have e1 : a.eval (.tmp t) = .slice (some ⟨g, 0, none⟩) 0 0 := h
  have e2 : a.eval (.tmp s) = .slice A m c := hs
  unfold execOp
  simp only [ho, resolve, invoke, builtin, Sem.run_bind, Sem.run_pure, Result.andThen_ok, List.map_toArray, List.map_cons, List.map_nil, e1, e2, hrun]
theorem ex_newJ (ho : o.op = .buildSlice 23 0 #[]) : (execOp a.eval o).run Try.prog w = .ok (.value (.slice (some ⟨w.heap.size, 0, none⟩) 0 0)) (w.alloc (.cells #[] 54)) := by
  unfold execOp; rw [ho]; simp [go_sem]
theorem ex_ldJ (B k : Nat) (t : Tmp) (v : Value) (h : a.tmps.getD t undef = .pointer (some ⟨B, k, none⟩)) (hc : w.cell? ⟨B, k, none⟩ = some v) (ho : o.op = .load 23 (.tmp t)) : (execOp a.eval o).run Try.prog w = .ok (.value v) w := by
  unfold execOp; rw [ho]; simp [go_sem, tg h, hc]
theorem ex_lenJ (t : Tmp) (A : Option Addr) (n c : Nat) (h : a.tmps.getD t undef = .slice A n c) (ho : o.op = .call { callee := .builtin .len, args := #[.tmp t], argTypes := #[23] }) : (execOp a.eval o).run Try.prog w = .ok (.value (.int .i64 n)) w := by
  unfold execOp; rw [ho]; simp [go_sem, tg h]
theorem ex_cutJ (t s : Tmp) (A : Option Addr) (n c m : Nat) (hm : m ≤ c) (h : a.tmps.getD t undef = .slice A n c) (hs : a.tmps.getD s undef = .int .i64 m) (ho : o.op = .slice 23 (.tmp t) none (some (.tmp s)) none) : (execOp a.eval o).run Try.prog w = .ok (.value (.slice A m c)) w := by
  unfold execOp; rw [ho]; simp [go_sem, tg h, tg hs]
  omega
theorem ex_appJ (base : Nat) (t s : Tmp) (g : Nat) (h : a.tmps.getD t undef = .slice (some ⟨g, 0, none⟩) 0 0) (hown : w.ownsRow base 54 2 (.slice (some ⟨g, 0, none⟩) 0 0) 0 [])
    (A : Option Addr) (m c : Nat) (news : List Value) (hs : a.tmps.getD s undef = .slice A m c) (hl : news.length = m * 2) (hr : Rc w A news) (h1 : ∀ u ∈ news, u.oneCell' = true) (hm : m ≤ 1000) (hbase : base ≤ w.heap.size)
    (ho : o.op = .call { callee := .builtin .append, args := #[.tmp t, .tmp s], argTypes := #[23, 23] }) :
    ∃ v' w', (execOp a.eval o).run Try.prog w = .ok (.value v') w' ∧ w'.ownsRow base 54 2 v' m news ∧ Up w w' := by
  obtain ⟨i0, hi, hz0, hz1, hz2⟩ := info_parts jmpInfo
  obtain ⟨v', w', hrun, h2, h3⟩ := append_new w Try.prog base 23 o.type 54 i0 _ 2 16 Try.underlying23 hi hz0 hz1 hz2 rfl (by decide) g hown A m c news hl hr h1 (by unfold maxLen; omega) (by omega) hbase
  refine ⟨v', w', ?_, h2, h3⟩
  have e1 : a.eval (.tmp t) = .slice (some ⟨g, 0, none⟩) 0 0 := h
  have e2 : a.eval (.tmp s) = .slice A m c := hs
  unfold execOp
  simp only [ho, resolve, invoke, builtin, Sem.run_bind, Sem.run_pure, Result.andThen_ok, List.map_toArray, List.map_cons, List.map_nil, e1, e2, hrun]
theorem ex_newL (ho : o.op = .buildSlice 24 0 #[]) : (execOp a.eval o).run Try.prog w = .ok (.value (.slice (some ⟨w.heap.size, 0, none⟩) 0 0)) (w.alloc (.cells #[] 67)) := by
  unfold execOp; rw [ho]; simp [go_sem]
theorem ex_ldL (B k : Nat) (t : Tmp) (v : Value) (h : a.tmps.getD t undef = .pointer (some ⟨B, k, none⟩)) (hc : w.cell? ⟨B, k, none⟩ = some v) (ho : o.op = .load 24 (.tmp t)) : (execOp a.eval o).run Try.prog w = .ok (.value v) w := by
  unfold execOp; rw [ho]; simp [go_sem, tg h, hc]
theorem ex_lenL (t : Tmp) (A : Option Addr) (n c : Nat) (h : a.tmps.getD t undef = .slice A n c) (ho : o.op = .call { callee := .builtin .len, args := #[.tmp t], argTypes := #[24] }) : (execOp a.eval o).run Try.prog w = .ok (.value (.int .i64 n)) w := by
  unfold execOp; rw [ho]; simp [go_sem, tg h]
theorem ex_cutL (t s : Tmp) (A : Option Addr) (n c m : Nat) (hm : m ≤ c) (h : a.tmps.getD t undef = .slice A n c) (hs : a.tmps.getD s undef = .int .i64 m) (ho : o.op = .slice 24 (.tmp t) none (some (.tmp s)) none) : (execOp a.eval o).run Try.prog w = .ok (.value (.slice A m c)) w := by
  unfold execOp; rw [ho]; simp [go_sem, tg h, tg hs]
  omega
theorem ex_appL (base : Nat) (t s : Tmp) (g : Nat) (h : a.tmps.getD t undef = .slice (some ⟨g, 0, none⟩) 0 0) (hown : w.ownsRow base 67 2 (.slice (some ⟨g, 0, none⟩) 0 0) 0 [])
    (A : Option Addr) (m c : Nat) (news : List Value) (hs : a.tmps.getD s undef = .slice A m c) (hl : news.length = m * 2) (hr : Rc w A news) (h1 : ∀ u ∈ news, u.oneCell' = true) (hm : m ≤ 1000) (hbase : base ≤ w.heap.size)
    (ho : o.op = .call { callee := .builtin .append, args := #[.tmp t, .tmp s], argTypes := #[24, 24] }) :
    ∃ v' w', (execOp a.eval o).run Try.prog w = .ok (.value v') w' ∧ w'.ownsRow base 67 2 v' m news ∧ Up w w' := by
  obtain ⟨i0, hi, hz0, hz1, hz2⟩ := info_parts lepInfo
  obtain ⟨v', w', hrun, h2, h3⟩ := append_new w Try.prog base 24 o.type 67 i0 _ 2 16 Try.underlying24 hi hz0 hz1 hz2 rfl (by decide) g hown A m c news hl hr h1 (by unfold maxLen; omega) (by omega) hbase
  refine ⟨v', w', ?_, h2, h3⟩
  have e1 : a.eval (.tmp t) = .slice (some ⟨g, 0, none⟩) 0 0 := h
  have e2 : a.eval (.tmp s) = .slice A m c := hs
  unfold execOp
  simp only [ho, resolve, invoke, builtin, Sem.run_bind, Sem.run_pure, Result.andThen_ok, List.map_toArray, List.map_cons, List.map_nil, e1, e2, hrun]
theorem ex_newB (ho : o.op = .buildSlice 25 0 #[]) : (execOp a.eval o).run Try.prog w = .ok (.value (.slice (some ⟨w.heap.size, 0, none⟩) 0 0)) (w.alloc (.cells #[] 4)) := by
  unfold execOp; rw [ho]; simp [go_sem]
theorem ex_ldB (B k : Nat) (t : Tmp) (v : Value) (h : a.tmps.getD t undef = .pointer (some ⟨B, k, none⟩)) (hc : w.cell? ⟨B, k, none⟩ = some v) (ho : o.op = .load 25 (.tmp t)) : (execOp a.eval o).run Try.prog w = .ok (.value v) w := by
  unfold execOp; rw [ho]; simp [go_sem, tg h, hc]
theorem ex_lenB (t : Tmp) (A : Option Addr) (n c : Nat) (h : a.tmps.getD t undef = .slice A n c) (ho : o.op = .call { callee := .builtin .len, args := #[.tmp t], argTypes := #[25] }) : (execOp a.eval o).run Try.prog w = .ok (.value (.int .i64 n)) w := by
  unfold execOp; rw [ho]; simp [go_sem, tg h]
theorem ex_cutB (t s : Tmp) (A : Option Addr) (n c m : Nat) (hm : m ≤ c) (h : a.tmps.getD t undef = .slice A n c) (hs : a.tmps.getD s undef = .int .i64 m) (ho : o.op = .slice 25 (.tmp t) none (some (.tmp s)) none) : (execOp a.eval o).run Try.prog w = .ok (.value (.slice A m c)) w := by
  unfold execOp; rw [ho]; simp [go_sem, tg h, tg hs]
  omega
theorem ex_appB (base : Nat) (t s : Tmp) (g : Nat) (h : a.tmps.getD t undef = .slice (some ⟨g, 0, none⟩) 0 0) (hown : w.ownsRow base 4 1 (.slice (some ⟨g, 0, none⟩) 0 0) 0 [])
    (A : Option Addr) (m c : Nat) (news : List Value) (hs : a.tmps.getD s undef = .slice A m c) (hl : news.length = m * 1) (hr : Rc w A news) (h1 : ∀ u ∈ news, u.oneCell' = true) (hm : m ≤ 1000) (hbase : base ≤ w.heap.size)
    (ho : o.op = .call { callee := .builtin .append, args := #[.tmp t, .tmp s], argTypes := #[25, 25] }) :
    ∃ v' w', (execOp a.eval o).run Try.prog w = .ok (.value v') w' ∧ w'.ownsRow base 4 1 v' m news ∧ Up w w' := by
  obtain ⟨i0, hi, hz0, hz1, hz2⟩ := info_parts bolInfo
  obtain ⟨v', w', hrun, h2, h3⟩ := append_new w Try.prog base 25 o.type 4 i0 _ 1 1 Try.underlying25 hi hz0 hz1 hz2 rfl (by decide) g hown A m c news hl hr h1 (by unfold maxLen; omega) (by omega) hbase
  refine ⟨v', w', ?_, h2, h3⟩
  have e1 : a.eval (.tmp t) = .slice (some ⟨g, 0, none⟩) 0 0 := h
  have e2 : a.eval (.tmp s) = .slice A m c := hs
  unfold execOp
  simp only [ho, resolve, invoke, builtin, Sem.run_bind, Sem.run_pure, Result.andThen_ok, List.map_toArray, List.map_cons, List.map_nil, e1, e2, hrun]
end
/-- What is known of the slots of one of the five groups. -/
def gP (base B k : Nat) (e : TypeId) (size : Nat) (A : Option Addr) (q c m : Nat) (xs : List Value) (j : Nat) (v : Value) (w : World) : Prop :=
  match j with
  | 0 => ∃ g, v = .slice (some ⟨g, 0, none⟩) 0 0 ∧ w.ownsRow base e size (.slice (some ⟨g, 0, none⟩) 0 0) 0 []
  | 1 => v = .pointer (some ⟨B, k, none⟩)
  | 2 => v = .slice A q c
  | 3 => v = .pointer (some ⟨B, k, none⟩)
  | 4 => v = .slice A q c
  | 5 => v = .int .i64 q
  | 6 => v = .int .i64 m
  | 7 => v = .slice A m c
  | _ => w.ownsRow base e size v m xs
theorem row_up {w w' : World} {base : Nat} {e : TypeId} {size : Nat} {v : Value} {n : Nat} {xs : List Value} (h : w.ownsRow base e size v n xs) (u : Up w w') : w'.ownsRow base e size v n xs :=
  World.ownsRow.kept (row := none) h ⟨u.os, u.tape, u.output, u.size, fun k hk _ => u.block k hk⟩ (by
    rcases hb : v.ownBlock with _ | k
    · exact .inl rfl
    · exact .inr (by simp))
theorem gP_up {base B k : Nat} {e : TypeId} {size : Nat} {A : Option Addr} {q c m : Nat} {xs : List Value} {j : Nat} {v : Value} {w w' : World} (h : gP base B k e size A q c m xs j v w) (u : Up w w') : gP base B k e size A q c m xs j v w' := by
  unfold gP at *
  split at h
  · obtain ⟨g, h1, h2⟩ := h; exact ⟨g, h1, row_up h2 u⟩
  · exact h
  · exact h
  · exact h
  · exact h
  · exact h
  · exact h
  · exact h
  · exact row_up h u
/-- A block of one's own: five rows of new memory. -/
def OwB (w : World) (base : Nat) (v : Value) (x : Blk) : Prop := ∃ a b c d e, v = .agg #[a, b, c, d, e] ∧ w.ownsRow base 56 3 a x.ks.length (kc x.ks) ∧ w.ownsRow base 54 2 b x.js.length (jc x.js) ∧ w.ownsRow base 67 2 c x.ls.length (lc x.ls) ∧ w.ownsRow base 4 1 d x.sd.length (oc x.sd) ∧ w.ownsRow base 4 1 e x.ut.length (oc x.ut)
theorem OwB.up {w w' : World} {base : Nat} {v : Value} {x : Blk} (h : OwB w base v x) (u : Up w w') : OwB w' base v x := by
  obtain ⟨a, b, c, d, e, hv, h1, h2, h3, h4, h5⟩ := h
  exact ⟨a, b, c, d, e, hv, row_up h1 u, row_up h2 u, row_up h3 u, row_up h4 u, row_up h5 u⟩
theorem row_sl {w : World} {base : Nat} {e : TypeId} {size : Nat} {v : Value} {n : Nat} {xs : List Value} (h : w.ownsRow base e size v n xs) : Sl w v n xs := by
  rcases h.2 with ⟨rfl, h0⟩ | ⟨g, cap, cur, rfl, _, _, h1, h2, _⟩
  · have e : xs = [] := List.eq_nil_of_length_eq_zero (by rw [h.1, h0, Nat.zero_mul])
    subst e; subst h0
    exact ⟨none, 0, rfl, Nat.le_refl _, Nat.zero_le _, Rc.nil _ _⟩
  · refine ⟨_, _, rfl, h1, h2, fun _ => ⟨g, 0, rfl, fun i v hi => ?_⟩⟩
    have := h.cells (g := g) rfl i v hi
    have ea : (⟨g, 0, none⟩ : Addr).add i = ⟨g, 0 + i, none⟩ := by unfold Addr.add; split <;> simp_all
    rw [ea] at this; exact this
theorem OwB.rd {w : World} {base : Nat} {v : Value} {x : Blk} (h : OwB w base v x) : BkR w v x := by
  obtain ⟨a, b, c, d, e, hv, h1, h2, h3, h4, h5⟩ := h
  exact ⟨a, b, c, d, e, hv, row_sl h1, row_sl h2, row_sl h3, row_sl h4, row_sl h5⟩
/-- The block, cut, its names not yet. -/
def cut5 (x : Blk) : Blk := ⟨x.ks.take 40, x.js.take 100, x.ls.take 50, x.sd.take 40, x.ut.take 40⟩
/-- What is known of each slot. -/
def fG (base B : Nat) (A0 A1 A2 A3 A4 : Option Addr) (c0 c1 c2 c3 c4 : Nat) (x : Blk) (t : Tmp) (v : Value) (w : World) : Prop :=
  if t = 3 then ∃ b, v = .pointer (some ⟨b, 0, none⟩) ∧ base ≤ b ∧ w.heap[b]? = some (.cells #[.slice none 0 0, .slice none 0 0, .slice none 0 0, .slice none 0 0, .slice none 0 0] 27 (0, 0))
  else if t = 50 then OwB w base v (cut5 x)
  else if t < 14 then gP base B 0 56 3 A0 x.ks.length c0 (cut5 x).ks.length (kc (cut5 x).ks) (t - 5) v w
  else if t < 23 then gP base B 1 54 2 A1 x.js.length c1 (cut5 x).js.length (jc (cut5 x).js) (t - 14) v w
  else if t < 32 then gP base B 2 67 2 A2 x.ls.length c2 (cut5 x).ls.length (lc (cut5 x).ls) (t - 23) v w
  else if t < 41 then gP base B 3 4 1 A3 x.sd.length c3 (cut5 x).sd.length (oc (cut5 x).sd) (t - 32) v w
  else gP base B 4 4 1 A4 x.ut.length c4 (cut5 x).ut.length (oc (cut5 x).ut) (t - 41) v w
theorem fG_up {base B : Nat} {A0 A1 A2 A3 A4 : Option Addr} {c0 c1 c2 c3 c4 : Nat} {x : Blk} (t : Tmp) (v : Value) (w w' : World) (h : fG base B A0 A1 A2 A3 A4 c0 c1 c2 c3 c4 x t v w) (u : Up w w') : fG base B A0 A1 A2 A3 A4 c0 c1 c2 c3 c4 x t v w' := by
  unfold fG at *
  by_cases t3 : t = 3
  · rw [if_pos t3] at h ⊢
    obtain ⟨b, h1, h2, h3⟩ := h
    refine ⟨b, h1, h2, ?_⟩
    have lt : b < w.heap.size := by
      rcases Nat.lt_or_ge b w.heap.size with g | g
      · exact g
      · rw [Array.getElem?_eq_none g] at h3; cases h3
    rw [u.block b lt]; exact h3
  rw [if_neg t3] at h ⊢
  by_cases t50 : t = 50
  · rw [if_pos t50] at h ⊢; exact h.up u
  rw [if_neg t50] at h ⊢
  by_cases t14 : t < 14
  · rw [if_pos t14] at h ⊢; exact gP_up h u
  rw [if_neg t14] at h ⊢
  by_cases t23 : t < 23
  · rw [if_pos t23] at h ⊢; exact gP_up h u
  rw [if_neg t23] at h ⊢
  by_cases t32 : t < 32
  · rw [if_pos t32] at h ⊢; exact gP_up h u
  rw [if_neg t32] at h ⊢
  by_cases t41 : t < 41
  · rw [if_pos t41] at h ⊢; exact gP_up h u
  rw [if_neg t41] at h ⊢
  exact gP_up h u
theorem one_kc (ks : List Knd) : ∀ u ∈ kc ks, u.oneCell' = true := fun u hu => by
  obtain ⟨k, _, hk⟩ := List.mem_flatMap.1 hu
  simp only [List.mem_cons, List.not_mem_nil, or_false] at hk
  rcases hk with rfl | rfl | rfl <;> rfl
theorem one_jc (ks : List Jmp) : ∀ u ∈ jc ks, u.oneCell' = true := fun u hu => by
  obtain ⟨k, _, hk⟩ := List.mem_flatMap.1 hu
  simp only [List.mem_cons, List.not_mem_nil, or_false] at hk
  rcases hk with rfl | rfl <;> rfl
theorem one_lc (ks : List Lep) : ∀ u ∈ lc ks, u.oneCell' = true := fun u hu => by
  obtain ⟨k, _, hk⟩ := List.mem_flatMap.1 hu
  simp only [List.mem_cons, List.not_mem_nil, or_false] at hk
  rcases hk with rfl | rfl <;> rfl
theorem one_oc (ks : List Bool) : ∀ u ∈ oc ks, u.oneCell' = true := fun u hu => by
  obtain ⟨k, _, rfl⟩ := List.mem_map.1 hu
  rfl
theorem Rc.pre {w : World} {A : Option Addr} {a b : List Value} (h : Rc w A (a ++ b)) : Rc w A a := fun h0 => by
  obtain ⟨g, o, e, hc⟩ := h (by rw [List.length_append]; omega)
  exact ⟨g, o, e, fun i v hi => hc i v (by rw [List.getElem?_append_left (by rcases Nat.lt_or_ge i a.length with k | k; exact k; rw [List.getElem?_eq_none k] at hi; cases hi)]; exact hi)⟩
theorem Rc.takeK {w : World} {A : Option Addr} {l : List Knd} (h : Rc w A (kc l)) (n : Nat) : Rc w A (kc (l.take n)) := Rc.pre (b := kc (l.drop n)) (by rw [← kc_append, List.take_append_drop]; exact h)
theorem Rc.takeJ {w : World} {A : Option Addr} {l : List Jmp} (h : Rc w A (jc l)) (n : Nat) : Rc w A (jc (l.take n)) := Rc.pre (b := jc (l.drop n)) (by rw [← jc_append, List.take_append_drop]; exact h)
theorem Rc.takeL {w : World} {A : Option Addr} {l : List Lep} (h : Rc w A (lc l)) (n : Nat) : Rc w A (lc (l.take n)) := Rc.pre (b := lc (l.drop n)) (by rw [← lc_append, List.take_append_drop]; exact h)
theorem Rc.takeB {w : World} {A : Option Addr} {l : List Bool} (h : Rc w A (oc l)) (n : Nat) : Rc w A (oc (l.take n)) := Rc.pre (b := oc (l.drop n)) (by rw [← oc_append, List.take_append_drop]; exact h)
end Go.Proofs.Ytoijaananjlfpaa
