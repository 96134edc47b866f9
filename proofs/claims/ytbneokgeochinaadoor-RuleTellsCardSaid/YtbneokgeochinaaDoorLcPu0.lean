/-
  A rule loaded, and stored, whole.
-/
import Derived.Test.YtbneokgeochinaaDoorLcRj0
import Derived.Laws.Tables
import Derived.Laws.Cells
namespace Go.Proofs.YtbneokgeochinaaDoor
open Go.ChangeShapes Go.WideShapes Go.ChangeAt Go.RowKit Lc

/-- The world behind the store of a rule. -/
def PutR (V : World) (k : Nat) (r : Ru) : World := V.setRow k (rA r)
theorem putR_bk {V : World} {k : Nat} {z r : Ru} {T : TypeId} (h : Bk V k (rA z) T) : Bk (PutR V k r) k (rA r) T :=
  ⟨setRow_heap V k (rA z) _ T _ h.1, h.2⟩
theorem putR_far {V : World} {k j : Nat} {r : Ru} (n : j ≠ k) : (PutR V k r).heap[j]? = V.heap[j]? := by
  unfold PutR World.setRow
  show (V.heap.modify k _)[j]? = V.heap[j]?
  rw [Array.getElem?_modify, if_neg (fun e => n e.symm)]
theorem putR_size {V : World} {k : Nat} {r : Ru} : (PutR V k r).heap.size = V.heap.size := by
  unfold PutR World.setRow
  show (V.heap.modify k _).size = _
  rw [Array.size_modify]
theorem putR_oth {V : World} {k j : Nat} {cs : Array Value} {T : TypeId} {r : Ru} (h : Bk V j cs T) (n : j ≠ k) : Bk (PutR V k r) j cs T :=
  ⟨by rw [putR_far n]; exact h.1, h.2⟩
theorem putR_up {w V : World} {k : Nat} {r : Ru} (h : Up w V) (n : w.heap.size ≤ k) : Up w (PutR V k r) :=
  ⟨h.os, h.tape, h.output, by rw [putR_size]; exact h.size, fun j hj => by rw [putR_far (by omega)]; exact h.block j hj⟩
theorem tmp_get {a : Act} {t : Tmp} {v : Value} (h : a.tmps.getD t undef = v) : a.tmps[t]?.getD undef = v := by simpa [Array.getD_eq_getD_getElem?] using h
theorem tmps_get {a : Array Value} {t : Tmp} {v : Value} (h : a.getD t undef = v) : a[t]?.getD undef = v := by simpa [Array.getD_eq_getD_getElem?] using h
theorem ld_cells {w : World} {k : Nat} {r : Ru} {T : TypeId} (hc : Bk w k (rA r) T) : (loadCellsFrom ⟨k, 0, none⟩ 0 17 #[]).run Tryd.prog w = .ok (rA r) w := by
  have L : (loadCells ⟨k, 0, none⟩ 17).run Tryd.prog w = .ok (rA r).toList.toArray w := run_loadCells_list (P := Tryd.prog) w ⟨k, 0, none⟩ (rA r).toList (fun j v hj => by
    have e : (⟨k, 0, none⟩ : Addr).add j = ⟨k, 0 + j, none⟩ := by unfold Addr.add; split <;> simp_all
    rw [e, Nat.zero_add, hc.cell j]
    simpa using hj)
  rw [Array.toArray_toList] at L
  exact L
theorem ld_rule {w : World} {k : Nat} {r : Ru} {T : TypeId} (hc : Bk w k (rA r) T) : (loadVar 27 ⟨k, 0, none⟩).run Tryd.prog w = .ok (.agg (rA r)) w := by
  have L := ld_cells hc
  unfold loadVar loadCells
  simp only [Sem.run_bind, Tryd.isAgg27, Result.andThen_ok, if_true, Tryd.sizeOf27, L, Sem.run_pure]
theorem st_cells {w : World} {k : Nat} {z r : Ru} {T : TypeId} (hc : Bk w k (rA z) T) : (storeCells ⟨k, 0, none⟩ (rA r).toList).run Tryd.prog w = .ok () (PutR w k r) := by
  have S := run_storeCells_from (P := Tryd.prog) k T (rA r).toList 0 (rA z) w hc.1 rfl (by unfold rA; simp [Value.oneCell'])
  rw [S]
  unfold PutR
  simp
theorem st_rule {w : World} {k : Nat} {z r : Ru} {T : TypeId} (hc : Bk w k (rA z) T) : (storeVar 27 ⟨k, 0, none⟩ (.agg (rA r))).run Tryd.prog w = .ok () (PutR w k r) := by
  have S := run_storeCells_from (P := Tryd.prog) k T (rA r).toList 0 (rA z) w hc.1 rfl (by unfold rA; simp [Value.oneCell'])
  have e : (Value.agg (rA r)).cells = rA r := rfl
  have n : ¬ ((rA r).size ≠ 17) := fun h => h rfl
  unfold storeVar
  simp only [Sem.run_bind, Tryd.sizeOf27, Result.andThen_ok, e, Sem.run_ite, if_neg n]
  rw [S]
  unfold PutR
  simp
theorem ex_ldRu (w : World) (a : Act) (o : Oper) (t : Tmp) (k : Nat) (r : Ru) (T : TypeId) (h : a.tmps.getD t undef = .pointer (some ⟨k, 0, none⟩)) (hc : Bk w k (rA r) T) (ho : o.op = .load 27 (.tmp t)) : (execOp a.eval o).run Tryd.prog w = .ok (.value (.agg (rA r))) w := by
  have L := ld_cells hc
  unfold execOp; rw [ho]
  simp only [go_sem]
  rw [h]
  simp only [Sem.run_bind, Tryd.isAgg27, Result.andThen_ok, if_true, Tryd.sizeOf27, L, Sem.run_pure]
theorem wp_stRu (w : World) (a : Act) (o : Oper) (t s : Tmp) (k : Nat) (z r : Ru) (T : TypeId) (h3 : a.tmps.getD t undef = .pointer (some ⟨k, 0, none⟩)) (h50 : a.tmps.getD s undef = .agg (rA r)) (hx : Bk w k (rA z) T) (hd : o.dst = none) (ho : o.op = .store 27 (.tmp t) (.tmp s))
    {K : Act → World → Prop} {Q : Exit → Act → World → Prop} (kk : K a (PutR w k r)) : o.wp Tryd.prog a w K Q := by
  have S : (storeCells ⟨k, 0, none⟩ (rA r).toList).run Tryd.prog w = .ok () (PutR w k r) := by
    have S := run_storeCells_from (P := Tryd.prog) k T (rA r).toList 0 (rA z) w hx.1 rfl (by unfold rA; simp [Value.oneCell'])
    rw [S]
    unfold PutR
    simp
  have e : (Value.agg (rA r)).cells = rA r := rfl
  have n : ¬ ((rA r).size ≠ 17) := fun h => h rfl
  unfold Oper.wp execOp
  rw [ho]
  simp only [go_sem, h3, h50, Sem.run_bind, Tryd.sizeOf27, Result.andThen_ok, Sem.run_ite, if_neg n, S, Sem.run_pure]
  simpa [Oper.upon, Act.put, hd] using kk
theorem wp_run {w : World} {a : Act} {o : Oper} {v : Value} {w' : World} {K : Act → World → Prop} {Q : Exit → Act → World → Prop} (h : (execOp a.eval o).run Tryd.prog w = .ok (.value v) w') (k : K (a.put o.dst v) w') : o.wp Tryd.prog a w K Q := by
  unfold Oper.wp; rw [h, Oper.upon_value]; exact k
theorem res_one (fn : Func) (t : Tmp) (h : fn.results = #[.cell t 27]) (tmps : Array Value) (w : World) (k : Nat) (r : Ru) (T : TypeId) (hb : tmps.getD t undef = .pointer (some ⟨k, 0, none⟩)) (hc : Bk w k (rA r) T) : (results fn tmps).run Tryd.prog w = .ok (.agg (rA r)) w := by
  have hb' := tmps_get hb
  simp [results, h, hb', asAddr, ld_rule hc]
theorem res_mix (fn : Func) (t u : Tmp) (h : fn.results = #[.cell t 27, .tmp u]) (tmps : Array Value) (w : World) (k : Nat) (r : Ru) (v : Value) (T : TypeId) (hb : tmps.getD t undef = .pointer (some ⟨k, 0, none⟩)) (hu : tmps.getD u undef = v) (hc : Bk w k (rA r) T) : (results fn tmps).run Tryd.prog w = .ok (.tuple #[.agg (rA r), v]) w := by
  have hb' := tmps_get hb
  have hu' := tmps_get hu
  simp [results, h, hb', hu', asAddr, ld_rule hc]
/-- A rule loaded at the head of a region. -/
theorem wpList_ld {ops : Array Oper} {rest : List Oper} {o : Oper} {a : Act} {w : World} {Q : Exit → Act → World → Prop} (hg : o.guard = none) (t : Tmp) (k : Nat) (r : Ru) (T : TypeId) (h : a.tmps.getD t undef = .pointer (some ⟨k, 0, none⟩)) (hc : Bk w k (rA r) T) (ho : o.op = .load 27 (.tmp t))
    (kk : wpList Tryd.prog ops Q rest (a.put o.dst (.agg (rA r))) w) : wpList Tryd.prog ops Q (o :: rest) a w :=
  wpList_plain hg fun _ hK => wp_run (ex_ldRu w a o t k r T h hc ho) (hK _ _ kk)
theorem wpList_st {ops : Array Oper} {rest : List Oper} {o : Oper} {a : Act} {w : World} {Q : Exit → Act → World → Prop} (hg : o.guard = none) (t s : Tmp) (k : Nat) (z r : Ru) (T : TypeId) (h : a.tmps.getD t undef = .pointer (some ⟨k, 0, none⟩)) (hs : a.tmps.getD s undef = .agg (rA r)) (hc : Bk w k (rA z) T) (hd : o.dst = none) (ho : o.op = .store 27 (.tmp t) (.tmp s))
    (kk : wpList Tryd.prog ops Q rest a (PutR w k r)) : wpList Tryd.prog ops Q (o :: rest) a w :=
  wpList_plain hg fun _ hK => wp_stRu w a o t s k z r T h hs hc hd ho (hK _ _ kk)
end Go.Proofs.YtbneokgeochinaaDoor
