/-
  Single operations of regions that draw their order, for the rules of XLcMid, XLcLat and XLcTwo.
-/
import Derived.Test.YtaljddoenjgbfaaGreatLcFewG
import Derived.Test.YtaljddoenjgbfaaGreatLcMm
import Derived.Test.YtaljddoenjgbfaaGreatLcMh
namespace Go.Proofs.YtaljddoenjgbfaaGreat
open Go.ChangeShapes Go.WideShapes Go.ChangeAt Go.RowKit Lc

section
variable (w : World) (a : Act) (o : Oper)
set_option maxRecDepth 100000 in
theorem ex_mov (t : Tmp) (v : Value) (h : a.tmps.getD t undef = v) (ho : o.op = .move (.tmp t)) : (execOp a.eval o).run Tryz.prog w = .ok (.value v) w := by
  unfold execOp; rw [ho]; simp [go_sem, tg h]
set_option maxRecDepth 100000 in
theorem ex_asg (t : Tmp) (v : Value) (h : a.tmps.getD t undef = v) (ho : o.op = .assign (.tmp t)) : (execOp a.eval o).run Tryz.prog w = .ok (.value v) w := by
  unfold execOp; rw [ho]; simp [go_sem, tg h]
set_option maxRecDepth 100000 in
theorem ex_ext0 (t : Tmp) (v u : Value) (h : a.tmps.getD t undef = .tuple #[v, u]) (ho : o.op = .extract (.tmp t) 0) : (execOp a.eval o).run Tryz.prog w = .ok (.value v) w := by
  unfold execOp; rw [ho]; simp [go_sem, tg h]
set_option maxRecDepth 100000 in
theorem ex_ext1 (t : Tmp) (v u : Value) (h : a.tmps.getD t undef = .tuple #[v, u]) (ho : o.op = .extract (.tmp t) 1) : (execOp a.eval o).run Tryz.prog w = .ok (.value u) w := by
  unfold execOp; rw [ho]; simp [go_sem, tg h]
set_option maxRecDepth 100000 in
theorem ex_ldH (t : Tmp) (b : Nat) (x0 x1 x2 x3 x4 x5 x6 : Int) (h : a.tmps.getD t undef = .pointer (some ⟨b, 0, none⟩)) (hc : HBox w b x0 x1 x2 x3 x4 x5 x6) (ho : o.op = .load 90 (.tmp t)) : (execOp a.eval o).run Tryz.prog w = .ok (.value (hv x0 x1 x2 x3 x4 x5 x6)) w := by
  obtain ⟨c0, c1, c2, c3, c4, c5, c6⟩ := hc
  unfold execOp; rw [ho]; simp [go_sem, tg h, c0, c1, c2, c3, c4, c5, c6]
set_option maxRecDepth 100000 in
theorem ex_newU (ho : o.op = .buildSlice 32 0 #[]) : (execOp a.eval o).run Tryz.prog w = .ok (.value (.slice (some ⟨w.heap.size, 0, none⟩) 0 0)) (w.alloc (.cells #[] 5)) := by
  unfold execOp; rw [ho]; simp [go_sem]
set_option maxRecDepth 100000 in
theorem ex_lenU (t : Tmp) (A : Option Addr) (n c : Nat) (h : a.tmps.getD t undef = .slice A n c) (ho : o.op = .call { callee := .builtin .len, args := #[.tmp t], argTypes := #[32] }) : (execOp a.eval o).run Tryz.prog w = .ok (.value (.int .i64 n)) w := by
  unfold execOp; rw [ho]; simp [go_sem, tg h]
set_option maxRecDepth 100000 in
theorem ex_sub1 (t : Tmp) (n : Nat) (hn : 1 ≤ n) (hm : n ≤ 1000000) (h : a.tmps.getD t undef = .int .i64 n) (ho : o.op = .binOp .sub 3 (.tmp t) (.const (.int .i64 1)) 3) : (execOp a.eval o).run Tryz.prog w = .ok (.value (.int .i64 ((n - 1 : Nat) : Int))) w := by
  have ww : IntKind.i64.wrap ((n : Int) - 1) = ((n - 1 : Nat) : Int) := by rw [IntWalk.i64_in _ (by omega)]; omega
  unfold execOp; rw [ho]; simp [go_sem, tg h, ww]
set_option maxRecDepth 100000 in
theorem ex_cutU (t s : Tmp) (A : Option Addr) (n c m : Nat) (hm : m ≤ c) (h : a.tmps.getD t undef = .slice A n c) (hs : a.tmps.getD s undef = .int .i64 m) (ho : o.op = .slice 32 (.tmp t) none (some (.tmp s)) none) : (execOp a.eval o).run Tryz.prog w = .ok (.value (.slice A m c)) w := by
  unfold execOp; rw [ho]; simp [go_sem, tg h, tg hs]
  omega
set_option maxRecDepth 100000 in
/-- A run's end as a step. -/
theorem wp_run {v : Value} {w' : World} {K : Act → World → Prop} {Q : Exit → Act → World → Prop} (h : (execOp a.eval o).run Tryz.prog w = .ok (.value v) w') (k : K (a.put o.dst v) w') : o.wp Tryz.prog a w K Q := by
  unfold Oper.wp; rw [h, Oper.upon_value]; exact k
set_option maxRecDepth 100000 in
theorem call_dec (args : Array Value) (w : World) : (callFunc 70 args).run Tryz.prog w = .ok (.enter 70 args) w := by
  unfold callFunc
  simp only [Sem.run_bind, run_program, Result.andThen_ok, Tryz.func70]
  rfl
set_option maxRecDepth 100000 in
/-- A call of a Go function with three arguments. -/
theorem wp_call3 (f : FuncId) (hf : ∀ args w, (callFunc f args).run Tryz.prog w = .ok (.enter f args) w) (t1 t2 t3 : Tmp) (v1 v2 v3 : Value) (tys : Array TypeId) (ho : o.op = .call { callee := .value (.func f), args := #[.tmp t1, .tmp t2, .tmp t3], argTypes := tys }) (h1 : a.tmps.getD t1 undef = v1) (h2 : a.tmps.getD t2 undef = v2) (h3 : a.tmps.getD t3 undef = v3)
    {K : Act → World → Prop} {Q : Exit → Act → World → Prop} (c : Calls Tryz.prog f #[v1, v2, v3] w fun e w' => ∃ v, e = .returned v ∧ K (a.put o.dst v) w') : o.wp Tryz.prog a w K Q := by
  unfold Oper.wp execOp
  rw [ho]
  simp [go_sem, tg h1, tg h2, tg h3]
  rw [hf, Oper.upon_enter]
  exact c.mono fun e w' ⟨v, he, hk⟩ => by subst he; exact hk
end
end Go.Proofs.YtaljddoenjgbfaaGreat
