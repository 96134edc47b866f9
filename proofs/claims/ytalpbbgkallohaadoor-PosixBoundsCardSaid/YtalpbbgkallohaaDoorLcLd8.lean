/-
  A rule loaded inside a region, under a guard.
-/
import Derived.Test.YtalpbbgkallohaaDoorLcPu
import Derived.BigFrame
namespace Go.Proofs.YtalpbbgkallohaaDoor
open Go.ChangeShapes Go.WideShapes Go.ChangeAt Go.RowKit Lc

theorem wpList_ldg {ops : Array Oper} {rest : List Oper} {o : Oper} {a : Act} {w : World} {Q : Exit → Act → World → Prop} (hw : Region.wanted o (yielded ops a.tmps) = true) (t : Tmp) (k : Nat) (r : Ru) (T : TypeId) (h : a.tmps.getD t undef = .pointer (some ⟨k, 0, none⟩)) (hc : Bk w k (rA r) T) (ho : o.op = .load 27 (.tmp t))
    (kk : wpList Tryd.prog ops Q rest (a.put o.dst (.agg (rA r))) w) : wpList Tryd.prog ops Q (o :: rest) a w :=
  BigFrame.wpList_want hw fun _ hK => wp_run (ex_ldRu w a o t k r T h hc ho) (hK _ _ kk)
end Go.Proofs.YtalpbbgkallohaaDoor
