/-
  The document's block: truth.
-/
import Derived.Test.YtaljddoenjgbfaaGreatLcMs
namespace Go.Proofs.YtaljddoenjgbfaaGreat
open Go.ChangeShapes Go.WideShapes Go.ChangeAt Go.RowKit Lc

set_option maxRecDepth 100000 in
set_option maxHeartbeats 1000000 in
theorem dtruth_any (base : Nat) (w : World) (v : Value) (l : List UInt8) (is : Bool) (hb : base ≤ w.heap.size) (ho : Ow w base v l) (hl : l.length ≤ 1000000) :
    Calls Tryz.prog 50 #[v, .bool is] w fun e w' => ∃ v', e = .returned v' ∧ Ow w' base v' (l ++ [mkB is]) ∧ w.grownBy w' v.ownBlock := by
  have HO := Lib.hid ho
  clear ho
  cases is
  · go_enter Tryz.func50, Tryz.ntmps50
    go_wp2_with (at_builtin; refine wpList_append_bytes _ rfl _ _ rfl base _ l rfl (HO.out.up (Up.alloc _ _)) (some ⟨w.heap.size, 0, none⟩) [0] 1 1 rfl rfl (Rd.one _ _ _ _ ?e1) ?e2 ?e3 ?_)
    case e1 => rfl
    case e2 => simp; omega
    case e3 => simp; omega
    intro v2 w2 ho2 hg2 _
    have G2 := Lib.hid (((Up.alloc w (.cells #[.int .u8 0] 5)).gb v.ownBlock).trans hg2)
    have O2 := Lib.hid ho2
    clear ho2 hg2
    go_wp2_with fail
    go_ret
    exact ⟨_, rfl, O2.out, G2.out⟩
  · go_enter Tryz.func50, Tryz.ntmps50
    go_wp2_with (at_builtin; refine wpList_append_bytes _ rfl _ _ rfl base _ l rfl (HO.out.up (Up.alloc _ _)) (some ⟨w.heap.size, 0, none⟩) [1] 1 1 rfl rfl (Rd.one _ _ _ _ ?e1) ?e2 ?e3 ?_)
    case e1 => rfl
    case e2 => simp; omega
    case e3 => simp; omega
    intro v2 w2 ho2 hg2 _
    have G2 := Lib.hid (((Up.alloc w (.cells #[.int .u8 1] 5)).gb v.ownBlock).trans hg2)
    have O2 := Lib.hid ho2
    clear ho2 hg2
    go_wp2_with fail
    go_ret
    exact ⟨_, rfl, O2.out, G2.out⟩
end Go.Proofs.YtaljddoenjgbfaaGreat
