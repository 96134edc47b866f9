/-
  append onto a full slice of bytes, whoever made it: the row behind it is a new one.
-/
import Derived.Test.YtaljddoenjgbfaaGreatLcMa
namespace Go.Proofs.YtaljddoenjgbfaaGreat
open Go.ChangeShapes Go.WideShapes Go.ChangeAt Go.RowKit Lc

set_option maxRecDepth 100000 in
theorem run_append_full (w : World) (ty : TypeId) (A : Addr) (l : List UInt8) (p cap : Nat) (hl : l.length = p) (hr : Rd w (some A) l) (B : Option Addr) (m : List UInt8) (q c : Nat) (hq : m.length = q) (h0 : 0 < q) (hm : Rd w B m) (hf : cap < p + q) (hs : p + q ≤ 140737488355328) :
    ∃ v' w', (Builtin.append_ #[32, 32] ty #[.slice (some A) p cap, .slice B q c]).run Tryz.prog w = .ok v' w' ∧ Ow w' w.heap.size v' (l ++ m) ∧ Up w w' := by
  subst hl; subst hq
  obtain ⟨b, o, rfl, _⟩ := hm h0
  obtain ⟨i0, hi, hz0, hz1, hz2⟩ := info_parts byteInfo
  have hge := grownCap_ge w (l.length + m.length) cap 5
  have hcm : grownCap w (l.length + m.length) cap 5 ≤ maxLen := grownCap_le_maxLen w (l.length + m.length) cap _ (by unfold maxLen; omega)
  have hrun := run_append_grow (P := Tryz.prog) w 32 ty 5 i0 (.int .u8 0) Tryz.underlying32 hi hz0 A l.length cap (bc l) (by rw [bc_len, hz1, Nat.mul_one]) (hr.add A rfl) ⟨b, o, none⟩ m.length c (bc m) (by rw [bc_len, hz1, Nat.mul_one]) (hm.add _ rfl) hf (by omega) (growslice_fits hf (by rw [hz2]; omega))
  refine ⟨_, _, hrun, ?_, (Up.drewN w 1).alloc' _⟩
  refine ⟨?_, .inr ⟨w.heap.size, _, _, ?_, Nat.le_refl _, heap_alloc_new w.drew _, ?_, hcm, ?_, ?_⟩⟩
  · rw [bc_len, Nat.mul_one]
  · rw [List.length_append]
  · rw [List.length_append]; exact hge
  · simp only [Array.size_append, List.size_toArray, size_zeroCells, bc_len]
    show l.length + m.length + (_ - (l.length + m.length)) * 1 = _
    omega
  · rw [bc_append, Nat.mul_one, List.length_append]
    simp only [Array.toList_append, List.append_assoc]
    rw [← List.append_assoc]
    have e : l.length + m.length = (bc l ++ bc m).length := by rw [List.length_append, bc_len, bc_len]
    rw [e]
    exact List.take_left
set_option maxRecDepth 100000 in
theorem wpList_append_full (w : World) {ops : Array Oper} {rest : List Oper} {o : Oper} {a : Act} {Q : Exit → Act → World → Prop} (hgd : o.guard = none) (s x : Operand)
    (ho : o.op = .call { callee := .builtin .append, args := #[s, x], argTypes := #[32, 32] })
    (A : Addr) (l : List UInt8) (p cap : Nat) (hs : a.eval s = .slice (some A) p cap) (hl : l.length = p) (hr : Rd w (some A) l) (B : Option Addr) (m : List UInt8) (q c : Nat) (hx : a.eval x = .slice B q c) (hq : m.length = q) (h0 : 0 < q) (hm : Rd w B m)
    (hf : cap < p + q) (hsz : p + q ≤ 140737488355328)
    (k : ∀ v' w', Ow w' w.heap.size v' (l ++ m) → Up w w' → wpList Tryz.prog ops Q rest (a.put o.dst v') w') : wpList Tryz.prog ops Q (o :: rest) a w := by
  refine wpList_plain hgd fun K hK => ?_
  obtain ⟨v', w', hrun, h2, h3⟩ := run_append_full w o.type A l p cap hl hr B m q c hq h0 hm hf hsz
  unfold Oper.wp execOp
  simp only [ho, resolve, invoke, builtin, Sem.run_bind, Sem.run_pure, Result.andThen_ok, List.map_toArray, List.map_cons, List.map_nil, hs, hx, hrun]
  exact hK _ _ (k v' w' h2 h3)
end Go.Proofs.YtaljddoenjgbfaaGreat
