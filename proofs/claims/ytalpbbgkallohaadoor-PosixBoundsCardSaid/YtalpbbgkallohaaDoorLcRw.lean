/-
  A text read whole: whole.
-/
import Derived.Test.YtalpbbgkallohaaDoorLcRr
import Derived.Test.YtalpbbgkallohaaDoorLcRk
import Derived.Test.YtalpbbgkallohaaDoorLcGd
import Derived.Deep.Cut
import Derived.RegionTactic
import Derived.Deep.RegionHeld
namespace Go.Proofs.YtalpbbgkallohaaDoor
open Go.ChangeShapes Go.WideShapes Go.ChangeAt Go.RowKit Lc

theorem nameT_ge (l : List UInt8) : l.length ≤ (nameT l).length := by
  unfold nameT
  split
  · exact Nat.le_refl _
  · simp; omega
theorem nameP_len {l m t : List UInt8} (h : nameP l = some (m, t)) : m.length ≤ l.length ∧ t.length ≤ l.length := by
  obtain ⟨p, rfl, h1⟩ := nameP_some h
  have := nameT_ge m
  simp; omega
theorem ruleP_len {wide : Bool} {l t : List UInt8} {r : Ru} (h : ruleP wide l = some (r, t)) : r.std.name.length ≤ l.length ∧ r.dst.name.length ≤ l.length := by
  unfold ruleP at h
  split at h
  · cases h
  · rename_i m t0 e0
    have h0 := nameP_len e0
    split at h
    · cases h
    · rename_i o t1 e1
      obtain ⟨q, e1', _⟩ := offP_some e1
      have ht1 : t1.length ≤ t0.length := by rw [e1']; simp
      split at h
      · simp only [Option.some.injEq, Prod.mk.injEq] at h
        obtain ⟨rfl, rfl⟩ := h
        exact ⟨h0.1, by simp [kd0]⟩
      · split at h
        · cases h
        · rename_i m2 t2 e2
          have h2 := nameP_len e2
          split at h
          · cases h
          · split at h
            · cases h
            · simp only [Option.some.injEq, Prod.mk.injEq] at h
              obtain ⟨rfl, rfl⟩ := h
              exact ⟨h0.1, by simp only; omega⟩
set_option maxRecDepth 100000 in
set_option maxHeartbeats 8000000 in
theorem whole_no1 (b : Nat) (wide : Bool) (l : List UInt8) (w : World) (h : In w b l wide) (q : ruleP wide l = none) :
    Calls Tryd.prog 49 #[.pointer (some ⟨b, 0, none⟩)] w fun e w' => e = .panicked pn4 ∧ Gb b w w' := by
  have u := Up.alloc w (.cells (rA ru0) 27)
  have RN := rule_no (h.up u) q
  have U := Lib.hid (Gb.of (b := b) u)
  clear q h u
  unfold rA ru0 kd0 ch0 at *
  go_enter Tryd.func49, Tryd.ntmps49
  go_wp2_with fail
  refine RN.mono ?_
  rintro e w1 ⟨rfl, g1⟩
  go_wp2_with fail
  exact ⟨rfl, rfl, U.out.trans g1⟩

/-! ### The drawn region -/
theorem tmp_some {a : Act} {t : Tmp} {x : Bool} (h : a.tmps.getD t undef = .bool x) : a.tmps[t]? = some (.bool x) := by
  rw [Array.getD_eq_getD_getElem?] at h
  cases e : a.tmps[t]? with
  | none => rw [e] at h; cases h
  | some v => rw [e] at h; exact congrArg some h
section
variable (w : World) (a : Act) (o : Oper)
theorem put_get (a : Act) (d t : Tmp) (v : Value) (h : d ≠ t) : (a.put (some d) v).tmps.getD t undef = a.tmps.getD t undef := by
  simp [Act.put, Array.getD_eq_getD_getElem?, Array.getElem?_setIfInBounds_ne h]
theorem put_same (a : Act) (d : Tmp) (v : Value) (h : d < a.tmps.size) : (a.put (some d) v).tmps.getD d undef = v := by
  simp [Act.put, Array.getD_eq_getD_getElem?, Array.getElem?_setIfInBounds_self_of_lt h]
theorem ex_mov (t : Tmp) (v : Value) (h : a.tmps.getD t undef = v) (ho : o.op = .move (.tmp t)) : (execOp a.eval o).run Tryd.prog w = .ok (.value v) w := by
  unfold execOp; rw [ho]; simp [go_sem, tmp_get h]
theorem ex_nil (t : Tmp) (k : Nat) (h : a.tmps.getD t undef = .pointer (some ⟨k, 0, none⟩)) (ho : o.op = .nilCheck (.tmp t)) : (execOp a.eval o).run Tryd.prog w = .ok (.value (.pointer (some ⟨k, 0, none⟩))) w := by
  unfold execOp; rw [ho]; simp [go_sem, tmp_get h]
theorem ex_fld (t : Tmp) (k j : Nat) (hj : j = 0 ∨ j = 1) (h : a.tmps.getD t undef = .pointer (some ⟨k, 0, none⟩)) (ho : o.op = .fieldAddr 78 (.tmp t) j) : (execOp a.eval o).run Tryd.prog w = .ok (.value (.pointer (some ⟨k, j, none⟩))) w := by
  rcases hj with rfl | rfl
  all_goals (unfold execOp; rw [ho]; go_simp)
theorem ex_lds (t : Tmp) (k j : Nat) (x : ByteArray) (h : a.tmps.getD t undef = .pointer (some ⟨k, j, none⟩)) (hc : w.cell? ⟨k, j, none⟩ = some (.string x)) (ho : o.op = .load 9 (.tmp t)) : (execOp a.eval o).run Tryd.prog w = .ok (.value (.string x)) w := by
  unfold execOp; rw [ho]; simp [go_sem, tmp_get h, hc]
theorem ex_ldb (t : Tmp) (k j : Nat) (x : Bool) (h : a.tmps.getD t undef = .pointer (some ⟨k, j, none⟩)) (hc : w.cell? ⟨k, j, none⟩ = some (.bool x)) (ho : o.op = .load 4 (.tmp t)) : (execOp a.eval o).run Tryd.prog w = .ok (.value (.bool x)) w := by
  unfold execOp; rw [ho]; simp [go_sem, tmp_get h, hc]
theorem ex_neq0 (t : Tmp) (l : List UInt8) (x : Bool) (hx : (!(tx l).toList.isEmpty) = x) (h : a.tmps.getD t undef = .string (tx l)) (ho : o.op = .binOp .neq 9 (.tmp t) (.const (.string ⟨#[]⟩)) 9) : (execOp a.eval o).run Tryd.prog w = .ok (.value (.bool x)) w := by
  subst hx
  unfold execOp; rw [ho]; simp [go_sem, tmp_get h]
theorem ex_not (t : Tmp) (x : Bool) (h : a.tmps.getD t undef = .bool x) (ho : o.op = .unOp .not 4 (.tmp t)) : (execOp a.eval o).run Tryd.prog w = .ok (.value (.bool (!x))) w := by
  unfold execOp; rw [ho]; simp [go_sem, tmp_get h]
theorem ex_pick1 (t s : Tmp) (h : a.tmps.getD t undef = .bool true) (ho : o.op = .pick (.tmp t) (.const (.bool true)) (.tmp s)) : (execOp a.eval o).run Tryd.prog w = .ok (.value (.bool true)) w := by
  unfold execOp; rw [ho]; simp [go_sem, tmp_get h]
theorem ex_pick0 (t s : Tmp) (v : Value) (h : a.tmps.getD t undef = .bool false) (hs : a.tmps.getD s undef = v) (ho : o.op = .pick (.tmp t) (.const (.bool true)) (.tmp s)) : (execOp a.eval o).run Tryd.prog w = .ok (.value v) w := by
  unfold execOp; rw [ho]; simp [go_sem, tmp_get h, tmp_get hs]
theorem call_right (args : Array Value) (w : World) : (callFunc 16 args).run Tryd.prog w = .ok (.enter 16 args) w := by
  unfold callFunc
  simp only [Sem.run_bind, run_program, Result.andThen_ok, Tryd.func16]
  rfl
theorem call_refuse (args : Array Value) (w : World) : (callFunc 59 args).run Tryd.prog w = .ok (.enter 59 args) w := by
  unfold callFunc
  simp only [Sem.run_bind, run_program, Result.andThen_ok, Tryd.func59]
  rfl
theorem wp_call2 (f : FuncId) (hf : ∀ args w, (callFunc f args).run Tryd.prog w = .ok (.enter f args) w) (t1 t2 : Tmp) (v1 v2 : Value) (tys : Array TypeId) (ho : o.op = .call { callee := .value (.func f), args := #[.tmp t1, .tmp t2], argTypes := tys }) (h1 : a.tmps.getD t1 undef = v1) (h2 : a.tmps.getD t2 undef = v2)
    {K : Act → World → Prop} {Q : Exit → Act → World → Prop} (c : Calls Tryd.prog f #[v1, v2] w fun e w' => ∃ v, e = .returned v ∧ K (a.put o.dst v) w') : o.wp Tryd.prog a w K Q := by
  unfold Oper.wp execOp
  rw [ho]
  simp [go_sem, tmp_get h1, tmp_get h2]
  rw [hf, Oper.upon_enter]
  exact c.mono fun e w' ⟨v, he, hk⟩ => by subst he; exact hk
theorem wp_call1 (f : FuncId) (hf : ∀ args w, (callFunc f args).run Tryd.prog w = .ok (.enter f args) w) (t1 : Tmp) (v1 : Value) (tys : Array TypeId) (ho : o.op = .call { callee := .value (.func f), args := #[.tmp t1], argTypes := tys }) (h1 : a.tmps.getD t1 undef = v1)
    {K : Act → World → Prop} {Q : Exit → Act → World → Prop} (c : Calls Tryd.prog f #[v1] w fun e w' => ∃ v, e = .returned v ∧ K (a.put o.dst v) w') : o.wp Tryd.prog a w K Q := by
  unfold Oper.wp execOp
  rw [ho]
  simp [go_sem, tmp_get h1]
  rw [hf, Oper.upon_enter]
  exact c.mono fun e w' ⟨v, he, hk⟩ => by subst he; exact hk
theorem wp_call1p (f : FuncId) (hf : ∀ args w, (callFunc f args).run Tryd.prog w = .ok (.enter f args) w) (t1 : Tmp) (v1 : Value) (tys : Array TypeId) (ho : o.op = .call { callee := .value (.func f), args := #[.tmp t1], argTypes := tys }) (h1 : a.tmps.getD t1 undef = v1)
    {K : Act → World → Prop} {Q : Exit → Act → World → Prop} (c : Calls Tryd.prog f #[v1] w fun e w' => e = .panicked pn4 ∧ Q (.panic pn4) a w') : o.wp Tryd.prog a w K Q := by
  unfold Oper.wp execOp
  rw [ho]
  simp [go_sem, tmp_get h1]
  rw [hf, Oper.upon_enter]
  exact c.mono fun e w' ⟨he, hk⟩ => by subst he; exact hk
end
/-- What the region's slots hold. -/
def wV (b : Nat) (t : List UInt8) (r : Ru) (wide x R y : Bool) : Nat → Value
  | 6 => .pointer (some ⟨b, 0, none⟩)
  | 7 => .pointer (some ⟨b, 0, none⟩)
  | 8 => .pointer (some ⟨b, 0, none⟩)
  | 9 => .string (tx t)
  | 10 => .bool x
  | 11 => .bool x
  | 12 => .agg (rA r)
  | 13 => .pointer (some ⟨b, 0, none⟩)
  | 14 => .pointer (some ⟨b, 0, none⟩)
  | 15 => .pointer (some ⟨b, 1, none⟩)
  | 16 => .bool wide
  | 17 => .bool R
  | 18 => .bool (!R)
  | 19 => .bool y
  | _ => undef

set_option maxRecDepth 100000 in
set_option maxHeartbeats 8000000 in
theorem whole_no2 (b : Nat) (wide : Bool) (l : List UInt8) (w : World) (h : In w b l wide) (r : Ru) (t : List UInt8) (q : ruleP wide l = some (r, t)) (ht : t ≠ []) :
    Calls Tryd.prog 49 #[.pointer (some ⟨b, 0, none⟩)] w fun e w' => e = .panicked pn4 ∧ Gb b w w' := by
  have u := Up.alloc w (.cells (rA ru0) 27)
  have RN := rule_yes (h.up u) q
  have U := Lib.hid (Gb.of (b := b) u)
  have ZB := Lib.hid (Bk.new w (rA ru0) 27 (by decide))
  have lt := h.lt
  have z3 : (!(tx t).toList.isEmpty) = true := by rw [tx_toList]; simpa using ht
  have hn := ruleP_len q
  have hl := h.2
  have RI := fun W => right_any r wide W (by unfold maxLen; omega) (by unfold maxLen; omega)
  generalize hR : rightB r wide = R at *
  clear q h u hn hl
  have ru : rA ru0 = #[.int .i64 0, .bool false, .string ⟨#[]⟩, .int .i64 0, .bool false, .string ⟨#[]⟩, .bool false, .int .i64 0, .int .i64 0, .int .i64 0, .int .i64 0, .int .i64 0, .int .i64 0, .int .i64 0, .int .i64 0, .int .i64 0, .int .i64 0] := rfl
  rw [ru] at RN U ZB
  go_enter Tryd.func49, Tryd.ntmps49
  go_wp2_with fail
  refine RN.mono ?_
  rintro e w1 ⟨rfl, i1, g1⟩
  have ZB1 := Lib.hid (ZB.out.gb g1 (by omega))
  have GG := Lib.hid (U.out.trans g1)
  clear RN U ZB g1
  have n2 := Bk.new w1 (rA ru0) 27 (by decide)
  have rs : (rA r).size = 17 := rfl
  have u2 : Up w1 (PutR (w1.alloc (.cells (rA ru0) 27)) w1.heap.size r) := putR_up (Up.alloc _ _) (Nat.le_refl _)
  have k2 := putR_bk (r := r) n2
  have ST := st_cells (r := r) n2
  clear n2
  rw [ru] at ST u2 k2
  have i2 := i1.up u2
  generalize hw2 : PutR _ w1.heap.size r = w2 at *
  go_upto_region 2 with (fail)
  rename_i K0 hK0
  have ZB2 := Lib.hid (ZB1.out.up u2)
  have G2 := Lib.hid (GG.out.trans (Gb.of u2))
  clear ZB1 GG i1 u2 ST rs hw2 ru
  refine wp_region_gd (Wt := fun i => decide (i ≤ 5) || decide (13 ≤ i)) (n := 14) (J := fun W => In W b t wide ∧ Bk W w1.heap.size (rA r) 27 ∧ Up w2 W) (G := fun d v => v = wV b t r wide true R true d) (A := fun _ _ => True) (by kernel_rfl) (by kernel_rfl) (by kernel_rfl) (by kernel_rfl) (by kernel_rfl) ⟨i2.up (Up.drewN _ 1), k2.up (Up.drewN _ 1), Up.drewN _ 1⟩ ?hwt rfl ?step ?last
  case hwt =>
    intro i o ho a pre
    have hi : i < 15 := lt_of_get ho
    have hi2 : i = 0 ∨ i = 1 ∨ i = 2 ∨ i = 3 ∨ i = 4 ∨ i = 5 ∨ i = 6 ∨ i = 7 ∨ i = 8 ∨ i = 9 ∨ i = 10 ∨ i = 11 ∨ i = 12 ∨ i = 13 ∨ i = 14 := by omega
    rcases hi2 with rfl | rfl | rfl | rfl | rfl | rfl | rfl | rfl | rfl | rfl | rfl | rfl | rfl | rfl | rfl
    · injection ho with ho; subst ho; rfl
    · injection ho with ho; subst ho; rfl
    · injection ho with ho; subst ho; rfl
    · injection ho with ho; subst ho; rfl
    · injection ho with ho; subst ho; rfl
    · injection ho with ho; subst ho; rfl
    · injection ho with ho; subst ho
      have g := tmp_some (show a.tmps.getD 11 undef = .bool true from pre ⟨5, .guard⟩ (by simp) rfl rfl _ 11 rfl rfl)
      simp [Region.wanted, yielded, g]
    · injection ho with ho; subst ho
      have g := tmp_some (show a.tmps.getD 11 undef = .bool true from pre ⟨5, .guard⟩ (by simp) rfl rfl _ 11 rfl rfl)
      simp [Region.wanted, yielded, g]
    · injection ho with ho; subst ho
      have g := tmp_some (show a.tmps.getD 11 undef = .bool true from pre ⟨5, .guard⟩ (by simp) rfl rfl _ 11 rfl rfl)
      simp [Region.wanted, yielded, g]
    · injection ho with ho; subst ho
      have g := tmp_some (show a.tmps.getD 11 undef = .bool true from pre ⟨5, .guard⟩ (by simp) rfl rfl _ 11 rfl rfl)
      simp [Region.wanted, yielded, g]
    · injection ho with ho; subst ho
      have g := tmp_some (show a.tmps.getD 11 undef = .bool true from pre ⟨5, .guard⟩ (by simp) rfl rfl _ 11 rfl rfl)
      simp [Region.wanted, yielded, g]
    · injection ho with ho; subst ho
      have g := tmp_some (show a.tmps.getD 11 undef = .bool true from pre ⟨5, .guard⟩ (by simp) rfl rfl _ 11 rfl rfl)
      simp [Region.wanted, yielded, g]
    · injection ho with ho; subst ho
      have g := tmp_some (show a.tmps.getD 11 undef = .bool true from pre ⟨5, .guard⟩ (by simp) rfl rfl _ 11 rfl rfl)
      simp [Region.wanted, yielded, g]
    · injection ho with ho; subst ho; rfl
    · injection ho with ho; subst ho; rfl
  case step =>
    intro i o hin hwi ho a W hJ old pre
    have p0 : a.tmps.getD 0 undef = .pointer (some ⟨b, 0, none⟩) := by rw [Array.getD_eq_getD_getElem?, (old 0 (by kernel_rfl))]; rfl
    have p3 : a.tmps.getD 3 undef = .pointer (some ⟨w1.heap.size, 0, none⟩) := by rw [Array.getD_eq_getD_getElem?, (old 3 (by kernel_rfl))]; rfl
    clear old
    have hi2 : i = 0 ∨ i = 1 ∨ i = 2 ∨ i = 3 ∨ i = 4 ∨ i = 5 ∨ i = 6 ∨ i = 7 ∨ i = 8 ∨ i = 9 ∨ i = 10 ∨ i = 11 ∨ i = 12 ∨ i = 13 := by omega
    rcases hi2 with rfl | rfl | rfl | rfl | rfl | rfl | rfl | rfl | rfl | rfl | rfl | rfl | rfl | rfl
    · injection ho with ho; subst ho
      exact wp_run (ex_mov W a _ 0 _ p0 rfl) ⟨_, rfl, fun d hd => (by injection hd with hd; subst hd; rfl), hJ, trivial, fun _ h => h⟩
    · injection ho with ho; subst ho
      exact wp_run (ex_nil W a _ 6 b (show a.tmps.getD 6 undef = _ from pre ⟨0, .data⟩ (by simp) rfl rfl _ 6 rfl rfl) rfl) ⟨_, rfl, fun d hd => (by injection hd with hd; subst hd; rfl), hJ, trivial, fun _ h => h⟩
    · injection ho with ho; subst ho
      exact wp_run (ex_fld W a _ 7 b 0 (.inl rfl) (show a.tmps.getD 7 undef = _ from pre ⟨1, .data⟩ (by simp) rfl rfl _ 7 rfl rfl) rfl) ⟨_, rfl, fun d hd => (by injection hd with hd; subst hd; rfl), hJ, trivial, fun _ h => h⟩
    · injection ho with ho; subst ho
      exact wp_run (ex_lds W a _ 8 b 0 _ (show a.tmps.getD 8 undef = _ from pre ⟨2, .data⟩ (by simp) rfl rfl _ 8 rfl rfl) hJ.1.c0 rfl) ⟨_, rfl, fun d hd => (by injection hd with hd; subst hd; rfl), hJ, trivial, fun _ h => h⟩
    · injection ho with ho; subst ho
      exact wp_run (ex_neq0 W a _ 9 t true z3 (show a.tmps.getD 9 undef = _ from pre ⟨3, .data⟩ (by simp) rfl rfl _ 9 rfl rfl) rfl) ⟨_, rfl, fun d hd => (by injection hd with hd; subst hd; rfl), hJ, trivial, fun _ h => h⟩
    · injection ho with ho; subst ho
      exact wp_run (ex_mov W a _ 10 _ (show a.tmps.getD 10 undef = _ from pre ⟨4, .data⟩ (by simp) rfl rfl _ 10 rfl rfl) rfl) ⟨_, rfl, fun d hd => (by injection hd with hd; subst hd; rfl), hJ, trivial, fun _ h => h⟩
    · exact absurd hwi (by decide)
    · exact absurd hwi (by decide)
    · exact absurd hwi (by decide)
    · exact absurd hwi (by decide)
    · exact absurd hwi (by decide)
    · exact absurd hwi (by decide)
    · exact absurd hwi (by decide)
    · injection ho with ho; subst ho
      exact wp_run (ex_pick1 W a _ 11 18 (show a.tmps.getD 11 undef = _ from pre ⟨5, .data⟩ (by simp) rfl rfl _ 11 rfl rfl) rfl) ⟨_, rfl, fun d hd => (by injection hd with hd; subst hd; rfl), hJ, trivial, fun _ h => h⟩
  case last =>
    intro o ho a W hJ sz df old hG hA
    have g19 : a.tmps.getD 19 undef = .bool true := hG 13 _ 19 (by decide) rfl rfl rfl
    injection ho with ho; subst ho
    refine wp_call1p W a _ 59 (fun args w => call_refuse args w) 19 _ _ rfl g19 ?_
    refine (refuse_yes W).mono ?_
    rintro e W2 ⟨rfl, rfl⟩
    refine ⟨rfl, ?_⟩
    have G3 := G2.out.trans (Gb.of hJ.2.2)
    clear hG hA old sz
    go_wp2_with fail
    exact ⟨df, rfl, G3⟩
set_option maxRecDepth 100000 in
set_option maxHeartbeats 8000000 in
theorem whole_no3 (b : Nat) (wide : Bool) (l : List UInt8) (w : World) (h : In w b l wide) (r : Ru) (t : List UInt8) (q : ruleP wide l = some (r, t)) (ht : t = []) (hr : rightB r wide = false) :
    Calls Tryd.prog 49 #[.pointer (some ⟨b, 0, none⟩)] w fun e w' => e = .panicked pn4 ∧ Gb b w w' := by
  have u := Up.alloc w (.cells (rA ru0) 27)
  have RN := rule_yes (h.up u) q
  have U := Lib.hid (Gb.of (b := b) u)
  have ZB := Lib.hid (Bk.new w (rA ru0) 27 (by decide))
  have lt := h.lt
  have z3 : (!(tx t).toList.isEmpty) = false := by rw [tx_toList]; rw [ht]; rfl
  have hn := ruleP_len q
  have hl := h.2
  have RI := fun W => right_any r wide W (by unfold maxLen; omega) (by unfold maxLen; omega)
  rw [hr] at RI
  clear q h u hn hl
  have ru : rA ru0 = #[.int .i64 0, .bool false, .string ⟨#[]⟩, .int .i64 0, .bool false, .string ⟨#[]⟩, .bool false, .int .i64 0, .int .i64 0, .int .i64 0, .int .i64 0, .int .i64 0, .int .i64 0, .int .i64 0, .int .i64 0, .int .i64 0, .int .i64 0] := rfl
  rw [ru] at RN U ZB
  go_enter Tryd.func49, Tryd.ntmps49
  go_wp2_with fail
  refine RN.mono ?_
  rintro e w1 ⟨rfl, i1, g1⟩
  have ZB1 := Lib.hid (ZB.out.gb g1 (by omega))
  have GG := Lib.hid (U.out.trans g1)
  clear RN U ZB g1
  have n2 := Bk.new w1 (rA ru0) 27 (by decide)
  have rs : (rA r).size = 17 := rfl
  have u2 : Up w1 (PutR (w1.alloc (.cells (rA ru0) 27)) w1.heap.size r) := putR_up (Up.alloc _ _) (Nat.le_refl _)
  have k2 := putR_bk (r := r) n2
  have ST := st_cells (r := r) n2
  clear n2
  rw [ru] at ST u2 k2
  have i2 := i1.up u2
  generalize hw2 : PutR _ w1.heap.size r = w2 at *
  go_upto_region 2 with (fail)
  rename_i K0 hK0
  have ZB2 := Lib.hid (ZB1.out.up u2)
  have G2 := Lib.hid (GG.out.trans (Gb.of u2))
  clear ZB1 GG i1 u2 ST rs hw2 ru
  refine wp_region_gd (Wt := fun _ => true) (n := 14) (J := fun W => In W b t wide ∧ Bk W w1.heap.size (rA r) 27 ∧ Up w2 W) (G := fun d v => v = wV b t r wide false false (!false) d) (A := fun _ _ => True) (by kernel_rfl) (by kernel_rfl) (by kernel_rfl) (by kernel_rfl) (by kernel_rfl) ⟨i2.up (Up.drewN _ 1), k2.up (Up.drewN _ 1), Up.drewN _ 1⟩ ?hwt rfl ?step ?last
  case hwt =>
    intro i o ho a pre
    have hi : i < 15 := lt_of_get ho
    have hi2 : i = 0 ∨ i = 1 ∨ i = 2 ∨ i = 3 ∨ i = 4 ∨ i = 5 ∨ i = 6 ∨ i = 7 ∨ i = 8 ∨ i = 9 ∨ i = 10 ∨ i = 11 ∨ i = 12 ∨ i = 13 ∨ i = 14 := by omega
    rcases hi2 with rfl | rfl | rfl | rfl | rfl | rfl | rfl | rfl | rfl | rfl | rfl | rfl | rfl | rfl | rfl
    · injection ho with ho; subst ho; rfl
    · injection ho with ho; subst ho; rfl
    · injection ho with ho; subst ho; rfl
    · injection ho with ho; subst ho; rfl
    · injection ho with ho; subst ho; rfl
    · injection ho with ho; subst ho; rfl
    · injection ho with ho; subst ho
      have g := tmp_some (show a.tmps.getD 11 undef = .bool false from pre ⟨5, .guard⟩ (by simp) rfl rfl _ 11 rfl rfl)
      simp [Region.wanted, yielded, g]
    · injection ho with ho; subst ho
      have g := tmp_some (show a.tmps.getD 11 undef = .bool false from pre ⟨5, .guard⟩ (by simp) rfl rfl _ 11 rfl rfl)
      simp [Region.wanted, yielded, g]
    · injection ho with ho; subst ho
      have g := tmp_some (show a.tmps.getD 11 undef = .bool false from pre ⟨5, .guard⟩ (by simp) rfl rfl _ 11 rfl rfl)
      simp [Region.wanted, yielded, g]
    · injection ho with ho; subst ho
      have g := tmp_some (show a.tmps.getD 11 undef = .bool false from pre ⟨5, .guard⟩ (by simp) rfl rfl _ 11 rfl rfl)
      simp [Region.wanted, yielded, g]
    · injection ho with ho; subst ho
      have g := tmp_some (show a.tmps.getD 11 undef = .bool false from pre ⟨5, .guard⟩ (by simp) rfl rfl _ 11 rfl rfl)
      simp [Region.wanted, yielded, g]
    · injection ho with ho; subst ho
      have g := tmp_some (show a.tmps.getD 11 undef = .bool false from pre ⟨5, .guard⟩ (by simp) rfl rfl _ 11 rfl rfl)
      simp [Region.wanted, yielded, g]
    · injection ho with ho; subst ho
      have g := tmp_some (show a.tmps.getD 11 undef = .bool false from pre ⟨5, .guard⟩ (by simp) rfl rfl _ 11 rfl rfl)
      simp [Region.wanted, yielded, g]
    · injection ho with ho; subst ho; rfl
    · injection ho with ho; subst ho; rfl
  case step =>
    intro i o hin hwi ho a W hJ old pre
    have p0 : a.tmps.getD 0 undef = .pointer (some ⟨b, 0, none⟩) := by rw [Array.getD_eq_getD_getElem?, (old 0 (by kernel_rfl))]; rfl
    have p3 : a.tmps.getD 3 undef = .pointer (some ⟨w1.heap.size, 0, none⟩) := by rw [Array.getD_eq_getD_getElem?, (old 3 (by kernel_rfl))]; rfl
    clear old
    have hi2 : i = 0 ∨ i = 1 ∨ i = 2 ∨ i = 3 ∨ i = 4 ∨ i = 5 ∨ i = 6 ∨ i = 7 ∨ i = 8 ∨ i = 9 ∨ i = 10 ∨ i = 11 ∨ i = 12 ∨ i = 13 := by omega
    rcases hi2 with rfl | rfl | rfl | rfl | rfl | rfl | rfl | rfl | rfl | rfl | rfl | rfl | rfl | rfl
    · injection ho with ho; subst ho
      exact wp_run (ex_mov W a _ 0 _ p0 rfl) ⟨_, rfl, fun d hd => (by injection hd with hd; subst hd; rfl), hJ, trivial, fun _ h => h⟩
    · injection ho with ho; subst ho
      exact wp_run (ex_nil W a _ 6 b (show a.tmps.getD 6 undef = _ from pre ⟨0, .data⟩ (by simp) rfl rfl _ 6 rfl rfl) rfl) ⟨_, rfl, fun d hd => (by injection hd with hd; subst hd; rfl), hJ, trivial, fun _ h => h⟩
    · injection ho with ho; subst ho
      exact wp_run (ex_fld W a _ 7 b 0 (.inl rfl) (show a.tmps.getD 7 undef = _ from pre ⟨1, .data⟩ (by simp) rfl rfl _ 7 rfl rfl) rfl) ⟨_, rfl, fun d hd => (by injection hd with hd; subst hd; rfl), hJ, trivial, fun _ h => h⟩
    · injection ho with ho; subst ho
      exact wp_run (ex_lds W a _ 8 b 0 _ (show a.tmps.getD 8 undef = _ from pre ⟨2, .data⟩ (by simp) rfl rfl _ 8 rfl rfl) hJ.1.c0 rfl) ⟨_, rfl, fun d hd => (by injection hd with hd; subst hd; rfl), hJ, trivial, fun _ h => h⟩
    · injection ho with ho; subst ho
      exact wp_run (ex_neq0 W a _ 9 t false z3 (show a.tmps.getD 9 undef = _ from pre ⟨3, .data⟩ (by simp) rfl rfl _ 9 rfl rfl) rfl) ⟨_, rfl, fun d hd => (by injection hd with hd; subst hd; rfl), hJ, trivial, fun _ h => h⟩
    · injection ho with ho; subst ho
      exact wp_run (ex_mov W a _ 10 _ (show a.tmps.getD 10 undef = _ from pre ⟨4, .data⟩ (by simp) rfl rfl _ 10 rfl rfl) rfl) ⟨_, rfl, fun d hd => (by injection hd with hd; subst hd; rfl), hJ, trivial, fun _ h => h⟩
    · injection ho with ho; subst ho
      exact wp_run (ex_ldRu W a _ 3 w1.heap.size r _ p3 hJ.2.1 rfl) ⟨_, rfl, fun d hd => (by injection hd with hd; subst hd; rfl), hJ, trivial, fun _ h => h⟩
    · injection ho with ho; subst ho
      exact wp_run (ex_mov W a _ 0 _ p0 rfl) ⟨_, rfl, fun d hd => (by injection hd with hd; subst hd; rfl), hJ, trivial, fun _ h => h⟩
    · injection ho with ho; subst ho
      exact wp_run (ex_nil W a _ 13 b (show a.tmps.getD 13 undef = _ from pre ⟨7, .data⟩ (by simp) rfl rfl _ 13 rfl rfl) rfl) ⟨_, rfl, fun d hd => (by injection hd with hd; subst hd; rfl), hJ, trivial, fun _ h => h⟩
    · injection ho with ho; subst ho
      exact wp_run (ex_fld W a _ 14 b 1 (.inr rfl) (show a.tmps.getD 14 undef = _ from pre ⟨8, .data⟩ (by simp) rfl rfl _ 14 rfl rfl) rfl) ⟨_, rfl, fun d hd => (by injection hd with hd; subst hd; rfl), hJ, trivial, fun _ h => h⟩
    · injection ho with ho; subst ho
      exact wp_run (ex_ldb W a _ 15 b 1 _ (show a.tmps.getD 15 undef = _ from pre ⟨9, .data⟩ (by simp) rfl rfl _ 15 rfl rfl) hJ.1.c1 rfl) ⟨_, rfl, fun d hd => (by injection hd with hd; subst hd; rfl), hJ, trivial, fun _ h => h⟩
    · injection ho with ho; subst ho
      refine wp_call2 W a _ 16 (fun args w => call_right args w) 12 16 _ _ _ rfl (show a.tmps.getD 12 undef = _ from pre ⟨6, .data⟩ (by simp) rfl rfl _ 12 rfl rfl) (show a.tmps.getD 16 undef = _ from pre ⟨10, .data⟩ (by simp) rfl rfl _ 16 rfl rfl) ?_
      refine (RI W).mono ?_
      rintro e W2 ⟨rfl, u⟩
      exact ⟨_, rfl, _, rfl, fun d hd => (by injection hd with hd; subst hd; rfl), ⟨hJ.1.up u, hJ.2.1.up u, hJ.2.2.trans u⟩, trivial, fun _ h => h⟩
    · injection ho with ho; subst ho
      exact wp_run (ex_not W a _ 17 false (show a.tmps.getD 17 undef = _ from pre ⟨11, .data⟩ (by simp) rfl rfl _ 17 rfl rfl) rfl) ⟨_, rfl, fun d hd => (by injection hd with hd; subst hd; rfl), hJ, trivial, fun _ h => h⟩
    · injection ho with ho; subst ho
      exact wp_run (ex_pick0 W a _ 11 18 _ (show a.tmps.getD 11 undef = _ from pre ⟨5, .data⟩ (by simp) rfl rfl _ 11 rfl rfl) (show a.tmps.getD 18 undef = _ from pre ⟨12, .data⟩ (by simp) rfl rfl _ 18 rfl rfl) rfl) ⟨_, rfl, fun d hd => (by injection hd with hd; subst hd; rfl), hJ, trivial, fun _ h => h⟩
  case last =>
    intro o ho a W hJ sz df old hG hA
    have g19 : a.tmps.getD 19 undef = .bool (!false) := hG 13 _ 19 (by decide) rfl rfl rfl
    injection ho with ho; subst ho
    refine wp_call1p W a _ 59 (fun args w => call_refuse args w) 19 _ _ rfl g19 ?_
    refine (refuse_yes W).mono ?_
    rintro e W2 ⟨rfl, rfl⟩
    refine ⟨rfl, ?_⟩
    have G3 := G2.out.trans (Gb.of hJ.2.2)
    clear hG hA old sz
    go_wp2_with fail
    exact ⟨df, rfl, G3⟩
set_option maxRecDepth 100000 in
set_option maxHeartbeats 8000000 in
theorem whole_yes (b : Nat) (wide : Bool) (l : List UInt8) (w : World) (h : In w b l wide) (r : Ru) (t : List UInt8) (q : ruleP wide l = some (r, t)) (ht : t = []) (hr : rightB r wide = true) :
    Calls Tryd.prog 49 #[.pointer (some ⟨b, 0, none⟩)] w fun e w' => e = .returned (.agg (rA r)) ∧ In w' b [] wide ∧ Gb b w w' := by
  have u := Up.alloc w (.cells (rA ru0) 27)
  have RN := rule_yes (h.up u) q
  have U := Lib.hid (Gb.of (b := b) u)
  have ZB := Lib.hid (Bk.new w (rA ru0) 27 (by decide))
  have lt := h.lt
  have z3 : (!(tx t).toList.isEmpty) = false := by rw [tx_toList]; rw [ht]; rfl
  have hn := ruleP_len q
  have hl := h.2
  have RI := fun W => right_any r wide W (by unfold maxLen; omega) (by unfold maxLen; omega)
  rw [hr] at RI
  clear q h u hn hl
  have ru : rA ru0 = #[.int .i64 0, .bool false, .string ⟨#[]⟩, .int .i64 0, .bool false, .string ⟨#[]⟩, .bool false, .int .i64 0, .int .i64 0, .int .i64 0, .int .i64 0, .int .i64 0, .int .i64 0, .int .i64 0, .int .i64 0, .int .i64 0, .int .i64 0] := rfl
  rw [ru] at RN U ZB
  go_enter Tryd.func49, Tryd.ntmps49
  go_wp2_with fail
  refine RN.mono ?_
  rintro e w1 ⟨rfl, i1, g1⟩
  have ZB1 := Lib.hid (ZB.out.gb g1 (by omega))
  have GG := Lib.hid (U.out.trans g1)
  clear RN U ZB g1
  have n2 := Bk.new w1 (rA ru0) 27 (by decide)
  have rs : (rA r).size = 17 := rfl
  have u2 : Up w1 (PutR (w1.alloc (.cells (rA ru0) 27)) w1.heap.size r) := putR_up (Up.alloc _ _) (Nat.le_refl _)
  have k2 := putR_bk (r := r) n2
  have ST := st_cells (r := r) n2
  clear n2
  rw [ru] at ST u2 k2
  have i2 := i1.up u2
  generalize hw2 : PutR _ w1.heap.size r = w2 at *
  go_upto_region 2 with (fail)
  rename_i K0 hK0
  have ZB2 := Lib.hid (ZB1.out.up u2)
  have G2 := Lib.hid (GG.out.trans (Gb.of u2))
  clear ZB1 GG i1 u2 ST rs hw2 ru
  refine wp_region_gd (Wt := fun _ => true) (n := 14) (J := fun W => In W b t wide ∧ Bk W w1.heap.size (rA r) 27 ∧ Up w2 W) (G := fun d v => v = wV b t r wide false true (!true) d) (A := fun _ _ => True) (by kernel_rfl) (by kernel_rfl) (by kernel_rfl) (by kernel_rfl) (by kernel_rfl) ⟨i2.up (Up.drewN _ 1), k2.up (Up.drewN _ 1), Up.drewN _ 1⟩ ?hwt rfl ?step ?last
  case hwt =>
    intro i o ho a pre
    have hi : i < 15 := lt_of_get ho
    have hi2 : i = 0 ∨ i = 1 ∨ i = 2 ∨ i = 3 ∨ i = 4 ∨ i = 5 ∨ i = 6 ∨ i = 7 ∨ i = 8 ∨ i = 9 ∨ i = 10 ∨ i = 11 ∨ i = 12 ∨ i = 13 ∨ i = 14 := by omega
    rcases hi2 with rfl | rfl | rfl | rfl | rfl | rfl | rfl | rfl | rfl | rfl | rfl | rfl | rfl | rfl | rfl
    · injection ho with ho; subst ho; rfl
    · injection ho with ho; subst ho; rfl
    · injection ho with ho; subst ho; rfl
    · injection ho with ho; subst ho; rfl
    · injection ho with ho; subst ho; rfl
    · injection ho with ho; subst ho; rfl
    · injection ho with ho; subst ho
      have g := tmp_some (show a.tmps.getD 11 undef = .bool false from pre ⟨5, .guard⟩ (by simp) rfl rfl _ 11 rfl rfl)
      simp [Region.wanted, yielded, g]
    · injection ho with ho; subst ho
      have g := tmp_some (show a.tmps.getD 11 undef = .bool false from pre ⟨5, .guard⟩ (by simp) rfl rfl _ 11 rfl rfl)
      simp [Region.wanted, yielded, g]
    · injection ho with ho; subst ho
      have g := tmp_some (show a.tmps.getD 11 undef = .bool false from pre ⟨5, .guard⟩ (by simp) rfl rfl _ 11 rfl rfl)
      simp [Region.wanted, yielded, g]
    · injection ho with ho; subst ho
      have g := tmp_some (show a.tmps.getD 11 undef = .bool false from pre ⟨5, .guard⟩ (by simp) rfl rfl _ 11 rfl rfl)
      simp [Region.wanted, yielded, g]
    · injection ho with ho; subst ho
      have g := tmp_some (show a.tmps.getD 11 undef = .bool false from pre ⟨5, .guard⟩ (by simp) rfl rfl _ 11 rfl rfl)
      simp [Region.wanted, yielded, g]
    · injection ho with ho; subst ho
      have g := tmp_some (show a.tmps.getD 11 undef = .bool false from pre ⟨5, .guard⟩ (by simp) rfl rfl _ 11 rfl rfl)
      simp [Region.wanted, yielded, g]
    · injection ho with ho; subst ho
      have g := tmp_some (show a.tmps.getD 11 undef = .bool false from pre ⟨5, .guard⟩ (by simp) rfl rfl _ 11 rfl rfl)
      simp [Region.wanted, yielded, g]
    · injection ho with ho; subst ho; rfl
    · injection ho with ho; subst ho; rfl
  case step =>
    intro i o hin hwi ho a W hJ old pre
    have p0 : a.tmps.getD 0 undef = .pointer (some ⟨b, 0, none⟩) := by rw [Array.getD_eq_getD_getElem?, (old 0 (by kernel_rfl))]; rfl
    have p3 : a.tmps.getD 3 undef = .pointer (some ⟨w1.heap.size, 0, none⟩) := by rw [Array.getD_eq_getD_getElem?, (old 3 (by kernel_rfl))]; rfl
    clear old
    have hi2 : i = 0 ∨ i = 1 ∨ i = 2 ∨ i = 3 ∨ i = 4 ∨ i = 5 ∨ i = 6 ∨ i = 7 ∨ i = 8 ∨ i = 9 ∨ i = 10 ∨ i = 11 ∨ i = 12 ∨ i = 13 := by omega
    rcases hi2 with rfl | rfl | rfl | rfl | rfl | rfl | rfl | rfl | rfl | rfl | rfl | rfl | rfl | rfl
    · injection ho with ho; subst ho
      exact wp_run (ex_mov W a _ 0 _ p0 rfl) ⟨_, rfl, fun d hd => (by injection hd with hd; subst hd; rfl), hJ, trivial, fun _ h => h⟩
    · injection ho with ho; subst ho
      exact wp_run (ex_nil W a _ 6 b (show a.tmps.getD 6 undef = _ from pre ⟨0, .data⟩ (by simp) rfl rfl _ 6 rfl rfl) rfl) ⟨_, rfl, fun d hd => (by injection hd with hd; subst hd; rfl), hJ, trivial, fun _ h => h⟩
    · injection ho with ho; subst ho
      exact wp_run (ex_fld W a _ 7 b 0 (.inl rfl) (show a.tmps.getD 7 undef = _ from pre ⟨1, .data⟩ (by simp) rfl rfl _ 7 rfl rfl) rfl) ⟨_, rfl, fun d hd => (by injection hd with hd; subst hd; rfl), hJ, trivial, fun _ h => h⟩
    · injection ho with ho; subst ho
      exact wp_run (ex_lds W a _ 8 b 0 _ (show a.tmps.getD 8 undef = _ from pre ⟨2, .data⟩ (by simp) rfl rfl _ 8 rfl rfl) hJ.1.c0 rfl) ⟨_, rfl, fun d hd => (by injection hd with hd; subst hd; rfl), hJ, trivial, fun _ h => h⟩
    · injection ho with ho; subst ho
      exact wp_run (ex_neq0 W a _ 9 t false z3 (show a.tmps.getD 9 undef = _ from pre ⟨3, .data⟩ (by simp) rfl rfl _ 9 rfl rfl) rfl) ⟨_, rfl, fun d hd => (by injection hd with hd; subst hd; rfl), hJ, trivial, fun _ h => h⟩
    · injection ho with ho; subst ho
      exact wp_run (ex_mov W a _ 10 _ (show a.tmps.getD 10 undef = _ from pre ⟨4, .data⟩ (by simp) rfl rfl _ 10 rfl rfl) rfl) ⟨_, rfl, fun d hd => (by injection hd with hd; subst hd; rfl), hJ, trivial, fun _ h => h⟩
    · injection ho with ho; subst ho
      exact wp_run (ex_ldRu W a _ 3 w1.heap.size r _ p3 hJ.2.1 rfl) ⟨_, rfl, fun d hd => (by injection hd with hd; subst hd; rfl), hJ, trivial, fun _ h => h⟩
    · injection ho with ho; subst ho
      exact wp_run (ex_mov W a _ 0 _ p0 rfl) ⟨_, rfl, fun d hd => (by injection hd with hd; subst hd; rfl), hJ, trivial, fun _ h => h⟩
    · injection ho with ho; subst ho
      exact wp_run (ex_nil W a _ 13 b (show a.tmps.getD 13 undef = _ from pre ⟨7, .data⟩ (by simp) rfl rfl _ 13 rfl rfl) rfl) ⟨_, rfl, fun d hd => (by injection hd with hd; subst hd; rfl), hJ, trivial, fun _ h => h⟩
    · injection ho with ho; subst ho
      exact wp_run (ex_fld W a _ 14 b 1 (.inr rfl) (show a.tmps.getD 14 undef = _ from pre ⟨8, .data⟩ (by simp) rfl rfl _ 14 rfl rfl) rfl) ⟨_, rfl, fun d hd => (by injection hd with hd; subst hd; rfl), hJ, trivial, fun _ h => h⟩
    · injection ho with ho; subst ho
      exact wp_run (ex_ldb W a _ 15 b 1 _ (show a.tmps.getD 15 undef = _ from pre ⟨9, .data⟩ (by simp) rfl rfl _ 15 rfl rfl) hJ.1.c1 rfl) ⟨_, rfl, fun d hd => (by injection hd with hd; subst hd; rfl), hJ, trivial, fun _ h => h⟩
    · injection ho with ho; subst ho
      refine wp_call2 W a _ 16 (fun args w => call_right args w) 12 16 _ _ _ rfl (show a.tmps.getD 12 undef = _ from pre ⟨6, .data⟩ (by simp) rfl rfl _ 12 rfl rfl) (show a.tmps.getD 16 undef = _ from pre ⟨10, .data⟩ (by simp) rfl rfl _ 16 rfl rfl) ?_
      refine (RI W).mono ?_
      rintro e W2 ⟨rfl, u⟩
      exact ⟨_, rfl, _, rfl, fun d hd => (by injection hd with hd; subst hd; rfl), ⟨hJ.1.up u, hJ.2.1.up u, hJ.2.2.trans u⟩, trivial, fun _ h => h⟩
    · injection ho with ho; subst ho
      exact wp_run (ex_not W a _ 17 true (show a.tmps.getD 17 undef = _ from pre ⟨11, .data⟩ (by simp) rfl rfl _ 17 rfl rfl) rfl) ⟨_, rfl, fun d hd => (by injection hd with hd; subst hd; rfl), hJ, trivial, fun _ h => h⟩
    · injection ho with ho; subst ho
      exact wp_run (ex_pick0 W a _ 11 18 _ (show a.tmps.getD 11 undef = _ from pre ⟨5, .data⟩ (by simp) rfl rfl _ 11 rfl rfl) (show a.tmps.getD 18 undef = _ from pre ⟨12, .data⟩ (by simp) rfl rfl _ 18 rfl rfl) rfl) ⟨_, rfl, fun d hd => (by injection hd with hd; subst hd; rfl), hJ, trivial, fun _ h => h⟩
  case last =>
    intro o ho a W hJ sz df old hG hA
    have g19 : a.tmps.getD 19 undef = .bool (!true) := hG 13 _ 19 (by decide) rfl rfl rfl
    injection ho with ho; subst ho
    refine wp_call1 W a _ 59 (fun args w => call_refuse args w) 19 _ _ rfl g19 ?_
    refine (refuse_no W).mono ?_
    rintro e W2 ⟨rfl, rfl⟩
    refine ⟨_, rfl, ?_⟩
    have G3 := G2.out.trans (Gb.of hJ.2.2)
    have Z3 := ZB2.out.up hJ.2.2
    have I3 := hJ.1
    have K3 := hJ.2.1
    have p2 : a.tmps[2]? = some (.pointer (some ⟨w.heap.size, 0, none⟩)) := (old 2 (by kernel_rfl)).trans rfl
    have p3 : a.tmps[3]? = some (.pointer (some ⟨w1.heap.size, 0, none⟩)) := (old 3 (by kernel_rfl)).trans rfl
    clear hG hA old hJ
    rw [ht] at I3
    have x2 : a.tmps.getD 2 undef = .pointer (some ⟨w.heap.size, 0, none⟩) := by rw [Array.getD_eq_getD_getElem?, p2]; rfl
    have x3 : a.tmps.getD 3 undef = .pointer (some ⟨w1.heap.size, 0, none⟩) := by rw [Array.getD_eq_getD_getElem?, p3]; rfl
    have y2 := (put_get a 20 2 (.tuple #[]) (by decide)).trans x2
    have y3 := (put_get a 20 3 (.tuple #[]) (by decide)).trans x3
    have ys : (a.put (some 20) (.tuple #[])).tmps.size = 22 := by simp [Act.put]; exact sz
    have yd : (a.put (some 20) (.tuple #[])).defers = [] := df
    show K0 (a.put (some 20) (.tuple #[])) W
    refine hK0 _ _ ?_
    generalize a.put (some 20) (.tuple #[]) = A2 at *
    have z2 := (put_get A2 21 2 (.agg (rA r)) (by decide)).trans y2
    have z21 := put_same A2 21 (.agg (rA r)) (by rw [ys]; decide)
    clear x2 x3 p2 p3 g19 sz df
    go_upto_region 3 with (fail)
    refine wp_region_lit ?_
    refine wpList_plain rfl fun K hK => wp_run (ex_ldRu _ _ _ 3 w1.heap.size r _ y3 K3 rfl) (hK _ _ ?_)
    refine wpList_plain rfl fun K2 hK2 => wp_stRu _ _ _ 2 21 w.heap.size ru0 r _ z2 z21 Z3 rfl rfl (hK2 _ _ ?_)
    have ZB := putR_bk (z := ru0) (r := r) Z3
    have OI := putR_in (r := r) I3 (show b ≠ w.heap.size by omega)
    have OG := putR_gb (r := r) G3 (Nat.le_refl _)
    clear hK hK2
    generalize PutR _ w.heap.size r = VV at *
    generalize hA3 : A2.put (some 21) (.agg (rA r)) = A3 at *
    have zd : A3.defers = [] := by rw [← hA3]; exact yd
    go_wp2_with fail
    refine bodyPost_ret (v := .agg (rA r)) (res_one _ 2 Tryd.results49 _ _ w.heap.size _ _ z2 ZB) zd ?_
    exact ⟨rfl, OI, OG⟩
end Go.Proofs.YtalpbbgkallohaaDoor
