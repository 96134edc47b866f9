/-
  The program's file: tellPart, shortBlock.
-/
import Derived.Test.YtaljddoenjgbfaaGreatLcTzG
import Derived.Test.YtaljddoenjgbfaaGreatLcMp
import Derived.Test.YtaljddoenjgbfaaGreatLcFin
import Derived.Test.YtaljddoenjgbfaaGreatLcTzR
namespace Go.Proofs.YtaljddoenjgbfaaGreat
open Go.ChangeShapes Go.WideShapes Go.ChangeAt Go.RowKit Lc

set_option maxRecDepth 100000 in
/-- A block's bytes are not many. -/
theorem encL_bd {x : Blk} {z : Nat} {ver : Int} (h : rightB x z ver = true) : (encL x z).length ≤ 200000 := by
  obtain ⟨hz, hk, hm, hj, hl⟩ := right_parts h
  have a := rk_parts hk
  have b := rm_parts hm
  have c := rj_parts hj
  have d := rl_parts hl
  have e : (nmB x).length ≤ 256 := a.2.2.2
  have hz' : z = 4 ∨ z = 8 := by omega
  have j8 : x.js.length * z ≤ 5000 * 8 := Nat.mul_le_mul c (by omega)
  have l8 : x.ls.length * (z + 4) ≤ 5000 * 12 := Nat.mul_le_mul d (by omega)
  rw [encL_len]
  omega
/-- A header and its block, as bytes. -/
def partB (x : Blk) (z : Nat) (ver : Int) : List UInt8 := encB ver x.ut.length x.sd.length x.ls.length x.js.length x.ks.length (nmB x).length ++ encL x z
set_option maxRecDepth 100000 in
set_option maxHeartbeats 2000000 in
theorem part_yes (v : Value) (x : Blk) (z : Nat) (ver : Int) (w : World) (hb : BkR w v x) (h1 : 1 ≤ ver) (h4 : ver ≤ 4) (hr : rightB x z ver = true) :
    Calls Tryz.prog 24 #[v, .int .i64 z, .int .i64 ver] w fun e w' => ∃ v', e = .returned v' ∧ Ow w' w.heap.size v' (partB x z ver) ∧ Up w w' := by
  obtain ⟨A0, n0, c0, A1, n1, c1, A2, n2, c2, A3, n3, c3, A4, n4, c4, rfl⟩ := hb.form
  have UA := Lib.hid (Up.alloc w (.cells #[.slice A0 n0 c0, .slice A1 n1 c1, .slice A2 n2 c2, .slice A3 n3 c3, .slice A4 n4 c4] 27))
  have B := Lib.hid (bencode_yes _ x z ver _ (hb.up UA.out) h1 h4 hr)
  have H := Lib.hid (fun w => encode_yes ver x.ut.length x.sd.length x.ls.length x.js.length x.ks.length (nmB x).length w (hd_right hr h1 h4))
  have HL := Lib.hid (encL_bd hr)
  have KL := Lib.hid (encB_len ver x.ut.length x.sd.length x.ls.length x.js.length x.ks.length (nmB x).length)
  unfold partB
  generalize encB ver x.ut.length x.sd.length x.ls.length x.js.length x.ks.length (nmB x).length = L1 at *
  generalize encL x z = L2 at *
  generalize (x.ut.length : Int) = k0 at *
  generalize (x.sd.length : Int) = k1 at *
  generalize (x.ls.length : Int) = k2 at *
  generalize (x.js.length : Int) = k3 at *
  generalize (x.ks.length : Int) = k4 at *
  generalize ((nmB x).length : Int) = k5 at *
  unfold hv at B H
  clear hb hr h1 h4
  go_enter Tryz.func24, Tryz.ntmps24
  go_wp2_with fail
  refine B.out.mono ?_; rintro e w1 ⟨v1, rfl, o1, u1⟩
  obtain ⟨P1, d1, rfl, i1, j1, r1, _⟩ := o1.form
  have U1 := Lib.hid (UA.out.trans u1)
  have R1 := Lib.hid r1
  clear o1 u1 r1 B
  go_wp2_with fail
  have UM := Lib.hid (Up.alloc w1 (.cells #[.int .i64 ver, .int .i64 k0, .int .i64 k1, .int .i64 k2, .int .i64 k3, .int .i64 k4, .int .i64 k5] 90))
  refine (H.out _).mono ?_; rintro e w2 ⟨v2, rfl, o2, u2⟩
  obtain ⟨P2, d2, rfl, i2, j2, r2, _⟩ := o2.form
  have O2 := Lib.hid (o2.base (base' := w.heap.size) (U1.out.trans UM.out).size)
  have U2 := Lib.hid ((U1.out.trans UM.out).trans u2)
  have R2 := Lib.hid ((R1.out.up UM.out).up u2)
  clear o2 u2 r2 H UM R1
  go_wp2_with (at_builtin; refine wpList_append_bytes _ rfl _ _ rfl w.heap.size _ _ rfl O2.out P1 L2 _ d1 rfl rfl R2.out ?e1 U2.out.size ?_)
  case e1 => rw [KL.out]; have := HL.out; omega
  intro v6 w6 o6 g6 _
  have U6 := Lib.hid (U2.out.grown g6 O2.out.block)
  go_wp2_with fail
  go_ret
  exact ⟨_, rfl, o6, U6.out⟩

/-- The short block. -/
def shB : Blk := ⟨[⟨0, false, ⟨#[]⟩⟩], [], [], [], []⟩
set_option maxRecDepth 100000 in
theorem shB_right {ver : Int} : rightB shB ((4 : Nat) : Int) ver = true := by
  unfold rightB
  rfl
set_option maxRecDepth 100000 in
theorem Rc.made (w : World) (vs : List Value) (cs : Array Value) (t : TypeId) (h : cs.toList = vs) : Rc (w.alloc (.cells cs t)) (some ⟨w.heap.size, 0, none⟩) vs := fun _ => by
  refine ⟨w.heap.size, 0, rfl, fun i v hi => ?_⟩
  rw [Nat.zero_add, World.cell?_alloc_mark, ← hi, ← h]; simp
set_option maxRecDepth 100000 in
theorem Sl.none (w : World) : Sl w (.slice none 0 0) 0 [] := ⟨_, _, rfl, Nat.le_refl _, Nat.zero_le _, Rc.nil _ _⟩
set_option maxRecDepth 100000 in
/-- A block of one kind, as it is made. -/
theorem one_made (w : World) (k : Knd) (t : TypeId) : BkR (w.alloc (.cells #[.int .i64 k.off, .bool k.dst, .string k.name] t)) (.agg #[.slice (some ⟨w.heap.size, 0, none⟩) 1 1, .slice none 0 0, .slice none 0 0, .slice none 0 0, .slice none 0 0]) ⟨[k], [], [], [], []⟩ :=
  ⟨_, _, _, _, _, rfl, ⟨_, _, rfl, Nat.le_refl _, by unfold maxLen; omega, Rc.made w _ _ _ rfl⟩, Sl.none _, Sl.none _, Sl.none _, Sl.none _⟩
set_option maxRecDepth 100000 in
theorem short_any (w : World) : Calls Tryz.prog 25 #[] w fun e w' => ∃ v, e = .returned v ∧ BkR w' v shB ∧ Up w w' := by
  have K := Lib.hid (one_made (w.alloc (.cells #[.slice (some ⟨w.heap.size + 1, 0, none⟩) 1 1, .slice none 0 0, .slice none 0 0, .slice none 0 0, .slice none 0 0] 27)) ⟨0, false, ⟨#[]⟩⟩ 51)
  rw [World.size_alloc] at K
  go_enter Tryz.func25, Tryz.ntmps25
  go_wp2_with fail
  refine bodyPost_ret (v := .agg #[.slice (some ⟨w.heap.size + 1, 0, none⟩) 1 1, .slice none 0 0, .slice none 0 0, .slice none 0 0, .slice none 0 0]) (by simp [results, Tryz.results25, go_sem]) rfl ?_
  exact ⟨_, rfl, K.out, (Up.alloc _ _).alloc' _⟩

/-- A file's bytes. -/
def mzN (v : Int) : Nat := if v = 1 then 4 else 8
set_option maxRecDepth 100000 in
theorem mz_nat (v : Int) : mz v = (mzN v : Int) := by unfold mz mzN; split <;> rfl
def encF (f : Fil) : List UInt8 := if f.ver = 1 then partB f.blk 4 1 else (partB shB 4 f.ver ++ partB f.blk 8 f.ver) ++ (10 :: (tx f.foot ++ [10]))
set_option maxRecDepth 100000 in
theorem rightF_parts {f : Fil} (h : rightF f = true) : 1 ≤ f.ver ∧ f.ver ≤ 4 ∧ rightB f.blk (mzN f.ver) f.ver = true ∧ rfB f.foot f.ver = true := by
  unfold rightF at h
  simp only [Bool.and_eq_true, decide_eq_true_eq] at h
  rw [mz_nat] at h
  exact ⟨h.1.1.1, h.1.1.2, h.1.2, h.2⟩
set_option maxRecDepth 100000 in
theorem partB_bd {x : Blk} {z : Nat} {ver v : Int} (h : rightB x z ver = true) : (partB x z v).length ≤ 200044 := by
  have := encL_bd h
  unfold partB; rw [List.length_append, encB_len]; omega

set_option maxRecDepth 100000 in
theorem wp_ms {a : Act} {o : Oper} {w : World} (t0 : Tmp) (v0 : Value) (tys : Array TypeId) (ho : o.op = .call { callee := .value (.func 18), args := #[.tmp t0], argTypes := tys }) (h0 : a.tmps.getD t0 undef = v0)
    {K : Act → World → Prop} {Q : Exit → Act → World → Prop} (c : Calls Tryz.prog 18 #[v0] w fun e w' => ∃ v, e = .returned v ∧ K (a.put o.dst v) w') : o.wp Tryz.prog a w K Q := by
  unfold Oper.wp execOp
  rw [ho]
  simp [go_sem, tg h0]
  exact c.mono fun e w' ⟨v, he, hk⟩ => by subst he; exact hk
set_option maxRecDepth 100000 in
theorem wp_part {a : Act} {o : Oper} {w : World} (t0 t1 t2 : Tmp) (v0 v1 v2 : Value) (tys : Array TypeId) (ho : o.op = .call { callee := .value (.func 24), args := #[.tmp t0, .tmp t1, .tmp t2], argTypes := tys }) (h0 : a.tmps.getD t0 undef = v0) (h1 : a.tmps.getD t1 undef = v1) (h2 : a.tmps.getD t2 undef = v2)
    {K : Act → World → Prop} {Q : Exit → Act → World → Prop} (c : Calls Tryz.prog 24 #[v0, v1, v2] w fun e w' => ∃ v, e = .returned v ∧ K (a.put o.dst v) w') : o.wp Tryz.prog a w K Q := by
  unfold Oper.wp execOp
  rw [ho]
  simp [go_sem, tg h0, tg h1, tg h2]
  exact c.mono fun e w' ⟨v, he, hk⟩ => by subst he; exact hk
set_option maxRecDepth 100000 in
theorem wp_part4 {a : Act} {o : Oper} {w : World} (t0 t2 : Tmp) (v0 v2 : Value) (tys : Array TypeId) (ho : o.op = .call { callee := .value (.func 24), args := #[.tmp t0, .const (.int .i64 4), .tmp t2], argTypes := tys }) (h0 : a.tmps.getD t0 undef = v0) (h2 : a.tmps.getD t2 undef = v2)
    {K : Act → World → Prop} {Q : Exit → Act → World → Prop} (c : Calls Tryz.prog 24 #[v0, .int .i64 4, v2] w fun e w' => ∃ v, e = .returned v ∧ K (a.put o.dst v) w') : o.wp Tryz.prog a w K Q := by
  unfold Oper.wp execOp
  rw [ho]
  simp [go_sem, tg h0, tg h2]
  exact c.mono fun e w' ⟨v, he, hk⟩ => by subst he; exact hk
set_option maxRecDepth 100000 in
theorem wp_short {a : Act} {o : Oper} {w : World} (tys : Array TypeId) (ho : o.op = .call { callee := .value (.func 25), args := #[], argTypes := tys }) 
    {K : Act → World → Prop} {Q : Exit → Act → World → Prop} (c : Calls Tryz.prog 25 #[] w fun e w' => ∃ v, e = .returned v ∧ K (a.put o.dst v) w') : o.wp Tryz.prog a w K Q := by
  unfold Oper.wp execOp
  rw [ho]
  simp [go_sem]
  exact c.mono fun e w' ⟨v, he, hk⟩ => by subst he; exact hk
set_option maxRecDepth 100000 in
theorem arr28 {t : Array Value} (h : t.size = 28) : ∃ x0 x1 x2 x3 x4 x5 x6 x7 x8 x9 x10 x11 x12 x13 x14 x15 x16 x17 x18 x19 x20 x21 x22 x23 x24 x25 x26 x27 : Value, t = #[x0, x1, x2, x3, x4, x5, x6, x7, x8, x9, x10, x11, x12, x13, x14, x15, x16, x17, x18, x19, x20, x21, x22, x23, x24, x25, x26, x27] := by
  obtain ⟨l⟩ := t
  match l, h with
  | x0 :: x1 :: x2 :: x3 :: x4 :: x5 :: x6 :: x7 :: x8 :: x9 :: x10 :: x11 :: x12 :: x13 :: x14 :: x15 :: x16 :: x17 :: x18 :: x19 :: x20 :: x21 :: x22 :: x23 :: x24 :: x25 :: x26 :: x27 :: [], _ => exact ⟨x0, x1, x2, x3, x4, x5, x6, x7, x8, x9, x10, x11, x12, x13, x14, x15, x16, x17, x18, x19, x20, x21, x22, x23, x24, x25, x26, x27, rfl⟩
/-- What the slots of tell's first region hold. -/
def tG (B base : Nat) (ver : Int) (z : Nat) (bv : Value) (PB : List UInt8) (t : Tmp) (v : Value) (w : World) : Prop :=
  if t = 4 then v = .pointer (some ⟨B, 1, none⟩) else if t = 5 then v = bv else if t = 6 then v = .pointer (some ⟨B, 0, none⟩) else if t = 7 then v = .int .i64 ver else if t = 8 then v = .int .i64 z
  else if t = 9 then v = .pointer (some ⟨B, 0, none⟩) else if t = 10 then v = .int .i64 ver else if t = 11 then Ow w base v PB else True
set_option maxRecDepth 100000 in
theorem tG_up {B base : Nat} {ver : Int} {z : Nat} {bv : Value} {PB : List UInt8} (t : Tmp) (v : Value) (w w' : World) (h : tG B base ver z bv PB t v w) (u : Up w w') : tG B base ver z bv PB t v w' := by
  unfold tG at *
  repeat' split at h
  all_goals (first | exact h | (simp_all; done) | (simp_all; exact h.up u))
end Go.Proofs.YtaljddoenjgbfaaGreat
