/-
  What Compare of package clock does: the first field that differs tells.
-/
import Derived.Test.YtdmobmblkbmkhaaDoorLcTab3
import Derived.LoopTactic
import Derived.StillTailTactics
namespace Go.Proofs.YtdmobmblkbmkhaaDoor
open Go.ChangeShapes Go.WideShapes Go.ChangeAt Go.RowKit Lc

/-- -1, 0 or 1, as a is less than b, the same, or greater. -/
def cmpI (a b : Int) : Int := if a < b then -1 else if b < a then 1 else 0
/-- The first that is not 0. -/
def orI : List Int → Int
  | [] => 0
  | x :: xs => if x = 0 then orI xs else x
/-- How two civil times stand. -/
def compC (y m d h i s y' m' d' h' i' s' : Int) : Int := orI [cmpI y y', cmpI m m', cmpI d d', cmpI h h', cmpI i i', cmpI s s']

theorem cmp_lt {a b : Int} (h : a < b) : cmpI a b = -1 := if_pos h
theorem cmp_gt {a b : Int} (h : b < a) : cmpI a b = 1 := by unfold cmpI; rw [if_neg (by omega), if_pos h]
theorem cmp_eq {a b : Int} (h1 : ¬ a < b) (h2 : ¬ b < a) : cmpI a b = 0 := by unfold cmpI; rw [if_neg h1, if_neg h2]
theorem or_lt {a b : Int} (xs : List Int) (h : a < b) : orI (cmpI a b :: xs) = -1 := by rw [cmp_lt h]; rfl
theorem or_gt {a b : Int} (xs : List Int) (h : b < a) : orI (cmpI a b :: xs) = 1 := by rw [cmp_gt h]; rfl
theorem or_eq {a b : Int} (xs : List Int) (h : a = b) : orI (cmpI a b :: xs) = orI xs := by rw [cmp_eq (by omega) (by omega)]; rfl

theorem cmp_any (a b : Int) (w : World) : Calls Tryd.prog 34 #[.int .i64 a, .int .i64 b] w fun e w' => e = .returned (.int .i64 (cmpI a b)) ∧ w = w' := by
  have E := Lib.hid (show cmpI a b = if a < b then -1 else if b < a then 1 else 0 from rfl)
  go_enter Tryd.func34, Tryd.ntmps34
  go_wp2
  all_goals (go_ret; refine ⟨ret_i ?_, rfl⟩; rw [E.out]; (repeat' split) <;> first | rfl | (exfalso; omega))

theorem or_drop {zs : List Int} {k : Nat} (h : k < zs.length) : orI (zs.drop k) = if zs.getD k 0 = 0 then orI (zs.drop (k + 1)) else zs.getD k 0 := by
  rw [List.drop_eq_getElem_cons h, orI]
  simp [List.getD, h]

set_option maxHeartbeats 400000 in
theorem or_any (g : Nat) (zs : List Int) (w : World) (n : zs.length = 6) (c : ∀ j, j < 6 → w.cell? ⟨g, j, none⟩ = some (.int .i64 (zs.getD j 0))) : Calls Tryd.prog 33 #[.slice (some ⟨g, 0, none⟩) 6 6] w fun e w' => e = .returned (.int .i64 (orI zs)) ∧ w = w' := by
  have N := Lib.hid n; clear n
  have C := Lib.hid c; clear c
  go_enter Tryd.func33, Tryd.ntmps33
  go_wp2_with fail
  go_loop [8] (fun i => ∃ k : Nat, k ≤ 6 ∧ i = .int .i64 (k : Int) ∧ orI zs = orI (zs.drop k)) (fun i => (7 - intOf i).toNat)
  case atStart => exact ⟨0, by omega, rfl, rfl⟩
  case round =>
    obtain ⟨k, k1, rfl, hz⟩ := hrel
    have Z := Lib.hid hz; clear hz
    by_cases e : k < 6
    · have ck := C.out k e
      have OD := Lib.hid (or_drop (zs := zs) (k := k) (by rw [N.out]; exact e))
      generalize hq : zs.getD k 0 = q at *
      clear hq
      by_cases z : q = 0
      · subst z
        go_wp2_with fail
        go_round
        case rel => exact ⟨k + 1, by omega, by go_num, by rw [Z.out, OD.out, if_pos rfl]⟩
        case measure => simp [intOf]; omega
      · have zb : (q != 0) = true := by simpa using z
        go_wp2_with fail
        go_ret
        exact ⟨ret_i (by rw [Z.out, OD.out, if_neg z]), rfl⟩
    · obtain rfl : k = 6 := by omega
      go_wp2_with fail
      go_ret
      exact ⟨ret_i (by rw [Z.out, List.drop_eq_nil_of_le (by rw [N.out]; exact Nat.le_refl _)]; rfl), rfl⟩

theorem six_cells (w : World) (x0 x1 x2 x3 x4 x5 : Int) (t : TypeId) : ∀ j, j < 6 → (w.alloc (.cells #[.int .i64 x0, .int .i64 x1, .int .i64 x2, .int .i64 x3, .int .i64 x4, .int .i64 x5] t)).cell? ⟨w.heap.size, j, none⟩ = some (.int .i64 ([x0, x1, x2, x3, x4, x5].getD j 0)) := by
  intro j hj
  have : j = 0 ∨ j = 1 ∨ j = 2 ∨ j = 3 ∨ j = 4 ∨ j = 5 := by omega
  rcases this with rfl | rfl | rfl | rfl | rfl | rfl <;> simp
theorem flip_same {f : FuncId} {args : Array Value} {w : World} {v : Value} (h : Calls Tryd.prog f args w fun e w' => e = .returned v ∧ w = w') : Calls Tryd.prog f args w fun e w' => e = .returned v ∧ w' = w :=
  h.mono fun _ _ ⟨he, hw⟩ => ⟨he, hw.symm⟩

set_option maxHeartbeats 1000000 in
set_option maxRecDepth 100000 in
theorem compare_any (y m d h i s y' m' d' h' i' s' : Int) (w : World) : Calls Tryd.prog 20 #[.agg #[.int .i64 y, .int .i64 m, .int .i64 d, .int .i64 h, .int .i64 i, .int .i64 s], .agg #[.int .i64 y', .int .i64 m', .int .i64 d', .int .i64 h', .int .i64 i', .int .i64 s']] w fun e w' => e = .returned (.int .i64 (compC y m d h i s y' m' d' h' i' s')) ∧ Up w w' := by
  have E := Lib.hid (show compC y m d h i s y' m' d' h' i' s' = orI [cmpI y y', cmpI m m', cmpI d d', cmpI h h', cmpI i i', cmpI s s'] from rfl)
  have C0 := fun w => cmp_any y y' w
  have C1 := fun w => cmp_any m m' w
  have C2 := fun w => cmp_any d d' w
  have C3 := fun w => cmp_any h h' w
  have C4 := fun w => cmp_any i i' w
  have C5 := fun w => cmp_any s s' w
  generalize cmpI y y' = x0 at *
  generalize cmpI m m' = x1 at *
  generalize cmpI d d' = x2 at *
  generalize cmpI h h' = x3 at *
  generalize cmpI i i' = x4 at *
  generalize cmpI s s' = x5 at *
  go_enter Tryd.func20, Tryd.ntmps20
  go_wp2_with fail
  obtain ⟨W, hW⟩ : ∃ W, W = (w.alloc (.cells #[.int .i64 y, .int .i64 m, .int .i64 d, .int .i64 h, .int .i64 i, .int .i64 s] 23)).alloc (.cells #[.int .i64 y', .int .i64 m', .int .i64 d', .int .i64 h', .int .i64 i', .int .i64 s'] 23) := ⟨_, rfl⟩
  rw [← hW]
  have X1 : Box W.drew w.heap.size y m d h i s := by rw [hW]; exact (Box.new w y m d h i s _).up ((Up.alloc _ _).drewN' 1)
  have X2 : Box W.drew (w.heap.size + 1) y' m' d' h' i' s' := by
    have := Box.new (w.alloc (.cells #[.int .i64 y, .int .i64 m, .int .i64 d, .int .i64 h, .int .i64 i, .int .i64 s] 23)) y' m' d' h' i' s' 23
    rw [hW]; rw [World.size_alloc] at this; exact this.up (Up.drewN _ 1)
  have U : Hid (Up w W.drew) := Lib.hid (by rw [hW]; exact ((Up.alloc _ _).alloc' _).drewN' 1)
  clear hW
  refine wp_region_still_tail 30 (by kernel_rfl) (by kernel_rfl) ?_
  generalize hV : ({ W with drawn := W.drawn + 1 } : World) = V
  replace X1 : Box V w.heap.size y m d h i s := hV ▸ X1
  replace X2 : Box V (w.heap.size + 1) y' m' d' h' i' s' := hV ▸ X2
  replace U : Hid (Up w V) := hV ▸ U
  clear hV
  obtain ⟨a0, a1, a2, a3, a4, a5⟩ := X1
  obtain ⟨b0, b1, b2, b3, b4, b5⟩ := X2
  simp only [List.take_succ_cons, List.take_zero, List.drop_succ_cons, List.drop_zero]
  repeat still_step
  still_call (flip_same (C0 _))
  repeat still_step
  still_call (flip_same (C1 _))
  repeat still_step
  still_call (flip_same (C2 _))
  repeat still_step
  still_call (flip_same (C3 _))
  repeat still_step
  still_call (flip_same (C4 _))
  repeat still_step
  still_call (flip_same (C5 _))
  repeat still_step
  refine wpStill_nil ?_
  clear C0 C1 C2 C3 C4 C5 a0 a1 a2 a3 a4 a5 b0 b1 b2 b3 b4 b5
  have O := or_any V.heap.size [x0, x1, x2, x3, x4, x5] (V.alloc (.cells #[.int .i64 x0, .int .i64 x1, .int .i64 x2, .int .i64 x3, .int .i64 x4, .int .i64 x5] 3)) rfl (six_cells V x0 x1 x2 x3 x4 x5 _)
  go_wp2_with fail
  refine O.mono ?_; rintro e w' ⟨rfl, rfl⟩
  go_wp2_with fail
  go_ret
  exact ⟨ret_i E.out.symm, U.out.alloc' _⟩
end Go.Proofs.YtdmobmblkbmkhaaDoor
