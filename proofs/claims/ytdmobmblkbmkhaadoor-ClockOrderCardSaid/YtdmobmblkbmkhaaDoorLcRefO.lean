/-
  What the document's own Of does (longcaseref03), in the same plain words.
-/
import Derived.Test.YtdmobmblkbmkhaaDoorLcRefC
namespace Go.Proofs.YtdmobmblkbmkhaaDoor
open Go.ChangeShapes Go.WideShapes Go.ChangeAt Go.RowKit Lc

set_option maxHeartbeats 400000 in
theorem refOf_no (t : Int) (w : World) (f : fitB t = true) (h : farB t = true) : Calls Tryd.prog 18 #[.int .i64 t] w fun e w' => e = .returned (.tuple #[.agg #[.int .i64 0, .int .i64 0, .int .i64 0, .int .i64 0, .int .i64 0, .int .i64 0], .bool false]) ∧ Up w w' := by
  have DV := fun w => refDiv_yes t 86400 w (by decide) f (by decide)
  have DN := fun w => refDate_no (t / 86400) w (of_decide_eq_true h)
  clear f h
  generalize t / 86400 = q at *
  generalize t % 86400 = r at *
  go_enter Tryd.func18, Tryd.ntmps18
  go_wp2_with fail
  refine (DV _).mono ?_; rintro e w' ⟨rfl, rfl⟩
  go_wp2_with fail
  refine (DN _).mono ?_; rintro e w' ⟨rfl, rfl⟩
  go_wp2_with fail
  refine bodyPost_ret (v := .tuple #[.agg #[.int .i64 0, .int .i64 0, .int .i64 0, .int .i64 0, .int .i64 0, .int .i64 0], .bool false]) (by simp [results, Tryd.results18, go_sem]) rfl ?_
  exact ⟨rfl, Up.alloc _ _⟩

set_option maxHeartbeats 400000 in
theorem refOf_yes (t y m d h i s : Int) (w : World) (r : rightC y m d h i s = true) (e : secI y m d h i s = t) : Calls Tryd.prog 18 #[.int .i64 t] w fun e w' => e = .returned (.tuple #[.agg #[.int .i64 y, .int .i64 m, .int .i64 d, .int .i64 h, .int .i64 i, .int .i64 s], .bool true]) ∧ Up w w' := by
  have f : fitB t = true := e ▸ sec_fit r
  obtain ⟨e0, e1, e2, e3, e4, e5, e6⟩ := sec_parts r e
  have DV := fun w => refDiv_yes t 86400 w (by decide) f (by decide)
  have DY := fun w => refDate_yes (dayI y m d) y m d w (rightC_true.1 r).1 rfl
  rw [e0] at DV
  clear f r e e0
  generalize dayI y m d = q at *
  generalize t % 86400 = l at *
  have E3 := Lib.hid e3; have E4 := Lib.hid e6; have E5 := Lib.hid e5
  clear e3 e4 e5 e6
  go_enter Tryd.func18, Tryd.ntmps18
  go_wp2_with fail
  refine (DV _).mono ?_; rintro e w' ⟨rfl, rfl⟩
  go_wp2_with fail
  refine (DY _).mono ?_; rintro e w' ⟨rfl, rfl⟩
  go_wp2_with fail
  refine bodyPost_ret (v := .tuple #[.agg #[.int .i64 y, .int .i64 m, .int .i64 d, .int .i64 (l / 3600), .int .i64 (l / 60 % 60), .int .i64 (l % 60)], .bool true]) (by simp [results, Tryd.results18, go_sem]) rfl ?_
  rw [E3.out, E4.out, E5.out]
  exact ⟨rfl, Up.alloc _ _⟩

/-- What the lists of fields tell. -/
def orC : List Int → List Int → Int
  | x :: xs, y :: ys => if cmpI x y = 0 then orC xs ys else cmpI x y
  | _, _ => 0
theorem orC_drop {xs ys : List Int} {k : Nat} (h : k < xs.length) (g : k < ys.length) : orC (xs.drop k) (ys.drop k) = if cmpI (xs.getD k 0) (ys.getD k 0) = 0 then orC (xs.drop (k + 1)) (ys.drop (k + 1)) else cmpI (xs.getD k 0) (ys.getD k 0) := by
  rw [List.drop_eq_getElem_cons h, List.drop_eq_getElem_cons g, orC]
  simp [List.getD, h, g]

set_option maxHeartbeats 1000000 in
set_option maxRecDepth 100000 in
theorem refCompare_any (y m d h i s y' m' d' h' i' s' : Int) (w : World) : Calls Tryd.prog 21 #[.agg #[.int .i64 y, .int .i64 m, .int .i64 d, .int .i64 h, .int .i64 i, .int .i64 s], .agg #[.int .i64 y', .int .i64 m', .int .i64 d', .int .i64 h', .int .i64 i', .int .i64 s']] w fun e w' => e = .returned (.int .i64 (compC y m d h i s y' m' d' h' i' s')) ∧ Up w w' := by
  obtain ⟨xs, hx⟩ : ∃ xs, xs = [y, m, d, h, i, s] := ⟨_, rfl⟩
  obtain ⟨ys, hy⟩ : ∃ ys, ys = [y', m', d', h', i', s'] := ⟨_, rfl⟩
  have E : Hid (compC y m d h i s y' m' d' h' i' s' = orC xs ys) := by rw [hx, hy]; rfl
  have N1 : Hid (xs.length = 6) := by rw [hx]; rfl
  have N2 : Hid (ys.length = 6) := by rw [hy]; rfl
  have B1 : Hid (∀ w t, ∀ j, j < 6 → (World.alloc w (.cells #[.int .i64 y, .int .i64 m, .int .i64 d, .int .i64 h, .int .i64 i, .int .i64 s] t)).cell? ⟨w.heap.size, j, none⟩ = some (.int .i64 (xs.getD j 0))) := by rw [hx]; exact fun w t => six_cells w _ _ _ _ _ _ t
  have B2 : Hid (∀ w t, ∀ j, j < 6 → (World.alloc w (.cells #[.int .i64 y', .int .i64 m', .int .i64 d', .int .i64 h', .int .i64 i', .int .i64 s'] t)).cell? ⟨w.heap.size, j, none⟩ = some (.int .i64 (ys.getD j 0))) := by rw [hy]; exact fun w t => six_cells w _ _ _ _ _ _ t
  clear hx hy
  generalize compC y m d h i s y' m' d' h' i' s' = z at *
  go_enter Tryd.func21, Tryd.ntmps21
  go_wp2_with fail
  obtain ⟨W, hW⟩ : ∃ W, W = (((w.alloc (.cells #[.int .i64 y, .int .i64 m, .int .i64 d, .int .i64 h, .int .i64 i, .int .i64 s] 23)).alloc (.cells #[.int .i64 y', .int .i64 m', .int .i64 d', .int .i64 h', .int .i64 i', .int .i64 s'] 23)).alloc (.cells #[.int .i64 y, .int .i64 m, .int .i64 d, .int .i64 h, .int .i64 i, .int .i64 s] 3)).alloc (.cells #[.int .i64 y', .int .i64 m', .int .i64 d', .int .i64 h', .int .i64 i', .int .i64 s'] 3) := ⟨_, rfl⟩
  rw [← hW]
  have CX : Hid (∀ j, j < 6 → W.cell? ⟨w.heap.size + 1 + 1, j, none⟩ = some (.int .i64 (xs.getD j 0))) := by
    intro j hj
    have := B1.out ((w.alloc (.cells #[.int .i64 y, .int .i64 m, .int .i64 d, .int .i64 h, .int .i64 i, .int .i64 s] 23)).alloc (.cells #[.int .i64 y', .int .i64 m', .int .i64 d', .int .i64 h', .int .i64 i', .int .i64 s'] 23)) 3 j hj
    rw [World.size_alloc, World.size_alloc] at this
    rw [hW]; exact (Up.alloc _ _).cell this
  have CY : Hid (∀ j, j < 6 → W.cell? ⟨w.heap.size + 1 + 1 + 1, j, none⟩ = some (.int .i64 (ys.getD j 0))) := by
    intro j hj
    have := B2.out (((w.alloc (.cells #[.int .i64 y, .int .i64 m, .int .i64 d, .int .i64 h, .int .i64 i, .int .i64 s] 23)).alloc (.cells #[.int .i64 y', .int .i64 m', .int .i64 d', .int .i64 h', .int .i64 i', .int .i64 s'] 23)).alloc (.cells #[.int .i64 y, .int .i64 m, .int .i64 d, .int .i64 h, .int .i64 i, .int .i64 s] 3)) 3 j hj
    rw [World.size_alloc, World.size_alloc, World.size_alloc] at this
    rw [hW]; exact this
  have U : Hid (Up w W) := by rw [hW]; exact (((Up.alloc _ _).alloc' _).alloc' _).alloc' _
  clear hW B1 B2
  go_loopw [7] (fun i wr => ∃ (k n : Nat), k ≤ 6 ∧ i = .int .i64 (k : Int) ∧ wr = W.drewN n ∧ Hid (orC xs ys = orC (xs.drop k) (ys.drop k))) (fun i _ => (7 - intOf i).toNat)
  case atStart => exact ⟨0, 0, by omega, rfl, rfl, rfl⟩
  case round =>
    obtain ⟨k, n, k1, rfl, rfl, Z⟩ := hrel
    by_cases e : k < 6
    · have cx := CX.out k e
      have cy := CY.out k e
      have OD := Lib.hid (orC_drop (xs := xs) (ys := ys) (k := k) (by rw [N1.out]; exact e) (by rw [N2.out]; exact e))
      generalize hq : xs.getD k 0 = p at *
      generalize hq' : ys.getD k 0 = q at *
      clear hq hq'
      have e1 : (k : Int) < 6 := by omega
      by_cases lt : p < q
      · go_wp2_with fail
        go_quiet (fail)
        go_wp2_with fail
        go_ret
        exact ⟨ret_i (by rw [E.out, Z.out, OD.out, cmp_lt lt]; rfl), ((U.out.drewN' _).drewN' _)⟩
      · have lt' := decf lt
        by_cases gt : q < p
        · go_wp2_with fail
          go_quiet (fail)
          go_wp2_with fail
          go_quiet (fail)
          go_wp2_with fail
          go_ret
          exact ⟨ret_i (by rw [E.out, Z.out, OD.out, cmp_gt gt]; rfl), (((U.out.drewN' _).drewN' _).drewN' _)⟩
        · have gt' := decf gt
          have OD' := Lib.hid (cmp_eq lt gt)
          go_wp2_with fail
          go_quiet (fail)
          go_wp2_with fail
          go_quiet (fail)
          go_wp2_with fail
          go_roundw
          case rel => exact ⟨k + 1, _, by omega, by go_num, rfl, by unfold Hid; rw [Z.out, OD.out, OD'.out, if_pos rfl]⟩
          case measure => simp [intOf]; omega
    · obtain rfl : k = 6 := by omega
      go_wp2_with fail
      go_ret
      exact ⟨ret_i (by rw [E.out, Z.out, List.drop_eq_nil_of_le (by rw [N1.out]; exact Nat.le_refl _)]; rfl), (U.out.drewN' _)⟩
end Go.Proofs.YtdmobmblkbmkhaaDoor
