/-
  What the document's own Encode does (longcaseref05), in the same plain words.
-/
import Derived.Test.YtaljddoenjgbfaaGreatLcMp
import Derived.Test.YtaljddoenjgbfaaGreatLcRefB
import Derived.Test.YtaljddoenjgbfaaGreatLcMa
import Derived.Test.YtaljddoenjgbfaaGreatLcFul
namespace Go.Proofs.YtaljddoenjgbfaaGreat
open Go.ChangeShapes Go.WideShapes Go.ChangeAt Go.RowKit Lc

set_option maxRecDepth 100000 in
theorem refPutN (A : Option Addr) (L : List UInt8) (p c : Nat) (n : Int) (w : World) (hp : L.length = p) (hL : p ≤ 44) (n0 : 0 ≤ n) (hr : Rd w A L) :
    Calls Tryz.prog 49 #[.slice A p c, .int .i64 4, .int .u64 n] w fun e w' => ∃ v', e = .returned v' ∧ Ow w' w.heap.size v' (L ++ beB 4 n.toNat) ∧ Up w w' := by
  subst hp
  exact refPut_any A L c 4 n w (by omega) (by decide) n0 hr
/-- The first bytes, with j of the fifteen. -/
def front (mb : UInt8) (j : Nat) : List UInt8 := [84, 90, 105, 102, mb] ++ List.replicate j 0
set_option maxRecDepth 100000 in
theorem front_len (mb : UInt8) (j : Nat) : (front mb j).length = 5 + j := by unfold front; simp; omega
set_option maxRecDepth 100000 in
theorem front_succ (mb : UInt8) (j : Nat) : front mb j ++ [0] = front mb (j + 1) := by
  unfold front; rw [List.append_assoc, List.replicate_succ']
set_option maxRecDepth 100000 in
theorem front_15 (v : Int) : front (markB v) 15 = frontB v := rfl

set_option maxHeartbeats 2000000 in
set_option maxRecDepth 100000 in
theorem refEncode_yes (v u s l t y c : Int) (w : World) (r : rightH v u s l t y c = true) : Calls Tryz.prog 37 #[hv v u s l t y c] w fun e w' => ∃ a, e = .returned a ∧ Ow w' w.heap.size a (encB v u s l t y c) ∧ Up w w' := by
  have b := rightH_true.1 r
  clear r
  have F15 := Lib.hid (front_15 v)
  have mk1 : Hid (v = 1 → markB v = 0) := fun h => by rw [h]; rfl
  have mk2 : Hid (¬ v = 1 → (48 + v) % 256 = ((markB v).toNat : Int)) := fun h => by
    have : v = 2 ∨ v = 3 ∨ v = 4 := by omega
    rcases this with rfl | rfl | rfl <;> decide
  obtain ⟨L, hL⟩ : ∃ L : Nat → List UInt8, L = rowN v u s l t y c := ⟨_, rfl⟩
  have LL : Hid (∀ k, k ≤ 6 → (L k).length = 20 + 4 * k) := by rw [hL]; exact rowN_len v u s l t y c
  have LS : Hid (∀ k, k < 6 → L k ++ beB 4 ([u, s, l, t, y, c].getD k 0).toNat = L (k + 1)) := by rw [hL]; exact rowN_succ v u s l t y c
  have L6 : Hid (L 6 = encB v u s l t y c) := by rw [hL]; rfl
  have L0 : Hid (L 0 = frontB v) := by rw [hL]; exact rowN_0 v u s l t y c
  clear hL
  have PP : Hid (∀ k, k < 6 → ∀ (n : Int) (A : Option Addr) (p cp : Nat) (wr : World), (20 + 4 * k = p) → n = [u, s, l, t, y, c].getD k 0 → 0 ≤ n → Rd wr A (L k) → Calls Tryz.prog 49 #[.slice A p cp, .int .i64 4, .int .u64 n] wr fun e w' => ∃ v', e = .returned v' ∧ Ow w' wr.heap.size v' (L (k + 1)) ∧ Up wr w') := by
    intro k hk n A p cp wr hp hn h0 hr
    have := refPutN A (L k) p cp n wr (by rw [LL.out k (by omega)]; exact hp) (by omega) h0 hr
    rw [hn, LS.out k hk] at this
    rw [hn]; exact this
  have hu0 : 0 ≤ u ∧ u ≤ 256 := by omega
  have hs0 : 0 ≤ s ∧ s ≤ 256 := by omega
  obtain ⟨v0, v1, y0, y1, d0, d1, t0, t1, l0, l1, _, _⟩ := b
  obtain ⟨u0, u1⟩ := hu0; obtain ⟨s0, s1⟩ := hs0
  generalize markB v = mb at *
  have X1 := Lib.hid (HBox.new w v u s l t y c 60)
  have U1 := Lib.hid (Up.alloc w (.cells #[.int .i64 v, .int .i64 u, .int .i64 s, .int .i64 l, .int .i64 t, .int .i64 y, .int .i64 c] 60))
  have Z1 := Lib.hid (World.size_alloc w (.cells #[.int .i64 v, .int .i64 u, .int .i64 s, .int .i64 l, .int .i64 t, .int .i64 y, .int .i64 c] 60))
  have kc := convert_const (w.alloc (.cells #[.int .i64 v, .int .i64 u, .int .i64 s, .int .i64 l, .int .i64 t, .int .i64 y, .int .i64 c] 60)) #[.int .u8 84, .int .u8 90, .int .u8 105, .int .u8 102] 4 4
  rw [World.size_alloc] at kc
  have R2 := Rd.mark (w.alloc (.cells #[.int .i64 v, .int .i64 u, .int .i64 s, .int .i64 l, .int .i64 t, .int .i64 y, .int .i64 c] 60)) [84, 90, 105, 102] #[.int .u8 84, .int .u8 90, .int .u8 105, .int .u8 102] 5 (4, 5) rfl
  rw [World.size_alloc] at R2
  replace R2 := Lib.hid R2
  by_cases hv1 : v = 1
  · subst hv1
    have R3 : Hid (Rd (((w.alloc (.cells #[.int .i64 1, .int .i64 u, .int .i64 s, .int .i64 l, .int .i64 t, .int .i64 y, .int .i64 c] 60)).alloc (.cells #[.int .u8 84, .int .u8 90, .int .u8 105, .int .u8 102] 5 (4, 5))).alloc (.cells #[.int .u8 0] 5)) (some ⟨w.heap.size + 1 + 1, 0, none⟩) [mb]) := by
      have h := Rd.one ((w.alloc (.cells #[.int .i64 1, .int .i64 u, .int .i64 s, .int .i64 l, .int .i64 t, .int .i64 y, .int .i64 c] 60)).alloc (.cells #[.int .u8 84, .int .u8 90, .int .u8 105, .int .u8 102] 5 (4, 5))) (0) mb 5 (by rw [mk1.out rfl]; rfl)
      rw [World.size_alloc, World.size_alloc] at h
      exact h
    go_enter Tryz.func37, Tryz.ntmps37
    go_wp2_with (at_builtin; refine wpList_append_full _ rfl _ _ rfl ⟨w.heap.size + 1, 0, none⟩ [84, 90, 105, 102] 4 4 rfl rfl (R2.out.up (Up.alloc _ _)) (some ⟨w.heap.size + 1 + 1, 0, none⟩) [mb] 1 1 rfl rfl (by decide) R3.out (by decide) (by decide) ?_)
    intro x3 w3 ho hu
    have U3 : Hid (Up (w.alloc (.cells #[.int .i64 1, .int .i64 u, .int .i64 s, .int .i64 l, .int .i64 t, .int .i64 y, .int .i64 c] 60)) w3) := ((Up.alloc _ _).alloc' _).trans hu
    replace ho : Ow w3 (w.alloc (.cells #[.int .i64 1, .int .i64 u, .int .i64 s, .int .i64 l, .int .i64 t, .int .i64 y, .int .i64 c] 60)).heap.size x3 (front mb 0) := Ow.base ho (by simp only [World.size_alloc]; omega)
    clear hu R2 R3 kc
    generalize w.alloc (.cells #[.int .i64 1, .int .i64 u, .int .i64 s, .int .i64 l, .int .i64 t, .int .i64 y, .int .i64 c] 60) = W1 at *
    obtain HO := Lib.hid ho
    clear ho
    go_wp2_with fail
    go_loopw [3, 4] (fun x i wr => ∃ j : Nat, j ≤ 15 ∧ i = .int .i64 j ∧ Hid (Ow wr W1.heap.size x (front mb j)) ∧ Hid (Up W1 wr)) (fun _ i _ => (16 - intOf i).toNat)
    case atStart => exact ⟨0, by omega, rfl, HO.out, U3.out⟩
    case round =>
      clear HO U3
      obtain ⟨j, hj, rfl, HO, U⟩ := hrel
      by_cases hlt : j < 15
      · go_wp2_with (at_builtin; refine wpList_append_bytes _ rfl _ _ rfl W1.heap.size _ _ rfl (HO.out.up (Up.alloc _ _)) (some ⟨wr.heap.size, 0, none⟩) [0] 1 1 rfl rfl (Rd.one _ _ _ _ ?e1) ?e2 ?e3 ?_)
        case e1 => decide
        case e2 => rw [front_len]; simp; omega
        case e3 => have := U.out.size; simp; omega
        intro v' w4 ho hg hat
        have HO' : Hid (Ow w4 W1.heap.size v' (front mb (j + 1))) := by rw [front_succ] at ho; exact ho
        have U' : Hid (Up W1 w4) := (U.out.alloc' _).grown hg HO.out.block
        clear ho hg hat HO U
        go_wp2_with fail
        go_roundw
        case rel => exact ⟨j + 1, by omega, by go_num, HO'.out, U'.out⟩
        case measure => simp [intOf]; omega
      · obtain rfl : j = 15 := by omega
        rw [show (((15 : Nat) : Int)) = (15 : Int) from rfl]
        obtain ⟨c0, c1, c2, c3, c4, c5, c6⟩ := X1.out.up U.out
        go_wp2_with fail
        have U4 : Hid (Up W1 (wr.alloc (.cells #[.int .i64 u, .int .i64 s, .int .i64 l, .int .i64 t, .int .i64 y, .int .i64 c] 3))) := U.out.alloc' _
        have HO4 : Hid (Ow (wr.alloc (.cells #[.int .i64 u, .int .i64 s, .int .i64 l, .int .i64 t, .int .i64 y, .int .i64 c] 3)) W1.heap.size u3 (L 0)) := by
          rw [L0.out, ← F15.out]; exact HO.out.up (Up.alloc _ _)
        have g0 : (wr.alloc (.cells #[.int .i64 u, .int .i64 s, .int .i64 l, .int .i64 t, .int .i64 y, .int .i64 c] 3)).cell? ⟨wr.heap.size, 0, none⟩ = some (.int .i64 u) := by simp
        have g1 : (wr.alloc (.cells #[.int .i64 u, .int .i64 s, .int .i64 l, .int .i64 t, .int .i64 y, .int .i64 c] 3)).cell? ⟨wr.heap.size, 1, none⟩ = some (.int .i64 s) := by simp
        have g2 : (wr.alloc (.cells #[.int .i64 u, .int .i64 s, .int .i64 l, .int .i64 t, .int .i64 y, .int .i64 c] 3)).cell? ⟨wr.heap.size, 2, none⟩ = some (.int .i64 l) := by simp
        have g3 : (wr.alloc (.cells #[.int .i64 u, .int .i64 s, .int .i64 l, .int .i64 t, .int .i64 y, .int .i64 c] 3)).cell? ⟨wr.heap.size, 3, none⟩ = some (.int .i64 t) := by simp
        have g4 : (wr.alloc (.cells #[.int .i64 u, .int .i64 s, .int .i64 l, .int .i64 t, .int .i64 y, .int .i64 c] 3)).cell? ⟨wr.heap.size, 4, none⟩ = some (.int .i64 y) := by simp
        have g5 : (wr.alloc (.cells #[.int .i64 u, .int .i64 s, .int .i64 l, .int .i64 t, .int .i64 y, .int .i64 c] 3)).cell? ⟨wr.heap.size, 5, none⟩ = some (.int .i64 c) := by simp
        have G := Lib.hid (show _ ∧ _ ∧ _ ∧ _ ∧ _ ∧ _ from ⟨g0, g1, g2, g3, g4, g5⟩)
        clear g0 g1 g2 g3 g4 g5 c0 c1 c2 c3 c4 c5 c6
        generalize wr.alloc (.cells #[.int .i64 u, .int .i64 s, .int .i64 l, .int .i64 t, .int .i64 y, .int .i64 c] 3) = W4 at *
        clear HO U
        generalize wr.heap.size = gb at *
        go_loopw [3, 6] (fun x i wr => ∃ k : Nat, k ≤ 6 ∧ i = .int .i64 k ∧ Hid (Ow wr W1.heap.size x (L k)) ∧ Hid (Up W4 wr)) (fun _ i _ => (7 - intOf i).toNat)
        case atStart => exact ⟨0, by omega, rfl, HO4.out, Up.refl _⟩
        case round =>
          clear HO4
          obtain ⟨k, hk, rfl, HO, U⟩ := hrel
          obtain ⟨A, cp, rfl, _, _, hr, _⟩ := HO.out.form
          replace hr := Lib.hid hr
          rw [LL.out k hk]
          obtain ⟨g0, g1, g2, g3, g4, g5⟩ := G.out
          replace g0 := U.out.cell g0; replace g1 := U.out.cell g1; replace g2 := U.out.cell g2; replace g3 := U.out.cell g3; replace g4 := U.out.cell g4; replace g5 := U.out.cell g5
          have k7 : k = 0 ∨ k = 1 ∨ k = 2 ∨ k = 3 ∨ k = 4 ∨ k = 5 ∨ k = 6 := by omega
          rcases k7 with rfl | rfl | rfl | rfl | rfl | rfl | rfl
          · go_wp2_with fail
            refine (PP.out 0 (by omega) u _ 20 _ _ rfl rfl (by omega) hr.out).mono ?_; rintro e w5 ⟨v', rfl, ho, hu⟩
            have HO' : Hid (Ow w5 W1.heap.size v' (L 1)) := Ow.base ho (U4.out.trans U.out).size
            have U' : Hid (Up W4 w5) := U.out.trans hu
            clear ho hu HO U hr
            go_wp2_with fail
            go_roundw
            case rel => exact ⟨1, by omega, by go_num, HO'.out, U'.out⟩
            case measure => simp [intOf]
          · go_wp2_with fail
            refine (PP.out 1 (by omega) s _ 24 _ _ rfl rfl (by omega) hr.out).mono ?_; rintro e w5 ⟨v', rfl, ho, hu⟩
            have HO' : Hid (Ow w5 W1.heap.size v' (L 2)) := Ow.base ho (U4.out.trans U.out).size
            have U' : Hid (Up W4 w5) := U.out.trans hu
            clear ho hu HO U hr
            go_wp2_with fail
            go_roundw
            case rel => exact ⟨2, by omega, by go_num, HO'.out, U'.out⟩
            case measure => simp [intOf]
          · go_wp2_with fail
            refine (PP.out 2 (by omega) l _ 28 _ _ rfl rfl (by omega) hr.out).mono ?_; rintro e w5 ⟨v', rfl, ho, hu⟩
            have HO' : Hid (Ow w5 W1.heap.size v' (L 3)) := Ow.base ho (U4.out.trans U.out).size
            have U' : Hid (Up W4 w5) := U.out.trans hu
            clear ho hu HO U hr
            go_wp2_with fail
            go_roundw
            case rel => exact ⟨3, by omega, by go_num, HO'.out, U'.out⟩
            case measure => simp [intOf]
          · go_wp2_with fail
            refine (PP.out 3 (by omega) t _ 32 _ _ rfl rfl (by omega) hr.out).mono ?_; rintro e w5 ⟨v', rfl, ho, hu⟩
            have HO' : Hid (Ow w5 W1.heap.size v' (L 4)) := Ow.base ho (U4.out.trans U.out).size
            have U' : Hid (Up W4 w5) := U.out.trans hu
            clear ho hu HO U hr
            go_wp2_with fail
            go_roundw
            case rel => exact ⟨4, by omega, by go_num, HO'.out, U'.out⟩
            case measure => simp [intOf]
          · go_wp2_with fail
            refine (PP.out 4 (by omega) y _ 36 _ _ rfl rfl (by omega) hr.out).mono ?_; rintro e w5 ⟨v', rfl, ho, hu⟩
            have HO' : Hid (Ow w5 W1.heap.size v' (L 5)) := Ow.base ho (U4.out.trans U.out).size
            have U' : Hid (Up W4 w5) := U.out.trans hu
            clear ho hu HO U hr
            go_wp2_with fail
            go_roundw
            case rel => exact ⟨5, by omega, by go_num, HO'.out, U'.out⟩
            case measure => simp [intOf]
          · go_wp2_with fail
            refine (PP.out 5 (by omega) c _ 40 _ _ rfl rfl (by omega) hr.out).mono ?_; rintro e w5 ⟨v', rfl, ho, hu⟩
            have HO' : Hid (Ow w5 W1.heap.size v' (L 6)) := Ow.base ho (U4.out.trans U.out).size
            have U' : Hid (Up W4 w5) := U.out.trans hu
            clear ho hu HO U hr
            go_wp2_with fail
            go_roundw
            case rel => exact ⟨6, by omega, by go_num, HO'.out, U'.out⟩
            case measure => simp [intOf]
          · go_wp2_with fail
            go_ret
            have ho := HO.out
            rw [LL.out 6 (by omega), L6.out] at ho
            exact ⟨_, rfl, Ow.base ho (by have := Z1.out; omega), (U1.out.trans U4.out).trans U.out⟩
  · replace mk2 : Hid (¬ v = 1 → 48 + v = (mb.toNat : Int)) := fun h => by have := mk2.out h; omega
    have R3 : Hid (Rd (((w.alloc (.cells #[.int .i64 v, .int .i64 u, .int .i64 s, .int .i64 l, .int .i64 t, .int .i64 y, .int .i64 c] 60)).alloc (.cells #[.int .u8 84, .int .u8 90, .int .u8 105, .int .u8 102] 5 (4, 5))).alloc (.cells #[.int .u8 (48 + v)] 5)) (some ⟨w.heap.size + 1 + 1, 0, none⟩) [mb]) := by
      have h := Rd.one ((w.alloc (.cells #[.int .i64 v, .int .i64 u, .int .i64 s, .int .i64 l, .int .i64 t, .int .i64 y, .int .i64 c] 60)).alloc (.cells #[.int .u8 84, .int .u8 90, .int .u8 105, .int .u8 102] 5 (4, 5))) (48 + v) mb 5 (mk2.out hv1)
      rw [World.size_alloc, World.size_alloc] at h
      exact h
    go_enter Tryz.func37, Tryz.ntmps37
    go_wp2_with (at_builtin; refine wpList_append_full _ rfl _ _ rfl ⟨w.heap.size + 1, 0, none⟩ [84, 90, 105, 102] 4 4 rfl rfl (R2.out.up (Up.alloc _ _)) (some ⟨w.heap.size + 1 + 1, 0, none⟩) [mb] 1 1 rfl rfl (by decide) R3.out (by decide) (by decide) ?_)
    intro x3 w3 ho hu
    have U3 : Hid (Up (w.alloc (.cells #[.int .i64 v, .int .i64 u, .int .i64 s, .int .i64 l, .int .i64 t, .int .i64 y, .int .i64 c] 60)) w3) := ((Up.alloc _ _).alloc' _).trans hu
    replace ho : Ow w3 (w.alloc (.cells #[.int .i64 v, .int .i64 u, .int .i64 s, .int .i64 l, .int .i64 t, .int .i64 y, .int .i64 c] 60)).heap.size x3 (front mb 0) := Ow.base ho (by simp only [World.size_alloc]; omega)
    clear hu R2 R3 kc
    generalize w.alloc (.cells #[.int .i64 v, .int .i64 u, .int .i64 s, .int .i64 l, .int .i64 t, .int .i64 y, .int .i64 c] 60) = W1 at *
    obtain HO := Lib.hid ho
    clear ho
    go_wp2_with fail
    go_loopw [3, 4] (fun x i wr => ∃ j : Nat, j ≤ 15 ∧ i = .int .i64 j ∧ Hid (Ow wr W1.heap.size x (front mb j)) ∧ Hid (Up W1 wr)) (fun _ i _ => (16 - intOf i).toNat)
    case atStart => exact ⟨0, by omega, rfl, HO.out, U3.out⟩
    case round =>
      clear HO U3
      obtain ⟨j, hj, rfl, HO, U⟩ := hrel
      by_cases hlt : j < 15
      · go_wp2_with (at_builtin; refine wpList_append_bytes _ rfl _ _ rfl W1.heap.size _ _ rfl (HO.out.up (Up.alloc _ _)) (some ⟨wr.heap.size, 0, none⟩) [0] 1 1 rfl rfl (Rd.one _ _ _ _ ?e1) ?e2 ?e3 ?_)
        case e1 => decide
        case e2 => rw [front_len]; simp; omega
        case e3 => have := U.out.size; simp; omega
        intro v' w4 ho hg hat
        have HO' : Hid (Ow w4 W1.heap.size v' (front mb (j + 1))) := by rw [front_succ] at ho; exact ho
        have U' : Hid (Up W1 w4) := (U.out.alloc' _).grown hg HO.out.block
        clear ho hg hat HO U
        go_wp2_with fail
        go_roundw
        case rel => exact ⟨j + 1, by omega, by go_num, HO'.out, U'.out⟩
        case measure => simp [intOf]; omega
      · obtain rfl : j = 15 := by omega
        rw [show (((15 : Nat) : Int)) = (15 : Int) from rfl]
        obtain ⟨c0, c1, c2, c3, c4, c5, c6⟩ := X1.out.up U.out
        go_wp2_with fail
        have U4 : Hid (Up W1 (wr.alloc (.cells #[.int .i64 u, .int .i64 s, .int .i64 l, .int .i64 t, .int .i64 y, .int .i64 c] 3))) := U.out.alloc' _
        have HO4 : Hid (Ow (wr.alloc (.cells #[.int .i64 u, .int .i64 s, .int .i64 l, .int .i64 t, .int .i64 y, .int .i64 c] 3)) W1.heap.size u3 (L 0)) := by
          rw [L0.out, ← F15.out]; exact HO.out.up (Up.alloc _ _)
        have g0 : (wr.alloc (.cells #[.int .i64 u, .int .i64 s, .int .i64 l, .int .i64 t, .int .i64 y, .int .i64 c] 3)).cell? ⟨wr.heap.size, 0, none⟩ = some (.int .i64 u) := by simp
        have g1 : (wr.alloc (.cells #[.int .i64 u, .int .i64 s, .int .i64 l, .int .i64 t, .int .i64 y, .int .i64 c] 3)).cell? ⟨wr.heap.size, 1, none⟩ = some (.int .i64 s) := by simp
        have g2 : (wr.alloc (.cells #[.int .i64 u, .int .i64 s, .int .i64 l, .int .i64 t, .int .i64 y, .int .i64 c] 3)).cell? ⟨wr.heap.size, 2, none⟩ = some (.int .i64 l) := by simp
        have g3 : (wr.alloc (.cells #[.int .i64 u, .int .i64 s, .int .i64 l, .int .i64 t, .int .i64 y, .int .i64 c] 3)).cell? ⟨wr.heap.size, 3, none⟩ = some (.int .i64 t) := by simp
        have g4 : (wr.alloc (.cells #[.int .i64 u, .int .i64 s, .int .i64 l, .int .i64 t, .int .i64 y, .int .i64 c] 3)).cell? ⟨wr.heap.size, 4, none⟩ = some (.int .i64 y) := by simp
        have g5 : (wr.alloc (.cells #[.int .i64 u, .int .i64 s, .int .i64 l, .int .i64 t, .int .i64 y, .int .i64 c] 3)).cell? ⟨wr.heap.size, 5, none⟩ = some (.int .i64 c) := by simp
        have G := Lib.hid (show _ ∧ _ ∧ _ ∧ _ ∧ _ ∧ _ from ⟨g0, g1, g2, g3, g4, g5⟩)
        clear g0 g1 g2 g3 g4 g5 c0 c1 c2 c3 c4 c5 c6
        generalize wr.alloc (.cells #[.int .i64 u, .int .i64 s, .int .i64 l, .int .i64 t, .int .i64 y, .int .i64 c] 3) = W4 at *
        clear HO U
        generalize wr.heap.size = gb at *
        go_loopw [3, 6] (fun x i wr => ∃ k : Nat, k ≤ 6 ∧ i = .int .i64 k ∧ Hid (Ow wr W1.heap.size x (L k)) ∧ Hid (Up W4 wr)) (fun _ i _ => (7 - intOf i).toNat)
        case atStart => exact ⟨0, by omega, rfl, HO4.out, Up.refl _⟩
        case round =>
          clear HO4
          obtain ⟨k, hk, rfl, HO, U⟩ := hrel
          obtain ⟨A, cp, rfl, _, _, hr, _⟩ := HO.out.form
          replace hr := Lib.hid hr
          rw [LL.out k hk]
          obtain ⟨g0, g1, g2, g3, g4, g5⟩ := G.out
          replace g0 := U.out.cell g0; replace g1 := U.out.cell g1; replace g2 := U.out.cell g2; replace g3 := U.out.cell g3; replace g4 := U.out.cell g4; replace g5 := U.out.cell g5
          have k7 : k = 0 ∨ k = 1 ∨ k = 2 ∨ k = 3 ∨ k = 4 ∨ k = 5 ∨ k = 6 := by omega
          rcases k7 with rfl | rfl | rfl | rfl | rfl | rfl | rfl
          · go_wp2_with fail
            refine (PP.out 0 (by omega) u _ 20 _ _ rfl rfl (by omega) hr.out).mono ?_; rintro e w5 ⟨v', rfl, ho, hu⟩
            have HO' : Hid (Ow w5 W1.heap.size v' (L 1)) := Ow.base ho (U4.out.trans U.out).size
            have U' : Hid (Up W4 w5) := U.out.trans hu
            clear ho hu HO U hr
            go_wp2_with fail
            go_roundw
            case rel => exact ⟨1, by omega, by go_num, HO'.out, U'.out⟩
            case measure => simp [intOf]
          · go_wp2_with fail
            refine (PP.out 1 (by omega) s _ 24 _ _ rfl rfl (by omega) hr.out).mono ?_; rintro e w5 ⟨v', rfl, ho, hu⟩
            have HO' : Hid (Ow w5 W1.heap.size v' (L 2)) := Ow.base ho (U4.out.trans U.out).size
            have U' : Hid (Up W4 w5) := U.out.trans hu
            clear ho hu HO U hr
            go_wp2_with fail
            go_roundw
            case rel => exact ⟨2, by omega, by go_num, HO'.out, U'.out⟩
            case measure => simp [intOf]
          · go_wp2_with fail
            refine (PP.out 2 (by omega) l _ 28 _ _ rfl rfl (by omega) hr.out).mono ?_; rintro e w5 ⟨v', rfl, ho, hu⟩
            have HO' : Hid (Ow w5 W1.heap.size v' (L 3)) := Ow.base ho (U4.out.trans U.out).size
            have U' : Hid (Up W4 w5) := U.out.trans hu
            clear ho hu HO U hr
            go_wp2_with fail
            go_roundw
            case rel => exact ⟨3, by omega, by go_num, HO'.out, U'.out⟩
            case measure => simp [intOf]
          · go_wp2_with fail
            refine (PP.out 3 (by omega) t _ 32 _ _ rfl rfl (by omega) hr.out).mono ?_; rintro e w5 ⟨v', rfl, ho, hu⟩
            have HO' : Hid (Ow w5 W1.heap.size v' (L 4)) := Ow.base ho (U4.out.trans U.out).size
            have U' : Hid (Up W4 w5) := U.out.trans hu
            clear ho hu HO U hr
            go_wp2_with fail
            go_roundw
            case rel => exact ⟨4, by omega, by go_num, HO'.out, U'.out⟩
            case measure => simp [intOf]
          · go_wp2_with fail
            refine (PP.out 4 (by omega) y _ 36 _ _ rfl rfl (by omega) hr.out).mono ?_; rintro e w5 ⟨v', rfl, ho, hu⟩
            have HO' : Hid (Ow w5 W1.heap.size v' (L 5)) := Ow.base ho (U4.out.trans U.out).size
            have U' : Hid (Up W4 w5) := U.out.trans hu
            clear ho hu HO U hr
            go_wp2_with fail
            go_roundw
            case rel => exact ⟨5, by omega, by go_num, HO'.out, U'.out⟩
            case measure => simp [intOf]
          · go_wp2_with fail
            refine (PP.out 5 (by omega) c _ 40 _ _ rfl rfl (by omega) hr.out).mono ?_; rintro e w5 ⟨v', rfl, ho, hu⟩
            have HO' : Hid (Ow w5 W1.heap.size v' (L 6)) := Ow.base ho (U4.out.trans U.out).size
            have U' : Hid (Up W4 w5) := U.out.trans hu
            clear ho hu HO U hr
            go_wp2_with fail
            go_roundw
            case rel => exact ⟨6, by omega, by go_num, HO'.out, U'.out⟩
            case measure => simp [intOf]
          · go_wp2_with fail
            go_ret
            have ho := HO.out
            rw [LL.out 6 (by omega), L6.out] at ho
            exact ⟨_, rfl, Ow.base ho (by have := Z1.out; omega), (U1.out.trans U4.out).trans U.out⟩
end Go.Proofs.YtaljddoenjgbfaaGreat
