/-
  Package rule: the turns of three years (turnsAround).
-/
import Derived.Test.YtbneokgeochinaaDoorLcRuD
import Derived.Test.YtbneokgeochinaaDoorLcNtl
namespace Go.Proofs.YtbneokgeochinaaDoor
open Go.ChangeShapes Go.WideShapes Go.ChangeAt Go.RowKit Go.Sort Lc

/-- The first k of the years that are asked. -/
def yrk (y : Int) (k : Nat) : List Int := ([y - 1, y, y + 1].take k).filter yrB
theorem yrk_3 (y : Int) : yrk y 3 = yrs y := rfl
theorem yrk_len (y : Int) (k : Nat) : (yrk y k).length ≤ 3 := by
  unfold yrk
  have := List.length_filter_le yrB ([y - 1, y, y + 1].take k)
  rw [List.length_take] at this
  simp at this; omega
theorem yrk_step (y : Int) {k : Nat} (h : k < 3) : yrk y (k + 1) = if yrB (y - 1 + (k : Int)) = true then yrk y k ++ [y - 1 + (k : Int)] else yrk y k := by
  unfold yrk
  rcases (show k = 0 ∨ k = 1 ∨ k = 2 by omega) with rfl | rfl | rfl
  · cases c : yrB (y - 1) <;> simp [c]
  · rw [show y - 1 + ((1 : Nat) : Int) = y by omega]
    cases c : yrB (y - 1) <;> cases d : yrB y <;> simp [c, d]
  · rw [show y - 1 + ((2 : Nat) : Int) = y + 1 by omega]
    cases c : yrB (y - 1) <;> cases d : yrB y <;> cases e : yrB (y + 1) <;> simp [c, d, e]
structure RelT (r : Ru) (y : Int) (w1 : World) (s e n : Value) (wr : World) : Prop where
  ex : ∃ k : Nat, k ≤ 3 ∧ n = .int .i64 (y - 1 + (k : Int)) ∧ Ox wr w1.heap.size s ((yrk y k).map (tnS r)) ∧ Ox wr w1.heap.size e ((yrk y k).map (tnE r)) ∧ Ap s e ∧ Up w1 wr
/-- What is handed back. -/
def ArP (r : Ru) (y : Int) (w : World) (e : Ending) (w' : World) : Prop :=
  ∃ A c A' c', e = .returned (.tuple #[.slice A (yrs y).length c, .slice A' (yrs y).length c']) ∧ Rn w' A ((yrs y).map (tnS r)) ∧ Rn w' A' ((yrs y).map (tnE r)) ∧ Up w w'
set_option maxRecDepth 100000 in
set_option maxHeartbeats 8000000 in
theorem around_any (r : Ru) (y : Int) (w : World) (T : Tab w) (hr : rightB r true = true) (hb : r.both = true) (hy : yrB y = true) :
    Calls Tryd.prog 56 #[.agg (rA r), .int .i64 y] w fun e w' => ArP r y w e w' := by
  have B0 := Lib.hid (Bk.new w (rA r) 27 (by decide))
  have U0 := Lib.hid (Up.alloc w (.cells (rA r) 27))
  have t0 := Lib.hid (T.up U0.out)
  obtain ⟨y1, y2⟩ := yrB_parts hy
  have Y := Lib.hid (fun n V T => isYear_any n V T)
  have TN : Hid (∀ n V, Tab V → yrB n = true → _) := Lib.hid (fun n V T h => turns_any r n V T (by unfold okT; rw [hr, hb, h]; rfl))
  clear T hr hb hy
  go_enter Tryd.func56, Tryd.ntmps56
  go_upto_region 1 with (fail)
  generalize hW : w.alloc _ = W at *
  have W1 : W.heap.size = w.heap.size + 1 := by rw [← hW, World.size_alloc]
  clear hW
  go_wp2_with fail
  go_loopw [6, 7, 8] (fun s e n wr => RelT r y W s e n wr) (fun _ _ n _ => (y + 3 - intOf n).toNat)
  case atStart => exact ⟨⟨0, by omega, by simp, Ox.nil _ _, Ox.nil _ _, (fun k hk => by cases hk), Up.refl _⟩⟩
  case round =>
    obtain ⟨k, k3, rfl, os, oe, ap, ur⟩ := hrel.ex
    have B2 := Lib.hid (B0.out.up ur)
    have UR := Lib.hid ur
    have OS := Lib.hid os
    have OE := Lib.hid oe
    have AP := Lib.hid ap
    have tr := Lib.hid (t0.out.up ur)
    clear os oe ap ur hrel
    by_cases kk : k = 3
    · subst kk
      have gg : decide (y - 1 + ((3 : Nat) : Int) ≤ y + 1) = false := by simp; omega
      have gs := OS.out
      have ge := OE.out
      rw [yrk_3] at gs ge
      obtain ⟨A, c, rfl, RS⟩ := gs.form
      obtain ⟨A', c', rfl, RE⟩ := ge.form
      have RS' : Rn wr A ((yrs y).map (tnS r)) := RS
      have RE' : Rn wr A' ((yrs y).map (tnE r)) := RE
      simp only [List.length_map] at ⊢
      have UW := Lib.hid (U0.out.trans UR.out)
      have HS := Lib.hid RS'
      have HE := Lib.hid RE'
      clear OS OE gs ge AP RS RE RS' RE'
      go_wp2_with fail
      go_ret2
      exact ⟨A, c, A', c', rfl, HS.out, HE.out, UW.out⟩
    · have gg : decide (y - 1 + (k : Int) ≤ y + 1) = true := by simp; omega
      have ST := Lib.hid (yrk_step y (k := k) (by omega))
      go_wp2_with fail
      refine (Y.out _ _ tr.out).mono ?_; rintro e' w2 ⟨rfl, hw⟩
      subst hw
      cases hy : yrB (y - 1 + (k : Int)) with
      | false =>
        have S2 := ST.out
        rw [hy, if_neg (by decide)] at S2
        have OS2 := OS.out
        have OE2 := OE.out
        rw [← S2] at OS2 OE2
        have OS3 := Lib.hid OS2
        have OE3 := Lib.hid OE2
        clear OS OE OS2 OE2 ST S2 TN Y
        go_wp2_with fail
        go_roundw
        case rel => exact ⟨⟨k + 1, by omega, by go_num, OS3.out, OE3.out, AP.out, UR.out⟩⟩
        case measure => simp [intOf]; omega
      | true =>
        have S2 := ST.out
        rw [hy, if_pos rfl] at S2
        have TY := Lib.hid (TN.out (y - 1 + (k : Int)) _ tr.out hy)
        have S3 : Hid ((yrk y (k + 1)).map (tnS r) = (yrk y k).map (tnS r) ++ [tnS r (y - 1 + (k : Int))]) := Lib.hid (by rw [S2]; simp)
        have S4 : Hid ((yrk y (k + 1)).map (tnE r) = (yrk y k).map (tnE r) ++ [tnE r (y - 1 + (k : Int))]) := Lib.hid (by rw [S2]; simp)
        have ll := yrk_len y k
        have l1 : ((yrk y k).map (tnS r)).length ≤ 1000000 := by rw [List.length_map]; omega
        have l2 : ((yrk y k).map (tnE r)).length ≤ 1000000 := by rw [List.length_map]; omega
        clear ST S2 TN Y hy ll
        generalize tnS r (y - 1 + (k : Int)) = A at *
        generalize tnE r (y - 1 + (k : Int)) = E at *
        obtain ⟨LS, hLS⟩ : ∃ LS, (yrk y k).map (tnS r) = LS := ⟨_, rfl⟩
        obtain ⟨LE, hLE⟩ : ∃ LE, (yrk y k).map (tnE r) = LE := ⟨_, rfl⟩
        rw [hLS] at OS S3 l1
        rw [hLE] at OE S4 l2
        clear hLS hLE
        go_upto_region 6 with (fail)
        refine wp_region_lit ?_
        refine wpList_ld rfl 2 w.heap.size r _ rfl B2.out rfl ?_
        go_wp2_with fail
        refine TY.out.mono ?_; rintro e' w3 ⟨rfl, u3⟩
        have OS3 := Lib.hid ((OS.out.up u3).up (Up.alloc w3 (.cells #[.int .i64 A] 2)))
        have OE3 := Lib.hid ((OE.out.up u3).up (Up.alloc w3 (.cells #[.int .i64 A] 2)))
        have U3 := Lib.hid (UR.out.trans u3)
        have sz3 : W.heap.size ≤ w3.heap.size := U3.out.size
        clear u3 OS OE UR tr TY B2
        go_wp2_with (at_builtin; refine wpList_append_i64 _ rfl _ _ rfl W.heap.size _ LS rfl OS3.out w3.heap.size A rfl (by simp) l1 (by simp; omega) ?_)
        intro v4 w4 ho hg hn
        rw [← W1] at ho
        have AP4 := Lib.hid (Ap.next AP.out (n := w3.heap.size + 1) (fun k hk => by have := OE3.out.lt k hk; rw [World.size_alloc] at this; exact this) hn)
        have OE4 : Hid (Ox w4 W.heap.size u7 LE) := Lib.hid (World.ownsRow.kept OE3.out hg AP.out.row)
        have OS4 : Hid (Ox w4 W.heap.size v4 (LS ++ [A])) := Lib.hid ho
        have U4 : Hid (Up W w4) := Lib.hid ((U3.out.alloc' _).grownx hg OS3.out.block)
        have sz4 : W.heap.size ≤ w4.heap.size := U4.out.size
        clear ho hg hn OE3 OS3 U3 AP sz3
        have OS5 := Lib.hid (OS4.out.up (Up.alloc w4 (.cells #[.int .i64 E] 2)))
        have OE5 := Lib.hid (OE4.out.up (Up.alloc w4 (.cells #[.int .i64 E] 2)))
        clear OS4 OE4
        go_wp2_with (at_builtin; refine wpList_append_i64 _ rfl _ _ rfl W.heap.size _ LE rfl OE5.out w4.heap.size E rfl (by simp) l2 (by simp; omega) ?_)
        intro v6 w6 ho hg hn
        rw [← W1] at ho
        have AP6 := Lib.hid (Ap.next AP4.out.sym (n := w4.heap.size + 1) (fun k hk => by have := OS5.out.lt k hk; rw [World.size_alloc] at this; exact this) hn)
        have OS6 : Hid (Ox w6 W.heap.size v4 (LS ++ [A])) := Lib.hid (World.ownsRow.kept OS5.out hg AP4.out.sym.row)
        have OE6 : Hid (Ox w6 W.heap.size v6 (LE ++ [E])) := Lib.hid ho
        have U6 : Hid (Up W w6) := Lib.hid ((U4.out.alloc' _).grownx hg OE5.out.block)
        clear ho hg hn OE5 OS5 U4 AP4 sz4
        go_wp2_with fail
        go_roundw
        case rel => exact ⟨⟨k + 1, by omega, by go_num, by rw [S3.out]; exact OS6.out, by rw [S4.out]; exact OE6.out, AP6.out.sym, U6.out⟩⟩
        case measure => simp [intOf]; omega
end Go.Proofs.YtbneokgeochinaaDoor
