/-
  What a writer tells: numbers, minutes, clocks, offsets, names.
-/
import Derived.Test.YtalpbbgkallohaaDoorLcWrB
import Derived.Test.YtalpbbgkallohaaDoorLcLib8
import Derived.Test.YtalpbbgkallohaaDoorLcItoa8
import Derived.Test.YtalpbbgkallohaaDoorLcRi
import Derived.Test.YtalpbbgkallohaaDoorLcPx2
import Derived.RegionTactic
import Derived.Deep.RegionHeld
namespace Go.Proofs.YtalpbbgkallohaaDoor
open Go.ChangeShapes Go.WideShapes Go.ChangeAt Go.RowKit Lc

/-- Block b is a writer that holds l, made since the world w0. -/
def Wx (w0 : World) (b : Nat) (l : List UInt8) (w : World) : Prop := Tabs w0 ∧ Up w0 w ∧ Wr w0.heap.size b l w ∧ l.length ≤ 10000
/-- All but the writer's memory stands. -/
def Ot (b : Nat) (w w' : World) : Prop := Lib.OthersKept 5 (some b) w w'
theorem Ot.refl (b : Nat) (w : World) : Ot b w w := Lib.OthersKept.refl _ _ _
theorem Ot.trans {b : Nat} {x y z : World} (h : Ot b x y) (k : Ot b y z) : Ot b x z := Lib.OthersKept.trans h k
theorem Ot.up {b : Nat} {x y : World} (u : Up x y) : Ot b x y := fun k o h _ _ => by
  have hlt : k < x.heap.size := (Array.getElem?_eq_some_iff.1 h).1
  rw [u.block k hlt]; exact h
theorem Bk.ot {w w' : World} {b k : Nat} {cs : Array Value} {T : TypeId} (h : Bk w k cs T) (n : Ot b w w') (hk : k ≠ b) : Bk w' k cs T :=
  ⟨n k _ h.1 (by simpa using hk) (fun c fz e => h.2 (by injection e)), h.2⟩
theorem Wr.up {B b : Nat} {l : List UInt8} {w w' : World} (h : Wr B b l w) (u : Up w w') : Wr B b l w' := by
  rcases h with ⟨h1, v, h2, h3, h4⟩ | ⟨h1, v, h2, h3, h4⟩
  all_goals
    have hlt : b < w.heap.size := (Array.getElem?_eq_some_iff.1 h2).1
    have h3' : w'.ownsRow B 5 1 v (Lib.byteCells l).length (Lib.byteCells l) := World.ownsRow.kept (row := none) h3 ⟨u.os, u.tape, u.output, u.size, fun k hk _ => u.block k hk⟩ (by
      rcases hb : v.ownBlock with _ | k
      · exact .inl rfl
      · exact .inr (by simp))
  · exact .inl ⟨h1, v, by rw [u.block b hlt]; exact h2, h3', h4⟩
  · exact .inr ⟨h1, v, by rw [u.block b hlt]; exact h2, h3', h4⟩
theorem Wx.up {w0 w w' : World} {b : Nat} {l : List UInt8} (h : Wx w0 b l w) (u : Up w w') : Wx w0 b l w' := ⟨h.1, h.2.1.trans u, h.2.2.1.up u, h.2.2.2⟩
theorem Wx.tabs {w0 w : World} {b : Nat} {l : List UInt8} (h : Wx w0 b l w) : Tabs w := Tabs.up h.1 h.2.1
theorem Wx.len {w0 w : World} {b : Nat} {l : List UInt8} (h : Wx w0 b l w) : l.length ≤ 10000 := h.2.2.2
theorem Up.wn {w0 w w' : World} {b : Nat} (u : Up w0 w) (n : Wn w0.heap.size b w w') : Up w0 w' := Below.trans u n.1

/-- What a call on a writer does: it tells t. -/
def Tl (w0 : World) (b : Nat) (l t : List UInt8) (w : World) (e : Ending) (w' : World) : Prop := e = .returned (.tuple #[]) ∧ Wx w0 b (l ++ t) w' ∧ Ot b w w'
theorem write_any (w0 : World) (b : Nat) (l t : List UInt8) (w : World) (h : Wx w0 b l w) (ht : l.length + t.length ≤ 10000) :
    Calls Tryd.prog 40 #[.pointer (some ⟨b, 0, none⟩), .string (tx t)] w fun e w' => e = .returned (.tuple #[.int .i64 (tx t).size, .nilIface]) ∧ Wx w0 b (l ++ t) w' ∧ Ot b w w' := by
  refine (ws_any _ b l (tx t) w h.2.2.1 (by rw [tx_size]; omega) h.2.1.size).mono ?_
  rintro e w' ⟨rfl, h1, h2⟩
  exact ⟨rfl, ⟨h.1, h.2.1.wn h2, h1, by rw [List.length_append]; omega⟩, h2.2⟩

set_option maxRecDepth 100000 in
set_option maxHeartbeats 4000000 in
theorem wnum_any (w0 : World) (b : Nat) (l : List UInt8) (n : Int) (w : World) (h : Wx w0 b l w) (h0 : 0 ≤ n) (h1 : n < 100000) (hl : l.length ≤ 9000) :
    Calls Tryd.prog 55 #[.pointer (some ⟨b, 0, none⟩), .int .i64 n] w fun e w' => Tl w0 b l (dec n) w e w' := by
  unfold Tl
  have I : ∀ W, Wx w0 b l W → _ := fun W hW => itoa_any n W hW.tabs (fitB_true.2 (by omega))
  have e : Lib.itoa n = dec n := by unfold Lib.itoa dec; rw [if_neg (by omega)]
  rw [e] at I
  have hd := dec_le (n := n) (k := 5) (by decide) (by omega)
  have WS : ∀ W, Wx w0 b l W → _ := fun W hW => write_any w0 b l (dec n) W hW (by omega)
  unfold tx at WS
  clear e
  generalize dec n = t at *
  have hx := Lib.hid h
  clear h
  go_enter Tryd.func55, Tryd.ntmps55
  go_wp2_with fail
  go_region_with (first | (go_at_call 62; refine (I _ (hx.out.up (Up.drewN _ 1))).mono ?_; rintro e w1 ⟨rfl, u1⟩) | (go_at_call 40; refine (WS _ (hx.out.up ((Up.drewN _ 1).trans (by assumption)))).mono ?_; rintro e w2 ⟨rfl, h2, o2⟩))
  go_wp2_with fail
  go_end0
  exact ⟨rfl, h2, (Ot.up ((Up.drewN w 1).trans u1)).trans o2⟩

/-- Boxes of worlds. -/
theorem Tl.mk {w0 : World} {b : Nat} {l t : List UInt8} {w w' : World} (h : Wx w0 b (l ++ t) w') (o : Ot b w w') : Tl w0 b l t w (.returned (.tuple #[])) w' := ⟨rfl, h, o⟩
set_option maxRecDepth 100000 in
set_option maxHeartbeats 4000000 in
theorem wpair_any (w0 : World) (b : Nat) (l : List UInt8) (n : Int) (w : World) (h : Wx w0 b l w) (h0 : 0 ≤ n) (h1 : n < 100) (hl : l.length ≤ 8000) :
    Calls Tryd.prog 60 #[.pointer (some ⟨b, 0, none⟩), .int .i64 n] w fun e w' => Tl w0 b l (pairT n) w e w' := by
  unfold pairT
  by_cases c : n < 10
  · rw [if_pos c]
    go_enter Tryd.func60, Tryd.ntmps60
    go_wp2_with fail
    refine (write_any w0 b l [58] w h (by simp; omega)).mono ?_
    rintro e w1 ⟨rfl, x1, o1⟩
    go_wp2_with fail
    refine (write_any w0 b (l ++ [58]) [48] w1 x1 (by simp; omega)).mono ?_
    rintro e w2 ⟨rfl, x2, o2⟩
    go_wp2_with fail
    refine (wnum_any w0 b _ n w2 x2 h0 (by omega) (by simp; omega)).mono ?_
    rintro e w3 ⟨rfl, x3, o3⟩
    go_wp2_with fail
    go_end0
    exact Tl.mk (by simpa using x3) ((o1.trans o2).trans o3)
  · rw [if_neg c]
    go_enter Tryd.func60, Tryd.ntmps60
    go_wp2_with fail
    refine (write_any w0 b l [58] w h (by simp; omega)).mono ?_
    rintro e w1 ⟨rfl, x1, o1⟩
    go_wp2_with fail
    refine (wnum_any w0 b _ n w1 x1 h0 (by omega) (by simp; omega)).mono ?_
    rintro e w3 ⟨rfl, x3, o3⟩
    go_wp2_with fail
    go_end0
    exact Tl.mk (by simpa using x3) (o1.trans o3)

theorem tdiv_pos {a b : Int} (h : 0 ≤ a) : a.tdiv b = a / b := Int.tdiv_eq_ediv_of_nonneg h
theorem tmod_pos {a b : Int} (h : 0 ≤ a) : a.tmod b = a % b := Int.tmod_eq_emod_of_nonneg h
set_option maxRecDepth 100000 in
set_option maxHeartbeats 4000000 in
/-- Behind the sign. -/
theorem wclock_pos (w0 : World) (b : Nat) (l : List UInt8) (n : Int) (w : World) (h : Wx w0 b l w) (h0 : 0 ≤ n) (h1 : n < 1000000) (hl : l.length ≤ 7000) :
    Calls Tryd.prog 53 #[.pointer (some ⟨b, 0, none⟩), .int .i64 n] w fun e w' => Tl w0 b l (clockT n) w e w' := by
  rw [clockT_pos h0]
  have e1 : n.tdiv 3600 = n / 3600 := tdiv_pos h0
  have e2 : n.tmod 3600 = n % 3600 := tmod_pos h0
  have e3 : n.tmod 60 = n % 60 := tmod_pos h0
  have e4 : (n % 3600).tdiv 60 = n % 3600 / 60 := tdiv_pos (by omega)
  have s0 : ¬ n < 0 := by omega
  have WN := fun l' W hW hl' => wnum_any w0 b l' (n / 3600) W hW (by omega) (by omega) hl'
  have q0 := dec_le (n := n / 3600) (k := 3) (by decide) (by omega)
  have F : fitB n = true := fitB_true.2 (by omega)
  unfold clockU
  by_cases c1 : n % 3600 = 0
  · have c2 : n % 60 = 0 := by omega
    rw [if_pos c1, if_pos c2]
    go_enter Tryd.func53, Tryd.ntmps53
    go_wp2_with fail
    refine (WN l w h (by omega)).mono ?_
    rintro e w1 ⟨rfl, x1, o1⟩
    go_wp2_with fail
    go_end0
    exact Tl.mk (by simpa using x1) o1
  · have WP := fun l' W hW hl' => wpair_any w0 b l' (n % 3600 / 60) W hW (by omega) (by omega) hl'
    have q1 : (pairT (n % 3600 / 60)).length = 3 := by rw [pairT_two, List.length_cons, two_len (by omega) (by omega)]
    rw [if_neg c1]
    by_cases c2 : n % 60 = 0
    · rw [if_pos c2]
      generalize pairT (n % 3600 / 60) = t1 at *
      generalize dec (n / 3600) = t0 at *
      go_enter Tryd.func53, Tryd.ntmps53
      go_wp2_with fail
      refine (WN l w h (by omega)).mono ?_
      rintro e w1 ⟨rfl, x1, o1⟩
      go_wp2_with fail
      refine (WP _ w1 x1 (by simp; omega)).mono ?_
      rintro e w2 ⟨rfl, x2, o2⟩
      go_wp2_with fail
      go_end0
      exact Tl.mk (by simpa using x2) (o1.trans o2)
    · rw [if_neg c2]
      have WQ := fun l' W hW hl' => wpair_any w0 b l' (n % 60) W hW (by omega) (by omega) hl'
      generalize pairT (n % 3600 / 60) = t1 at *
      generalize pairT (n % 60) = t2 at *
      generalize dec (n / 3600) = t0 at *
      go_enter Tryd.func53, Tryd.ntmps53
      go_wp2_with fail
      refine (WN l w h (by omega)).mono ?_
      rintro e w1 ⟨rfl, x1, o1⟩
      go_wp2_with fail
      refine (WP _ w1 x1 (by simp; omega)).mono ?_
      rintro e w2 ⟨rfl, x2, o2⟩
      go_wp2_with fail
      refine (WQ _ w2 x2 (by simp; omega)).mono ?_
      rintro e w3 ⟨rfl, x3, o3⟩
      go_wp2_with fail
      go_end0
      exact Tl.mk (by simpa using x3) ((o1.trans o2).trans o3)
set_option maxRecDepth 100000 in
set_option maxHeartbeats 4000000 in
/-- With a sign. -/
theorem wclock_neg (w0 : World) (b : Nat) (l : List UInt8) (n : Int) (w : World) (h : Wx w0 b l w) (hp : 0 < n) (h1 : n < 1000000) (hl : l.length ≤ 7000) :
    Calls Tryd.prog 53 #[.pointer (some ⟨b, 0, none⟩), .int .i64 (-n)] w fun e w' => Tl w0 b l (45 :: clockU n) w e w' := by
  have h0 : 0 ≤ n := by omega
  have e1 : n.tdiv 3600 = n / 3600 := tdiv_pos h0
  have e2 : n.tmod 3600 = n % 3600 := tmod_pos h0
  have e3 : n.tmod 60 = n % 60 := tmod_pos h0
  have e4 : (n % 3600).tdiv 60 = n % 3600 / 60 := tdiv_pos (by omega)
  have s0 : -n < 0 := by omega
  have WN := fun l' W hW hl' => wnum_any w0 b l' (n / 3600) W hW (by omega) (by omega) hl'
  have q0 := dec_le (n := n / 3600) (k := 3) (by decide) (by omega)
  have F : fitB n = true := fitB_true.2 (by omega)
  unfold clockU
  by_cases c1 : n % 3600 = 0
  · have c2 : n % 60 = 0 := by omega
    rw [if_pos c1, if_pos c2]
    go_enter Tryd.func53, Tryd.ntmps53
    go_wp2_with fail
    refine (write_any w0 b l [45] w h (by simp; omega)).mono ?_
    rintro e wS ⟨rfl, xS, oS⟩
    go_wp2_with fail
    refine (WN (l ++ [45]) wS xS (by simp; omega)).mono ?_
    rintro e w1 ⟨rfl, x1, o1⟩
    go_wp2_with fail
    go_end0
    exact Tl.mk (by simpa using x1) (oS.trans o1)
  · have WP := fun l' W hW hl' => wpair_any w0 b l' (n % 3600 / 60) W hW (by omega) (by omega) hl'
    have q1 : (pairT (n % 3600 / 60)).length = 3 := by rw [pairT_two, List.length_cons, two_len (by omega) (by omega)]
    rw [if_neg c1]
    by_cases c2 : n % 60 = 0
    · rw [if_pos c2]
      generalize pairT (n % 3600 / 60) = t1 at *
      generalize dec (n / 3600) = t0 at *
      go_enter Tryd.func53, Tryd.ntmps53
      go_wp2_with fail
      refine (write_any w0 b l [45] w h (by simp; omega)).mono ?_
      rintro e wS ⟨rfl, xS, oS⟩
      go_wp2_with fail
      refine (WN (l ++ [45]) wS xS (by simp; omega)).mono ?_
      rintro e w1 ⟨rfl, x1, o1⟩
      go_wp2_with fail
      refine (WP _ w1 x1 (by simp; omega)).mono ?_
      rintro e w2 ⟨rfl, x2, o2⟩
      go_wp2_with fail
      go_end0
      exact Tl.mk (by simpa using x2) ((oS.trans o1).trans o2)
    · rw [if_neg c2]
      have WQ := fun l' W hW hl' => wpair_any w0 b l' (n % 60) W hW (by omega) (by omega) hl'
      generalize pairT (n % 3600 / 60) = t1 at *
      generalize pairT (n % 60) = t2 at *
      generalize dec (n / 3600) = t0 at *
      go_enter Tryd.func53, Tryd.ntmps53
      go_wp2_with fail
      refine (write_any w0 b l [45] w h (by simp; omega)).mono ?_
      rintro e wS ⟨rfl, xS, oS⟩
      go_wp2_with fail
      refine (WN (l ++ [45]) wS xS (by simp; omega)).mono ?_
      rintro e w1 ⟨rfl, x1, o1⟩
      go_wp2_with fail
      refine (WP _ w1 x1 (by simp; omega)).mono ?_
      rintro e w2 ⟨rfl, x2, o2⟩
      go_wp2_with fail
      refine (WQ _ w2 x2 (by simp; omega)).mono ?_
      rintro e w3 ⟨rfl, x3, o3⟩
      go_wp2_with fail
      go_end0
      exact Tl.mk (by simpa using x3) (((oS.trans o1).trans o2).trans o3)
theorem wclock_any (w0 : World) (b : Nat) (l : List UInt8) (n : Int) (w : World) (h : Wx w0 b l w) (h0 : -1000000 < n) (h1 : n < 1000000) (hl : l.length ≤ 7000) :
    Calls Tryd.prog 53 #[.pointer (some ⟨b, 0, none⟩), .int .i64 n] w fun e w' => Tl w0 b l (clockT n) w e w' := by
  by_cases c : n < 0
  · have := wclock_neg w0 b l (-n) w h (by omega) (by omega) hl
    rw [Int.neg_neg] at this
    unfold clockT
    rw [if_pos c]; exact this
  · exact wclock_pos w0 b l n w h (by omega) h1 hl

set_option maxRecDepth 100000 in
set_option maxHeartbeats 4000000 in
theorem woffset_any (w0 : World) (b : Nat) (l : List UInt8) (n : Int) (w : World) (h : Wx w0 b l w) (h0 : -1000000 < n) (h1 : n < 1000000) (hl : l.length ≤ 7000) :
    Calls Tryd.prog 39 #[.pointer (some ⟨b, 0, none⟩), .int .i64 n] w fun e w' => Tl w0 b l (clockT (-n)) w e w' := by
  have WC := wclock_any w0 b l (-n) w h (by omega) (by omega) hl
  have F : fitB (-n) = true := fitB_true.2 (by omega)
  have ww := wrap_fit F
  generalize clockT (-n) = t at *
  go_enter Tryd.func39, Tryd.ntmps39
  go_wp2_with fail
  refine WC.mono ?_
  rintro e w1 ⟨rfl, x1, o1⟩
  go_wp2_with fail
  go_end0
  exact Tl.mk x1 o1

theorem ltr_all {l : List UInt8} : (((ltr l).length : Int) == (l.length : Int)) = l.all isL := by
  rw [Bool.eq_iff_iff, beq_iff_eq]
  constructor
  · intro h
    have e := tw_split (p := isL) l
    have h2 : (l.takeWhile isL).length = l.length := by have : (ltr l).length = l.length := by omega
                                                        exact this
    have h3 : l.drop (l.takeWhile isL).length = [] := by rw [h2]; exact List.drop_length
    rw [h3, List.append_nil] at e
    rw [e]; exact tw_all l
  · intro h
    have := tw_append (p := isL) (a := l) (t := []) h (NoH.nil _)
    rw [List.append_nil] at this
    unfold ltr; rw [this]
set_option maxRecDepth 100000 in
set_option maxHeartbeats 4000000 in
theorem wname_any (w0 : World) (b : Nat) (l m : List UInt8) (w : World) (h : Wx w0 b l w) (hm : m.length ≤ 20) (hl : l.length ≤ 7000) :
    Calls Tryd.prog 38 #[.pointer (some ⟨b, 0, none⟩), .string (tx m)] w fun e w' => Tl w0 b l (nameT m) w e w' := by
  have LA : ∀ w, _ := fun w => letters_any m w (by unfold maxLen; omega)
  have sz := tx_size m
  have q := @ltr_all m
  unfold nameT
  by_cases c : m.all isL = true
  · rw [if_pos c]
    rw [c] at q
    have W1 := write_any w0 b l m w h (by omega)
    have q' : ((ltr m).length : Int) = (m.length : Int) := by simpa using q
    generalize tx m = s at *
    go_enter Tryd.func38, Tryd.ntmps38
    go_wp2_with fail
    refine (LA _).mono ?_
    rintro e w1 ⟨rfl, rfl⟩
    go_wp2_with fail
    refine W1.mono ?_
    rintro e w1 ⟨rfl, x1, o1⟩
    go_wp2_with fail
    go_end0
    exact Tl.mk x1 o1
  · rw [if_neg c]
    have c' : m.all isL = false := by simpa using c
    rw [c'] at q
    have q' : ¬ ((ltr m).length : Int) = (m.length : Int) := by simpa using q
    have W1 := write_any w0 b l (60 :: (m ++ [62])) w h (by simp; omega)
    have ea : tx (60 :: (m ++ [62])) = (⟨#[60]⟩ ++ tx m) ++ ⟨#[62]⟩ := by
      rw [show (⟨#[60]⟩ : ByteArray) = tx [60] from rfl, show (⟨#[62]⟩ : ByteArray) = tx [62] from rfl, tx_append, tx_append]; rfl
    rw [ea] at W1
    clear ea c c'
    generalize tx m = s at *
    go_enter Tryd.func38, Tryd.ntmps38
    go_wp2_with fail
    refine (LA _).mono ?_
    rintro e w1 ⟨rfl, rfl⟩
    go_wp2_with fail
    refine W1.mono ?_
    rintro e w1 ⟨rfl, x1, o1⟩
    go_wp2_with fail
    go_end0
    exact Tl.mk x1 o1
end Go.Proofs.YtalpbbgkallohaaDoor
