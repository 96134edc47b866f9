/-
  The program's block: rightLeaps.
-/
import Derived.Test.YtoijaananjlfpaaLcBkJ
namespace Go.Proofs.Ytoijaananjlfpaa
open Go.ChangeShapes Go.WideShapes Go.ChangeAt Go.RowKit Lc

/-- Block B is a box of two numbers that may be written. -/
def Bx2 (w : World) (B : Nat) (a b : Int) : Prop := w.cell? ⟨B, 0, none⟩ = some (.int .i64 a) ∧ w.cell? ⟨B, 1, none⟩ = some (.int .i64 b) ∧ w.frozen? ⟨B, 0, none⟩ = false ∧ w.frozen? ⟨B, 1, none⟩ = false
theorem Bx2.up {w w' : World} {B : Nat} {a b : Int} (h : Bx2 w B a b) (u : Up w w') : Bx2 w' B a b := by
  have lt := cell_lt h.1
  exact ⟨u.cell h.1, u.cell h.2.1, by rw [World.frozen?_of_block (Below.block u _ lt)]; exact h.2.2.1, by rw [World.frozen?_of_block (Below.block u _ lt)]; exact h.2.2.2⟩
theorem Bx2.new (w : World) (a b : Int) (t : TypeId) : Bx2 (w.alloc (.cells #[.int .i64 a, .int .i64 b] t)) w.heap.size a b := by
  refine ⟨by simp, by simp, ?_, ?_⟩ <;> simp

theorem Bx2.set2 {w : World} {B : Nat} {a b : Int} (h : Bx2 w B a b) (x y : Int) : Bx2 ((w.setCell ⟨B, 0, none⟩ (.int .i64 x)).setCell ⟨B, 1, none⟩ (.int .i64 y)) B x y := by
  obtain ⟨h1, h2, h3, h4⟩ := h
  refine ⟨?_, ?_, by rw [World.frozen?_setCell, World.frozen?_setCell]; exact h3, by rw [World.frozen?_setCell, World.frozen?_setCell]; exact h4⟩
  · rw [World.cell?_setCell_other _ _ _ _ (fun c => by injection c with _ c; cases c), World.cell?_setCell_same _ _ _ h1]
  · refine World.cell?_setCell_same (u := .int .i64 b) _ _ _ ?_
    rw [World.cell?_setCell_other _ _ _ _ (fun c => by injection c with _ c; cases c)]; exact h2
set_option maxRecDepth 100000 in
set_option maxHeartbeats 4000000 in
theorem rleaps_any (A : Option Addr) (ls : List Lep) (c : Nat) (z ver : Int) (w : World) (ra : Rc w A (lc ls)) :
    Calls Try.prog 36 #[.slice A ls.length c, .int .i64 z, .int .i64 ver] w fun e w' => e = .returned (.bool (rlB ls z ver)) ∧ Up w w' := by
  have RA := Lib.hid ra
  clear ra
  obtain ⟨q, hq⟩ : ∃ q, ls.length = q := ⟨_, rfl⟩
  have E := Lib.hid (show rlB ls z ver = (decide (ls.length ≤ 5000) && allB ls.length (rlOne ls z ver)) from rfl)
  generalize rlB ls z ver = r at *
  simp only [hq]
  have HQ := Lib.hid hq
  clear hq
  by_cases h5 : q ≤ 5000
  · have E : Hid (r = allB q (rlOne ls z ver)) := Lib.hid (by rw [E.out, HQ.out]; simp [h5])
    go_enter Try.func36, Try.ntmps36
    go_wp2
    go_loopw [17] (fun i wr => ∃ k : Nat, k ≤ q ∧ i = .int .i64 k ∧ Up w wr ∧ Bx2 wr w.heap.size (pvT ls k) (pvC ls k) ∧ ∀ j, j < k → rlOne ls z ver j = true) (fun i _ => q - (intOf i).toNat)
    case atStart => exact ⟨0, Nat.zero_le _, rfl, Up.alloc _ _, Bx2.new _ _ _ _, fun j hj => absurd hj (Nat.not_lt_zero j)⟩
    case round =>
      obtain ⟨k, hk, rfl, hu, hbx, hall⟩ := hrel
      have HA := Lib.hid hall
      have HU := Lib.hid hu
      have HB := Lib.hid hbx
      clear hall hu hbx
      by_cases hlt : k < q
      · obtain ⟨b, o, rfl, c1, c2⟩ := (RA.out.up HU.out).lep (i := k) (by rw [HQ.out]; exact hlt)
        obtain ⟨lt, e1⟩ : ∃ x, Hid ((ls.getD k l0).t = x) := ⟨_, rfl⟩
        obtain ⟨lk, e2⟩ : ∃ x, Hid ((ls.getD k l0).c = x) := ⟨_, rfl⟩
        obtain ⟨pt, e3⟩ : ∃ x, Hid (pvT ls k = x) := ⟨_, rfl⟩
        obtain ⟨pc, e4⟩ : ∃ x, Hid (pvC ls k = x) := ⟨_, rfl⟩
        rw [e1.out] at c1
        rw [e2.out] at c2
        obtain ⟨b1, b2, f1, f2⟩ := HB.out
        rw [e3.out] at b1
        rw [e4.out] at b2
        have q1 : -5000 ≤ pc ∧ pc ≤ 5000 := by have := pv_bd HA.out; rw [e4.out] at this; omega
        obtain ⟨q1, q2⟩ := q1
        have RO := Lib.hid (rlOne_eq (z := z) (ver := ver) HQ.out e1.out e2.out e3.out e4.out)
        have x0 := cell_lt b1
        by_cases ho : pt < lt
        · cases hz : fitZ lt z
          · have hf : Hid (r = false) := Lib.hid (by
              rw [E.out]
              refine allB_no (k := k) hlt ?_
              rw [RO.out, hz]; simp)
            have FZ := fun w => bfits_any lt z w
            rw [hz] at FZ
            clear HA hz
            go_wp2_with (go_at_call 50; refine (FZ _).mono ?_; rintro e w' ⟨rfl, rfl⟩)
            go_ret
            exact ⟨ret_b hf.out.symm, HU.out.alloc' _⟩
          · have FZ := fun w => bfits_any lt z w
            rw [hz] at FZ
            have RO2 : Hid (rlOne ls z ver k = (decide (lk = pc + 1) || decide (lk = pc - 1) || (decide (ver = 4) && decide (0 < k) && decide (k + 1 = q) && decide (lk = pc)))) := Lib.hid (by rw [RO.out, hz]; simp [ho])
            clear RO hz
            have D1 : (Hid (ver ≠ 4) ∧ (ver == 4) = false) ∨ (Hid (ver = 4) ∧ (ver == 4) = true) ∧ ((Hid (¬ 0 < k) ∧ decide (0 < k) = false) ∨ (Hid (0 < k) ∧ decide (0 < k) = true) ∧ ((Hid (k + 1 ≠ q) ∧ ((k : Int) == (q : Int) - 1) = false) ∨ (Hid (k + 1 = q) ∧ ((k : Int) == (q : Int) - 1) = true) ∧ ((Hid (lk ≠ pc) ∧ (lk == pc) = false) ∨ (Hid (lk = pc) ∧ (lk == pc) = true)))) := by
              by_cases v : ver = 4
              · refine .inr ⟨⟨Lib.hid v, by simp [v]⟩, ?_⟩
                by_cases a : 0 < k
                · refine .inr ⟨⟨Lib.hid a, by simp [a]⟩, ?_⟩
                  by_cases l : k + 1 = q
                  · refine .inr ⟨⟨Lib.hid l, by rw [beq_iff_eq]; omega⟩, ?_⟩
                    by_cases s : lk = pc
                    · exact .inr ⟨Lib.hid s, by simp [s]⟩
                    · exact .inl ⟨Lib.hid s, by simp [s]⟩
                  · exact .inl ⟨Lib.hid l, by rw [beq_eq_false_iff_ne]; omega⟩
                · exact .inl ⟨Lib.hid a, by simp [a]⟩
              · exact .inl ⟨Lib.hid v, by simp [v]⟩
            have D2 : (Hid (lk = pc + 1) ∧ (lk != pc + 1) = false) ∨ (Hid (lk ≠ pc + 1) ∧ (lk != pc + 1) = true) ∧ ((Hid (lk = pc - 1) ∧ (lk != pc - 1) = false) ∨ (Hid (lk ≠ pc - 1) ∧ (lk != pc - 1) = true)) := by
              by_cases p : lk = pc + 1
              · exact .inl ⟨Lib.hid p, by simp [p]⟩
              · refine .inr ⟨⟨Lib.hid p, by simp [p]⟩, ?_⟩
                by_cases m : lk = pc - 1
                · exact .inl ⟨Lib.hid m, by simp [m]⟩
                · exact .inr ⟨Lib.hid m, by simp [m]⟩
            have NX : Hid (∀ ob, Up w (((wr.setCell ⟨w.heap.size, 0, none⟩ (.int .i64 lt)).setCell ⟨w.heap.size, 1, none⟩ (.int .i64 lk)).alloc ob) ∧ Bx2 (((wr.setCell ⟨w.heap.size, 0, none⟩ (.int .i64 lt)).setCell ⟨w.heap.size, 1, none⟩ (.int .i64 lk)).alloc ob) w.heap.size (pvT ls (k + 1)) (pvC ls (k + 1))) := Lib.hid (fun ob => by
              rw [pvT_succ, pvC_succ, e1.out, e2.out]
              exact ⟨((HU.out.setCell' (Nat.le_refl _) _).setCell' (Nat.le_refl _) _).alloc' _, (HB.out.set2 _ _).up (Up.alloc _ _)⟩)
            rcases D1 with ⟨v, v'⟩ | ⟨⟨v, v'⟩, ⟨a, a'⟩ | ⟨⟨a, a'⟩, ⟨l, l'⟩ | ⟨⟨l, l'⟩, ⟨s, s'⟩ | ⟨s, s'⟩⟩⟩⟩
            all_goals rcases D2 with ⟨p, p'⟩ | ⟨⟨p, p'⟩, ⟨m, m'⟩ | ⟨m, m'⟩⟩
            all_goals
              go_wp2_with (go_at_call 50; refine (FZ _).mono ?_; rintro e w' ⟨rfl, rfl⟩)
              first
                | (go_roundw
                   case rel =>
                     refine ⟨k + 1, by omega, by go_num, (NX.out _).1, (NX.out _).2, snoc_all HA.out ?_⟩
                     rw [RO2.out]
                     have h1 := v.out
                     have h2 := p.out
                     (try have h3 := a.out)
                     (try have h4 := l.out)
                     (try have h5 := s.out)
                     (try have h6 := m.out)
                     simp only [Bool.and_eq_true, Bool.or_eq_true, decide_eq_true_eq]
                     omega
                   case measure => simp [intOf]; omega)
                | (go_ret
                   refine ⟨ret_b ?_, HU.out.alloc' _⟩
                   rw [E.out]
                   refine (allB_no (k := k) hlt ?_).symm
                   rw [RO2.out]
                   have h1 := v.out
                   have h2 := p.out
                   (try have h3 := a.out)
                   (try have h4 := l.out)
                   (try have h5 := s.out)
                   (try have h6 := m.out)
                   simp only [Bool.and_eq_false_iff, Bool.or_eq_false_iff, decide_eq_false_iff_not]
                   omega)
        · have hf : Hid (r = false) := Lib.hid (by
            rw [E.out]
            refine allB_no (k := k) hlt ?_
            rw [RO.out]; simp [ho])
          clear HA
          go_wp2
          go_ret
          exact ⟨ret_b hf.out.symm, HU.out.alloc' _⟩
      · have hf : Hid (r = true) := Lib.hid (by
          rw [E.out, allB_true]
          intro j hj; exact HA.out j (by omega))
        go_wp2
        go_ret
        exact ⟨ret_b hf.out.symm, HU.out⟩
  · have E2 : Hid (r = false) := Lib.hid (by rw [E.out, HQ.out]; simp; omega)
    clear E
    go_enter Try.func36, Try.ntmps36
    go_wp2
    go_ret
    exact ⟨ret_b E2.out.symm, Up.refl _⟩
end Go.Proofs.Ytoijaananjlfpaa
