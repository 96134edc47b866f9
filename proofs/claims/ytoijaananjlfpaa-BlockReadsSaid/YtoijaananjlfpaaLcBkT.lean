/-
  The program's block: tell, tellMarks, tellJumps, tellLeaps.
-/
import Derived.Test.YtoijaananjlfpaaLcBkS
import Derived.Test.YtoijaananjlfpaaLcOctP
namespace Go.Proofs.Ytoijaananjlfpaa
open Go.ChangeShapes Go.WideShapes Go.ChangeAt Go.RowKit Lc

theorem Up.gb {w w' : World} (u : Up w w') (row : Option Nat) : w.grownBy w' row := ⟨u.os, u.tape, u.output, u.size, fun k hk _ => u.block k hk⟩
/-- A cell elsewhere is as it was. -/
theorem gb_cell {w w' : World} {v : Value} (h : w.grownBy w' v.ownBlock) {b o : Nat} {u : Value} (hc : w.cell? ⟨b, o, none⟩ = some u) (hn : ∀ k, v.ownBlock = some k → k ≠ b) : w'.cell? ⟨b, o, none⟩ = some u := by
  rw [h.cell_far _ (cell_lt hc) (fun e => hn b e.symm rfl)]; exact hc
theorem un_wrap (n : Int) : (IntKind.u64.wrap n).toNat = un n := by
  unfold un; rw [IntKind.wrap_u64]
theorem un_pos (n : Int) : 0 ≤ IntKind.u64.wrap n := by rw [IntKind.wrap_u64]; omega
theorem put_nil (z : Nat) (hz : z = 4 ∨ z = 8) (n : Int) (w : World) : Calls Try.prog 57 #[.slice none 0 0, .int .i64 z, .int .u64 (IntKind.u64.wrap n)] w fun e w' => ∃ v', e = .returned v' ∧ Ow w' w.heap.size v' (beB z (un n)) ∧ Up w w' := by
  have h := put_any none [] 0 (z : Int) (IntKind.u64.wrap n) w (by simp) (WalkArith.wf_i64 (by omega)) (un_pos n) (Rd.nil _ _)
  rw [un_wrap, List.nil_append] at h
  have e : putM (z : Int) = z := by unfold putM; omega
  rw [e] at h
  exact h

set_option maxHeartbeats 1000000 in
theorem tell_any (base : Nat) (w : World) (v : Value) (l : List UInt8) (z : Nat) (hz : z = 4 ∨ z = 8) (n : Int) (hb : base ≤ w.heap.size) (ho : Ow w base v l) (hl : l.length ≤ 1000000) :
    Calls Try.prog 47 #[v, .int .i64 z, .int .i64 n] w fun e w' => ∃ v', e = .returned v' ∧ Ow w' base v' (l ++ beB z (un n)) ∧ w.grownBy w' v.ownBlock ∧ (∀ k, v'.ownBlock = some k → v.ownBlock = some k ∨ w.heap.size ≤ k) := by
  have C := Lib.hid (fun w => put_nil z hz n w)
  have HO := Lib.hid ho
  have BL := Lib.hid (beB_len z (un n))
  have hz8 : z ≤ 8 := by omega
  clear ho hz
  generalize beB z (un n) = B at *
  go_enter Try.func47, Try.ntmps47
  go_wp2_with fail
  refine (C.out _).mono ?_; rintro e w1 ⟨v1, rfl, ho1, hu1⟩
  obtain ⟨A1, c1, rfl, q1, q2, q3, _⟩ := ho1.form
  have HU1 := Lib.hid hu1
  have HO1 := Lib.hid (HO.out.up hu1)
  have HR := Lib.hid q3
  have sz : w.heap.size ≤ w1.heap.size := hu1.size
  clear q3 ho1 hu1 C
  go_wp2_with (at_builtin; refine wpList_append_bytes _ rfl _ _ rfl base _ l rfl HO1.out A1 B _ c1 rfl rfl HR.out ?e1 ?e2 ?_)
  case e1 => have := BL.out; omega
  case e2 => omega
  intro v2 w2 ho2 hg2 hx2
  have HG2 := Lib.hid ((HU1.out.gb v.ownBlock).trans hg2)
  have HO2 := Lib.hid ho2
  have HX2 : Hid (∀ k, v2.ownBlock = some k → v.ownBlock = some k ∨ w.heap.size ≤ k) := Lib.hid (fun k hk => by
    rcases hx2 with h | h
    · exact .inl (h ▸ hk)
    · rw [h] at hk; injection hk with hk; exact .inr (by omega))
  clear ho2 hg2 hx2
  go_wp2
  go_ret
  exact ⟨_, rfl, HO2.out, HG2.out, HX2.out⟩

/-- A row of one's own has no block that is not there yet. -/
theorem Ow.ne {w : World} {base : Nat} {v : Value} {l : List UInt8} (h : Ow w base v l) {w' : World} (u : w.heap.size ≤ w'.heap.size) : ∀ k, v.ownBlock = some k → k ≠ w'.heap.size := fun k hk => by
  have := (World.ownsRow.lt h k hk).2; omega

set_option maxHeartbeats 1000000 in
theorem tmarks_any (w0 w : World) (u : Up w0 w) (v : Value) (l : List UInt8) (A : Option Addr) (bs : List Bool) (c : Nat) (ho : Ow w w0.heap.size v l) (hl : l.length ≤ 1000000) (hq : bs.length ≤ 10000) (ra : Rc w0 A (oc bs)) :
    Calls Try.prog 31 #[v, .slice A bs.length c] w fun e w' => ∃ v', e = .returned v' ∧ Ow w' w0.heap.size v' (l ++ tmB bs) ∧ Up w0 w' := by
  have RA := Lib.hid ra
  have HO := Lib.hid ho
  have HU := Lib.hid u
  clear ra ho u
  obtain ⟨q, hq'⟩ : ∃ q, bs.length = q := ⟨_, rfl⟩
  simp only [hq'] at hq ⊢
  have HQ := Lib.hid hq'
  clear hq'
  go_enter Try.func31, Try.ntmps31
  go_wp2
  go_loopw [0, 9] (fun v i wr => ∃ k : Nat, k ≤ q ∧ i = .int .i64 k ∧ Ow wr w0.heap.size v (l ++ tmB (bs.take k)) ∧ Up w0 wr) (fun _ i _ => q - (intOf i).toNat)
  case atStart => exact ⟨0, Nat.zero_le _, rfl, by rw [List.take_zero]; simpa [tmB] using HO.out, HU.out⟩
  case round =>
    clear HO HU
    obtain ⟨k, hk, rfl, ho, hu⟩ := hrel
    have HO := Lib.hid ho
    have HU := Lib.hid hu
    clear ho hu
    by_cases hlt : k < q
    · obtain ⟨b, o, rfl, c1⟩ := (RA.out.up HU.out).bol (i := k) (by rw [HQ.out]; exact hlt)
      have HT : Hid (l ++ tmB (bs.take (k + 1)) = l ++ tmB (bs.take k) ++ [mkB (bs.getD k false)]) := Lib.hid (by unfold tmB; rw [mp_take mkB bs false (by rw [HQ.out]; exact hlt), List.append_assoc])
      have HLn : Hid ((l ++ tmB (bs.take k)).length ≤ 1010000) := Lib.hid (by rw [List.length_append, tmB_len, List.length_take]; omega)
      obtain ⟨x, hx⟩ : ∃ x, bs.getD k false = x := ⟨_, rfl⟩
      rw [hx] at c1 HT
      clear hx
      have M := fun w => mark_any x w
      generalize hL : l ++ tmB (bs.take k) = L at *
      have HL := Lib.hid hL
      clear hL
      generalize hm : mkB x = m at *
      clear hm
      have ml := m.toNat_lt
      go_wp2_with (first
        | (go_at_call 48; refine (M _).mono ?_; rintro e w' ⟨rfl, rfl⟩)
        | (at_builtin; refine wpList_append_bytes _ rfl _ _ rfl w0.heap.size _ L rfl (HO.out.up (Up.alloc _ _)) (some ⟨wr.heap.size, 0, none⟩) [m] 1 1 rfl rfl (Rd.one _ _ _ _ ?e1) ?e2 ?e3 ?_))
      case e1 => rfl
      case e2 => have := HLn.out; simp only [List.length_cons, List.length_nil]; omega
      case e3 => have := HU.out.size; simp; omega
      intro v2 w2 ho2 hg2 _
      have HU2 := Lib.hid ((HU.out.alloc' _).grown hg2 HO.out.block)
      have HO2 : Hid (Ow w2 w0.heap.size v2 (l ++ tmB (bs.take (k + 1)))) := Lib.hid (by rw [HT.out]; exact ho2)
      clear ho2 hg2 HT HL HLn M
      go_wp2
      go_roundw
      case rel => exact ⟨k + 1, by omega, by go_num, HO2.out, HU2.out⟩
      case measure => simp [intOf]; omega
    · have hkq : k = q := by omega
      subst hkq
      have HO' : Hid (Ow wr w0.heap.size u0 (l ++ tmB bs)) := Lib.hid (by have := HO.out; rw [List.take_of_length_le (by rw [HQ.out]; exact Nat.le_refl _)] at this; exact this)
      clear HO
      go_wp2
      go_ret
      exact ⟨_, rfl, HO'.out, HU.out⟩
end Go.Proofs.Ytoijaananjlfpaa
