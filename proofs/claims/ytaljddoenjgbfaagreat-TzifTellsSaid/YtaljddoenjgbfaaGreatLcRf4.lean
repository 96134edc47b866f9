/-
  The document's block: Encode.
-/
import Derived.Test.YtaljddoenjgbfaaGreatLcRf2
import Derived.Test.YtaljddoenjgbfaaGreatLcRefB
import Derived.Test.YtaljddoenjgbfaaGreatLcBkE
import Derived.Test.YtaljddoenjgbfaaGreatLcMe
import Derived.StillTailTactics
import Derived.Deep.CutRange
import Derived.BigRegion
namespace Go.Proofs.YtaljddoenjgbfaaGreat
open Go.ChangeShapes Go.WideShapes Go.ChangeAt Go.RowKit Lc

set_option maxRecDepth 100000 in
/-- Put, onto a row of one's own. -/
theorem dput_any (base : Nat) (w : World) (v : Value) (l : List UInt8) (z : Nat) (hz : z = 4 ∨ z = 8) (n : Int) (hb : base ≤ w.heap.size) (ho : Ow w base v l) (hl : l.length ≤ 1000000) :
    Calls Tryz.prog 49 #[v, .int .i64 z, .int .u64 (IntKind.u64.wrap n)] w fun e w' => ∃ v', e = .returned v' ∧ Ow w' base v' (l ++ beB z (un n)) ∧ Up w w' := by
  obtain ⟨A, c, rfl, _, _, hr, _⟩ := ho.form
  refine (refPut_any A l c (z : Int) (IntKind.u64.wrap n) w (by omega) (WalkArith.wf_i64 (by omega)) (un_pos n) hr).mono ?_
  rintro e w' ⟨v', rfl, o, u⟩
  have e : putM (z : Int) = z := by unfold putM; omega
  rw [un_wrap, e] at o
  exact ⟨v', rfl, o.base hb, u⟩
set_option maxRecDepth 100000 in
theorem dput4_any (base : Nat) (w : World) (v : Value) (l : List UInt8) (n : Int) (hb : base ≤ w.heap.size) (ho : Ow w base v l) (hl : l.length ≤ 1000000) :
    Calls Tryz.prog 49 #[v, .int .i64 4, .int .u64 (IntKind.u64.wrap n)] w fun e w' => ∃ v', e = .returned v' ∧ Ow w' base v' (l ++ beB 4 (un n)) ∧ Up w w' := dput_any base w v l 4 (.inl rfl) n hb ho hl
set_option maxRecDepth 100000 in
theorem Ow.slot {w : World} {base : Nat} {v : Value} {l : List UInt8} (h : Ow w base v l) : ∃ A c, v = .slice A l.length c := by
  obtain ⟨A, c, e, _⟩ := h.form
  exact ⟨A, c, e⟩

set_option maxRecDepth 100000 in
set_option maxHeartbeats 8000000 in
theorem dencode_any (v : Value) (x : Blk) (z : Nat) (ver : Int) (w : World) (hv' : BkR w v x) (hz : z = 4 ∨ z = 8) (h256 : x.ks.length ≤ 256) (hsz : ∀ i, i < x.ks.length → (x.ks.getD i k0).name.size ≤ 255) (h5j : x.js.length ≤ 5000) (h5l : x.ls.length ≤ 5000) (h2s : x.sd.length ≤ 256) (h2u : x.ut.length ≤ 256) :
    Calls Tryz.prog 36 #[v, .int .i64 z, .int .i64 ver] w fun e w' => ∃ v', e = .returned (.tuple #[v', hv ver x.ut.length x.sd.length x.ls.length x.js.length x.ks.length (nmB x).length]) ∧ Ow w' w.heap.size v' (encL x z) ∧ Up w w' := by
  obtain ⟨_, _, _, _, _, rfl, ⟨A0, c0, rfl, m0, n0, r0⟩, ⟨A1, c1, rfl, m1, n1, r1⟩, ⟨A2, c2, rfl, m2, n2, r2⟩, ⟨A3, c3, rfl, m3, n3, r3⟩, ⟨A4, c4, rfl, m4, n4, r4⟩⟩ := hv'
  have DN := Lib.hid (fun w1 (u : Up w w1) => dnames_any A0 x.ks c0 w1 h256 hsz (r0.up u))
  have EL := Lib.hid (show encL x z = mtB z x.js ++ mjB x.js ++ tkB (x.ks.map Knd.name) x.ks ++ nmB x ++ tlB z x.ls ++ tmB x.sd ++ tmB x.ut from rfl)
  have NM := Lib.hid (show layN (x.ks.map Knd.name) x.ks.length = nmB x from rfl)
  have NL : (nmB x).length ≤ 65536 := by
    have h := layN_le (x.ks.map Knd.name) x.ks.length 255 (fun i hi => by rw [getD_name hi]; exact hsz i hi)
    rw [NM.out] at h; omega
  rw [NM.out] at DN
  have PG : Hid (∀ i, i < x.ks.length → (plL (x.ks.map Knd.name) x.ks.length).getD i 0 = (plcN (x.ks.map Knd.name) (x.ks.getD i k0).name : Int)) := fun i hi => by rw [plL_get hi, getD_name hi]
  have PL : Hid ((plL (x.ks.map Knd.name) x.ks.length).length = x.ks.length) := plL_len _ _
  have hz8 : z ≤ 8 := by omega
  have HZ := Lib.hid hz
  have K1 := Lib.hid (mtB_len z x.js)
  have K2 := Lib.hid (mjB_len x.js)
  have K3 := Lib.hid (tkB_len (x.ks.map Knd.name) x.ks)
  have K4 := Lib.hid (tlB_len z x.ls)
  have K5 := Lib.hid (tmB_len x.sd)
  have J8 : x.js.length * z ≤ 40000 := Nat.le_trans (Nat.mul_le_mul h5j hz8) (by decide)
  have L8 : x.ls.length * (z + 4) ≤ 60000 := Nat.le_trans (Nat.mul_le_mul h5l (show z + 4 ≤ 12 by omega)) (by decide)
  have BP2 : Hid ((mtB z x.js ++ mjB x.js).length ≤ 45000) := by unfold Hid; rw [List.length_append, K1.out, K2.out]; omega
  have BP3 : Hid ((mtB z x.js ++ mjB x.js ++ tkB (x.ks.map Knd.name) x.ks).length ≤ 50000) := by unfold Hid; have := BP2.out; rw [List.length_append, K3.out]; omega
  have BP4 : Hid ((mtB z x.js ++ mjB x.js ++ tkB (x.ks.map Knd.name) x.ks ++ nmB x).length ≤ 120000) := by unfold Hid; have := BP3.out; rw [List.length_append]; omega
  have BP5 : Hid ((mtB z x.js ++ mjB x.js ++ tkB (x.ks.map Knd.name) x.ks ++ nmB x ++ tlB z x.ls).length ≤ 200000) := by unfold Hid; have := BP4.out; rw [List.length_append, K4.out]; omega
  have BP6 : Hid ((mtB z x.js ++ mjB x.js ++ tkB (x.ks.map Knd.name) x.ks ++ nmB x ++ tlB z x.ls ++ tmB x.sd).length ≤ 210000) := by unfold Hid; have := BP5.out; rw [List.length_append, K5.out]; omega
  generalize encL x z = EE at *
  generalize nmB x = N at *
  obtain ⟨ns, hns⟩ : ∃ ns, x.ks.map Knd.name = ns := ⟨_, rfl⟩
  rw [hns] at DN EL PG PL BP3 BP4 BP5 BP6 K3
  clear hns NM
  obtain ⟨q0, h0⟩ : ∃ q, x.ks.length = q := ⟨_, rfl⟩
  obtain ⟨q1, h1⟩ : ∃ q, x.js.length = q := ⟨_, rfl⟩
  obtain ⟨q2, h2⟩ : ∃ q, x.ls.length = q := ⟨_, rfl⟩
  obtain ⟨q3, h3⟩ : ∃ q, x.sd.length = q := ⟨_, rfl⟩
  obtain ⟨q4, h4⟩ : ∃ q, x.ut.length = q := ⟨_, rfl⟩
  rw [h0] at m0 h256 hsz DN PG PL ⊢
  rw [h1] at m1 h5j J8 ⊢
  rw [h2] at m2 h5l L8 ⊢
  rw [h3] at m3 h2s ⊢
  rw [h4] at m4 h2u ⊢
  have H0 := Lib.hid h0
  have H1 := Lib.hid h1
  have H2 := Lib.hid h2
  have H3 := Lib.hid h3
  have H4 := Lib.hid h4
  have R0 := Lib.hid r0
  have R1 := Lib.hid r1
  have R2 := Lib.hid r2
  have R3 := Lib.hid r3
  have R4 := Lib.hid r4
  have JJ := Lib.hid J8
  have LL := Lib.hid L8
  clear h0 h1 h2 h3 h4 r0 r1 r2 r3 r4 n0 n1 n2 n3 n4 m0 m1 m2 m3 m4 hsz hz K1 K2 K3 K4 K5 J8 L8
  have BX := Lib.hid ((Bx5.new w (.slice A0 q0 c0) (.slice A1 q1 c1) (.slice A2 q2 c2) (.slice A3 q3 c3) (.slice A4 q4 c4) 37).up (Up.alloc _ (.cells #[.int .i64 0, .int .i64 0, .int .i64 0, .int .i64 0, .int .i64 0, .int .i64 0, .int .i64 0] 60)))
  have U0 := Lib.hid ((Up.alloc w (.cells #[.slice A0 q0 c0, .slice A1 q1 c1, .slice A2 q2 c2, .slice A3 q3 c3, .slice A4 q4 c4] 37)).alloc' (.cells #[.int .i64 0, .int .i64 0, .int .i64 0, .int .i64 0, .int .i64 0, .int .i64 0, .int .i64 0] 60))
  have X2 := Lib.hid (HBox.new (w.alloc (.cells #[.slice A0 q0 c0, .slice A1 q1 c1, .slice A2 q2 c2, .slice A3 q3 c3, .slice A4 q4 c4] 37)) 0 0 0 0 0 0 0 60)
  have X3 := Lib.hid (Free.new (w.alloc (.cells #[.slice A0 q0 c0, .slice A1 q1 c1, .slice A2 q2 c2, .slice A3 q3 c3, .slice A4 q4 c4] 37)) #[.int .i64 0, .int .i64 0, .int .i64 0, .int .i64 0, .int .i64 0, .int .i64 0, .int .i64 0] 60)
  rw [World.size_alloc] at X2 X3
  go_enter Tryz.func36, Tryz.ntmps36
  go_wp2_with fail
  refine (DN.out _ U0.out).mono ?_; rintro e w2 ⟨v2, u2, rfl, ho2, hp2, hu2⟩
  obtain ⟨A', c', rfl, _, _, rn, _⟩ := ho2.form
  have RN := Lib.hid rn
  have OP := Lib.hid hp2
  have U2 := Lib.hid (U0.out.trans hu2)
  have B2 := Lib.hid (BX.out.up hu2)
  have HX := Lib.hid (X2.out.up hu2)
  have FX := Lib.hid (X3.out.up hu2)
  clear ho2 hp2 hu2 rn BX U0 X2 X3 DN
  go_wp2_with fail
  go_loopw [10, 11] (fun v i wr => ∃ k : Nat, k ≤ q1 ∧ i = .int .i64 k ∧ Ow wr w2.heap.size v (mtB z (x.js.take k)) ∧ Up w2 wr) (fun _ i _ => q1 - (intOf i).toNat)
  case atStart => exact ⟨0, Nat.zero_le _, rfl, by rw [List.take_zero]; exact Ow.empty w2 _ (Nat.le_refl _), Up.alloc _ _⟩
  case round =>
    obtain ⟨k, hk, rfl, ho, hu⟩ := hrel
    have HO := Lib.hid ho
    have HU := Lib.hid hu
    clear ho hu
    by_cases hlt : k < q1
    · skip
      obtain ⟨b, o, rfl, hc⟩ := (R1.out.up (U2.out.trans HU.out)).jmp (i := k) (by rw [H1.out]; exact hlt)
      obtain ⟨c1, _⟩ := hc k (by rw [H1.out]; exact hlt)
      clear hc
      have HT : Hid (mtB z (x.js.take (k + 1)) = mtB z (x.js.take k) ++ beB z (un (x.js.getD k j0).t)) := by unfold Hid mtB; exact fm_take _ x.js j0 (by rw [H1.out]; exact hlt)
      have HL : (mtB z (x.js.take k)).length ≤ 40000 := by rw [mtB_len, List.length_take]; exact Nat.le_trans (Nat.mul_le_mul_right z (show min k x.js.length ≤ q1 by omega)) JJ.out
      obtain ⟨lt, e1⟩ : ∃ t, Hid ((x.js.getD k j0).t = t) := ⟨_, rfl⟩
      rw [e1.out] at c1 HT
      generalize mtB z (x.js.take k) = L at *
      obtain ⟨_, b1, _, _, _⟩ := B2.out.up HU.out
      have x0 := cell_lt b1
      have x1 := cell_lt c1
      have i1 : (k : Int) < (q1 : Int) := by omega
      go_wp2_with fail
      refine (dput_any w2.heap.size wr u10 L z HZ.out lt HU.out.size HO.out (by omega)).mono ?_
      rintro e w9 ⟨v9, rfl, o9, u9⟩
      have O9 : Hid (Ow w9 w2.heap.size v9 (mtB z (x.js.take (k + 1)))) := by rw [HT.out]; exact o9
      have U9 := Lib.hid (HU.out.trans u9)
      clear o9 u9 HO HU HT b1 c1 x0 x1
      go_wp2_with fail
      go_roundw
      case rel => exact ⟨k + 1, by omega, by go_num, O9.out, U9.out⟩
      case measure => simp [intOf]; omega
    · have hkq : q1 = k := by omega
      subst hkq
      have O' : Hid (Ow wr w2.heap.size u10 (mtB z x.js)) := by
        have := HO.out; rw [List.take_of_length_le (by rw [H1.out]; exact Nat.le_refl _)] at this; exact this
      clear HO
      obtain ⟨_, b1, _, _, _⟩ := B2.out.up HU.out
      have x0 := cell_lt b1
      go_wp2_with fail
      clear b1 x0
      go_loopw [10, 12] (fun v i wr => ∃ k : Nat, k ≤ q1 ∧ i = .int .i64 k ∧ Ow wr w2.heap.size v (mtB z x.js ++ mjB (x.js.take k)) ∧ Up w2 wr) (fun _ i _ => q1 - (intOf i).toNat)
      case atStart => exact ⟨0, Nat.zero_le _, rfl, by rw [List.take_zero]; simpa [mjB] using O'.out, HU.out⟩
      case round =>
        obtain ⟨k, hk, rfl, ho, hu⟩ := hrel
        have HO := Lib.hid ho
        have HU := Lib.hid hu
        clear ho hu
        by_cases hlt : k < q1
        · skip
          obtain ⟨b, o, rfl, hc⟩ := (R1.out.up (U2.out.trans HU.out)).jmp (i := k) (by rw [H1.out]; exact hlt)
          obtain ⟨_, c2⟩ := hc k (by rw [H1.out]; exact hlt)
          clear hc
          have HT : Hid (mtB z x.js ++ mjB (x.js.take (k + 1)) = mtB z x.js ++ mjB (x.js.take k) ++ [loB (x.js.getD k j0).k]) := by unfold Hid mjB; rw [mp_take _ x.js j0 (by rw [H1.out]; exact hlt), List.append_assoc]
          have HL : (mtB z x.js ++ mjB (x.js.take k)).length ≤ 45000 := by have := BP2.out; rw [List.length_append, mjB_len] at this ⊢; rw [List.length_take]; omega
          obtain ⟨lk, e1⟩ : ∃ t, Hid ((x.js.getD k j0).k = t) := ⟨_, rfl⟩
          rw [e1.out] at c2 HT
          generalize mtB z x.js ++ mjB (x.js.take k) = L at *
          obtain ⟨_, b1, _, _, _⟩ := B2.out.up HU.out
          have x0 := cell_lt b1
          have x1 := cell_lt c2
          have i1 : (k : Int) < (q1 : Int) := by omega
          go_wp2_with (at_builtin; refine wpList_append_bytes _ rfl _ _ rfl w2.heap.size _ L rfl (HO.out.up (Up.alloc _ _)) (some ⟨wr.heap.size, 0, none⟩) [loB lk] 1 1 rfl rfl ?e1 ?e2 ?e3 ?_)
          case e1 => exact Rd.one wr (lk % 256) (loB lk) 5 (by have := low_byte lk; rw [IntKind.wrap_u8] at this; exact this)
          case e2 => simp only [List.length_cons, List.length_nil]; omega
          case e3 => have := HU.out.size; simp; omega
          intro v9 w9 o9 g9 _
          have O9 : Hid (Ow w9 w2.heap.size v9 (mtB z x.js ++ mjB (x.js.take (k + 1)))) := by rw [HT.out]; exact o9
          have U9 := Lib.hid ((HU.out.alloc' _).grown g9 HO.out.block)
          clear o9 g9 HO HU HT b1 c2 x0 x1
          go_wp2_with fail
          go_roundw
          case rel => exact ⟨k + 1, by omega, by go_num, O9.out, U9.out⟩
          case measure => simp [intOf]; omega
        · have hkq : q1 = k := by omega
          subst hkq
          have O' : Hid (Ow wr w2.heap.size u10 (mtB z x.js ++ mjB x.js)) := by
            have := HO.out; rw [List.take_of_length_le (by rw [H1.out]; exact Nat.le_refl _)] at this; exact this
          clear HO
          obtain ⟨_, b1, _, _, _⟩ := B2.out.up HU.out
          have x0 := cell_lt b1
          go_wp2_with fail
          clear b1 x0
          go_loopw [10, 13] (fun v i wr => ∃ k : Nat, k ≤ q0 ∧ i = .int .i64 k ∧ Ow wr w2.heap.size v (mtB z x.js ++ mjB x.js ++ tkB ns (x.ks.take k)) ∧ Up w2 wr) (fun _ i _ => q0 - (intOf i).toNat)
          case atStart => exact ⟨0, Nat.zero_le _, rfl, by rw [List.take_zero]; simpa [tkB] using O'.out, HU.out⟩
          case round =>
            obtain ⟨k, hk, rfl, ho, hu⟩ := hrel
            have HO := Lib.hid ho
            have HU := Lib.hid hu
            clear ho hu
            by_cases hlt : k < q0
            · skip
              obtain ⟨b, o, rfl, c1, c2, _⟩ := (R0.out.up (U2.out.trans HU.out)).knd (i := k) (by rw [H0.out]; exact hlt)
              obtain ⟨gp, cp, rfl, hp1, hp2, hp3, hp4, hp5⟩ := OP.out.form (by rw [PL.out]; omega)
              have pc := HU.out.cell (hp5 k (by rw [PL.out]; exact hlt))
              rw [PG.out k hlt] at pc
              rw [PL.out] at hp3
              clear hp5
              have HT : Hid (mtB z x.js ++ mjB x.js ++ tkB ns (x.ks.take (k + 1)) = mtB z x.js ++ mjB x.js ++ tkB ns (x.ks.take k) ++ beB 4 (un (x.ks.getD k k0).off) ++ [mkB (x.ks.getD k k0).dst] ++ [loB (plcN ns (x.ks.getD k k0).name)]) := by unfold Hid tkB; rw [fm_take _ x.ks k0 (by rw [H0.out]; exact hlt)]; simp only [List.append_assoc]; rfl
              have HL : (mtB z x.js ++ mjB x.js ++ tkB ns (x.ks.take k)).length ≤ 50000 := by have := BP2.out; rw [List.length_append, tkB_len, List.length_take]; omega
              obtain ⟨ko, e1⟩ : ∃ t, Hid ((x.ks.getD k k0).off = t) := ⟨_, rfl⟩
              obtain ⟨kd, e2⟩ : ∃ t, Hid ((x.ks.getD k k0).dst = t) := ⟨_, rfl⟩
              obtain ⟨kn, e3⟩ : ∃ t, Hid ((x.ks.getD k k0).name = t) := ⟨_, rfl⟩
              rw [e1.out] at c1 HT
              rw [e2.out] at c2 HT
              rw [e3.out] at HT pc
              obtain ⟨pl, e4⟩ : ∃ t : Int, Hid ((plcN ns kn : Int) = t) := ⟨_, rfl⟩
              rw [e4.out] at HT pc
              generalize mtB z x.js ++ mjB x.js ++ tkB ns (x.ks.take k) = L at *
              obtain ⟨b0, _, _, _, _⟩ := B2.out.up HU.out
              have x0 := cell_lt b0
              have x1 := cell_lt c1
              have x2 := cell_lt pc
              have i1 : (k : Int) < (q0 : Int) := by omega
              rw [PL.out]
              go_wp2_with fail
              refine (dput4_any w2.heap.size wr u10 L ko HU.out.size HO.out (by omega)).mono ?_
              rintro e w3 ⟨v3, rfl, o3, u3⟩
              have O3 := Lib.hid o3
              have U3 := Lib.hid (HU.out.trans u3)
              replace b0 := u3.cell b0
              replace c2 := u3.cell c2
              replace pc := u3.cell pc
              clear o3 u3 c1 x0 x1 x2 HO HU
              have x0 := cell_lt b0
              have x1 := cell_lt c2
              have x2 := cell_lt pc
              go_wp2_with fail
              refine (dtruth_any w2.heap.size w3 v3 (L ++ beB 4 (un ko)) kd U3.out.size O3.out (by rw [List.length_append, beB_len]; omega)).mono ?_
              rintro e w4 ⟨v4, rfl, o4, g4⟩
              have O4 := Lib.hid o4
              have U4 := Lib.hid (U3.out.grown g4 O3.out.block)
              have pc4 := Lib.hid (gb_cell g4 pc (fun j hj => by have := O3.out.block j hj; omega))
              clear o4 g4 pc c2 x0 x1 x2 b0 O3 U3
              have pc := pc4.out
              have x2 := cell_lt pc
              clear pc4
              go_wp2_with (at_builtin; refine wpList_append_bytes _ rfl _ _ rfl w2.heap.size _ (L ++ beB 4 (un ko) ++ [mkB kd]) rfl (O4.out.up (Up.alloc _ _)) (some ⟨w4.heap.size, 0, none⟩) [loB pl] 1 1 rfl rfl ?e1 ?e2 ?e3 ?_)
              case e1 => exact Rd.one w4 (pl % 256) (loB pl) 5 (by have := low_byte pl; rw [IntKind.wrap_u8] at this; exact this)
              case e2 => simp only [List.length_append, beB_len, List.length_cons, List.length_nil]; omega
              case e3 => have := U4.out.size; simp; omega
              intro v9 w9 o9 g9 _
              have O9 : Hid (Ow w9 w2.heap.size v9 (mtB z x.js ++ mjB x.js ++ tkB ns (x.ks.take (k + 1)))) := by unfold Hid; rw [HT.out]; simpa [List.append_assoc] using o9
              have U9 := Lib.hid ((U4.out.alloc' _).grown g9 O4.out.block)
              clear o9 g9 O4 U4 HT pc x2
              go_wp2_with fail
              go_roundw
              case rel => exact ⟨k + 1, by omega, by go_num, O9.out, U9.out⟩
              case measure => simp [intOf]; omega
            · have hkq : q0 = k := by omega
              subst hkq
              have O' : Hid (Ow wr w2.heap.size u10 (mtB z x.js ++ mjB x.js ++ tkB ns x.ks)) := by
                have := HO.out; rw [List.take_of_length_le (by rw [H0.out]; exact Nat.le_refl _)] at this; exact this
              clear HO
              obtain ⟨b0, _, _, _, _⟩ := B2.out.up HU.out
              have x0 := cell_lt b0
              have rn := Lib.hid (RN.out.up HU.out)
              go_wp2_with (at_builtin; refine wpList_append_bytes _ rfl _ _ rfl w2.heap.size _ (mtB z x.js ++ mjB x.js ++ tkB ns x.ks) rfl O'.out A' N _ c' rfl rfl rn.out ?e1 ?e2 ?_)
              case e1 => have := BP3.out; omega
              case e2 => exact HU.out.size
              intro v4 w4 o4 g4 _
              have O4 := Lib.hid o4
              have U4 := Lib.hid (HU.out.grown g4 O'.out.block)
              clear o4 g4 O' HU rn b0 x0
              go_wp2_with fail
              go_loopw [10, 14] (fun v i wr => ∃ k : Nat, k ≤ q2 ∧ i = .int .i64 k ∧ Ow wr w2.heap.size v (mtB z x.js ++ mjB x.js ++ tkB ns x.ks ++ N ++ tlB z (x.ls.take k)) ∧ Up w2 wr) (fun _ i _ => q2 - (intOf i).toNat)
              case atStart => exact ⟨0, Nat.zero_le _, rfl, by rw [List.take_zero]; simpa [tlB] using O4.out, U4.out⟩
              case round =>
                obtain ⟨k, hk, rfl, ho, hu⟩ := hrel
                have HO := Lib.hid ho
                have HU := Lib.hid hu
                clear ho hu
                by_cases hlt : k < q2
                · skip
                  obtain ⟨b, o, rfl, c1, c2⟩ := (R2.out.up (U2.out.trans HU.out)).lep (i := k) (by rw [H2.out]; exact hlt)
                  have HT : Hid (mtB z x.js ++ mjB x.js ++ tkB ns x.ks ++ N ++ tlB z (x.ls.take (k + 1)) = mtB z x.js ++ mjB x.js ++ tkB ns x.ks ++ N ++ tlB z (x.ls.take k) ++ beB z (un (x.ls.getD k l0).t) ++ beB 4 (un (x.ls.getD k l0).c)) := by unfold Hid tlB; rw [fm_take _ x.ls l0 (by rw [H2.out]; exact hlt)]; simp only [List.append_assoc]
                  have HL : (mtB z x.js ++ mjB x.js ++ tkB ns x.ks ++ N ++ tlB z (x.ls.take k)).length ≤ 180000 := by have := BP4.out; rw [List.length_append, tlB_len, List.length_take]; have := Nat.le_trans (Nat.mul_le_mul_right (z + 4) (show min k x.ls.length ≤ q2 by omega)) LL.out; omega
                  obtain ⟨lt, e1⟩ : ∃ t, Hid ((x.ls.getD k l0).t = t) := ⟨_, rfl⟩
                  obtain ⟨lk, e2⟩ : ∃ t, Hid ((x.ls.getD k l0).c = t) := ⟨_, rfl⟩
                  rw [e1.out] at c1 HT
                  rw [e2.out] at c2 HT
                  generalize mtB z x.js ++ mjB x.js ++ tkB ns x.ks ++ N ++ tlB z (x.ls.take k) = L at *
                  obtain ⟨_, _, b2, _, _⟩ := B2.out.up HU.out
                  have x0 := cell_lt b2
                  have x1 := cell_lt c1
                  have i1 : (k : Int) < (q2 : Int) := by omega
                  go_wp2_with fail
                  refine (dput_any w2.heap.size wr u10 L z HZ.out lt HU.out.size HO.out (by omega)).mono ?_
                  rintro e w3 ⟨v3, rfl, o3, u3⟩
                  have O3 := Lib.hid o3
                  have U3 := Lib.hid (HU.out.trans u3)
                  replace b2 := u3.cell b2
                  replace c2 := u3.cell c2
                  clear o3 u3 c1 x0 x1 HO HU
                  have x0 := cell_lt b2
                  have x1 := cell_lt c2
                  go_wp2_with fail
                  refine (dput4_any w2.heap.size w3 v3 (L ++ beB z (un lt)) lk U3.out.size O3.out (by rw [List.length_append, beB_len]; omega)).mono ?_
                  rintro e w9 ⟨v9, rfl, o9, u9⟩
                  have O9 : Hid (Ow w9 w2.heap.size v9 (mtB z x.js ++ mjB x.js ++ tkB ns x.ks ++ N ++ tlB z (x.ls.take (k + 1)))) := by rw [HT.out]; exact o9
                  have U9 := Lib.hid (U3.out.trans u9)
                  clear o9 u9 O3 U3 HT b2 c2 x0 x1
                  go_wp2_with fail
                  go_roundw
                  case rel => exact ⟨k + 1, by omega, by go_num, O9.out, U9.out⟩
                  case measure => simp [intOf]; omega
                · have hkq : q2 = k := by omega
                  subst hkq
                  have O' : Hid (Ow wr w2.heap.size u10 (mtB z x.js ++ mjB x.js ++ tkB ns x.ks ++ N ++ tlB z x.ls)) := by
                    have := HO.out; rw [List.take_of_length_le (by rw [H2.out]; exact Nat.le_refl _)] at this; exact this
                  clear HO
                  obtain ⟨_, _, b2, _, _⟩ := B2.out.up HU.out
                  have x0 := cell_lt b2
                  go_wp2_with fail
                  clear b2 x0
                  go_loopw [10, 15] (fun v i wr => ∃ k : Nat, k ≤ q3 ∧ i = .int .i64 k ∧ Ow wr w2.heap.size v (mtB z x.js ++ mjB x.js ++ tkB ns x.ks ++ N ++ tlB z x.ls ++ tmB (x.sd.take k)) ∧ Up w2 wr) (fun _ i _ => q3 - (intOf i).toNat)
                  case atStart => exact ⟨0, Nat.zero_le _, rfl, by rw [List.take_zero]; simpa [tmB] using O'.out, HU.out⟩
                  case round =>
                    obtain ⟨k, hk, rfl, ho, hu⟩ := hrel
                    have HO := Lib.hid ho
                    have HU := Lib.hid hu
                    clear ho hu
                    by_cases hlt : k < q3
                    · skip
                      obtain ⟨b, o, rfl, c1⟩ := (R3.out.up (U2.out.trans HU.out)).bol (i := k) (by rw [H3.out]; exact hlt)
                      have HT : Hid (mtB z x.js ++ mjB x.js ++ tkB ns x.ks ++ N ++ tlB z x.ls ++ tmB (x.sd.take (k + 1)) = mtB z x.js ++ mjB x.js ++ tkB ns x.ks ++ N ++ tlB z x.ls ++ tmB (x.sd.take k) ++ [mkB (x.sd.getD k false)]) := by unfold Hid tmB; rw [mp_take _ x.sd false (by rw [H3.out]; exact hlt)]; simp only [List.append_assoc]
                      have HL : (mtB z x.js ++ mjB x.js ++ tkB ns x.ks ++ N ++ tlB z x.ls ++ tmB (x.sd.take k)).length ≤ 250000 := by have := BP5.out; rw [List.length_append, tmB_len, List.length_take]; omega
                      obtain ⟨bt, e1⟩ : ∃ t, Hid (x.sd.getD k false = t) := ⟨_, rfl⟩
                      rw [e1.out] at c1 HT
                      generalize mtB z x.js ++ mjB x.js ++ tkB ns x.ks ++ N ++ tlB z x.ls ++ tmB (x.sd.take k) = L at *
                      obtain ⟨_, _, _, b3, _⟩ := B2.out.up HU.out
                      have x0 := cell_lt b3
                      have x1 := cell_lt c1
                      have i1 : (k : Int) < (q3 : Int) := by omega
                      go_wp2_with fail
                      refine (dtruth_any w2.heap.size wr u10 L bt HU.out.size HO.out (by omega)).mono ?_
                      rintro e w9 ⟨v9, rfl, o9, g9⟩
                      have O9 : Hid (Ow w9 w2.heap.size v9 (mtB z x.js ++ mjB x.js ++ tkB ns x.ks ++ N ++ tlB z x.ls ++ tmB (x.sd.take (k + 1)))) := by rw [HT.out]; exact o9
                      have U9 := Lib.hid (HU.out.grown g9 HO.out.block)
                      clear o9 g9 HO HU HT b3 c1 x0 x1
                      go_wp2_with fail
                      go_roundw
                      case rel => exact ⟨k + 1, by omega, by go_num, O9.out, U9.out⟩
                      case measure => simp [intOf]; omega
                    · have hkq : q3 = k := by omega
                      subst hkq
                      have O' : Hid (Ow wr w2.heap.size u10 (mtB z x.js ++ mjB x.js ++ tkB ns x.ks ++ N ++ tlB z x.ls ++ tmB x.sd)) := by
                        have := HO.out; rw [List.take_of_length_le (by rw [H3.out]; exact Nat.le_refl _)] at this; exact this
                      clear HO
                      obtain ⟨_, _, _, b3, _⟩ := B2.out.up HU.out
                      have x0 := cell_lt b3
                      go_wp2_with fail
                      clear b3 x0
                      go_loopw [10, 16] (fun v i wr => ∃ k : Nat, k ≤ q4 ∧ i = .int .i64 k ∧ Ow wr w2.heap.size v (mtB z x.js ++ mjB x.js ++ tkB ns x.ks ++ N ++ tlB z x.ls ++ tmB x.sd ++ tmB (x.ut.take k)) ∧ Up w2 wr) (fun _ i _ => q4 - (intOf i).toNat)
                      case atStart => exact ⟨0, Nat.zero_le _, rfl, by rw [List.take_zero]; simpa [tmB] using O'.out, HU.out⟩
                      case round =>
                        obtain ⟨k, hk, rfl, ho, hu⟩ := hrel
                        have HO := Lib.hid ho
                        have HU := Lib.hid hu
                        clear ho hu
                        by_cases hlt : k < q4
                        · skip
                          obtain ⟨b, o, rfl, c1⟩ := (R4.out.up (U2.out.trans HU.out)).bol (i := k) (by rw [H4.out]; exact hlt)
                          have HT : Hid (mtB z x.js ++ mjB x.js ++ tkB ns x.ks ++ N ++ tlB z x.ls ++ tmB x.sd ++ tmB (x.ut.take (k + 1)) = mtB z x.js ++ mjB x.js ++ tkB ns x.ks ++ N ++ tlB z x.ls ++ tmB x.sd ++ tmB (x.ut.take k) ++ [mkB (x.ut.getD k false)]) := by unfold Hid tmB; rw [mp_take _ x.ut false (by rw [H4.out]; exact hlt)]; simp only [List.append_assoc]
                          have HL : (mtB z x.js ++ mjB x.js ++ tkB ns x.ks ++ N ++ tlB z x.ls ++ tmB x.sd ++ tmB (x.ut.take k)).length ≤ 250000 := by have := BP6.out; rw [List.length_append, tmB_len, List.length_take]; omega
                          obtain ⟨bt, e1⟩ : ∃ t, Hid (x.ut.getD k false = t) := ⟨_, rfl⟩
                          rw [e1.out] at c1 HT
                          generalize mtB z x.js ++ mjB x.js ++ tkB ns x.ks ++ N ++ tlB z x.ls ++ tmB x.sd ++ tmB (x.ut.take k) = L at *
                          obtain ⟨_, _, _, _, b4⟩ := B2.out.up HU.out
                          have x0 := cell_lt b4
                          have x1 := cell_lt c1
                          have i1 : (k : Int) < (q4 : Int) := by omega
                          go_wp2_with fail
                          refine (dtruth_any w2.heap.size wr u10 L bt HU.out.size HO.out (by omega)).mono ?_
                          rintro e w9 ⟨v9, rfl, o9, g9⟩
                          have O9 : Hid (Ow w9 w2.heap.size v9 (mtB z x.js ++ mjB x.js ++ tkB ns x.ks ++ N ++ tlB z x.ls ++ tmB x.sd ++ tmB (x.ut.take (k + 1)))) := by rw [HT.out]; exact o9
                          have U9 := Lib.hid (HU.out.grown g9 HO.out.block)
                          clear o9 g9 HO HU HT b4 c1 x0 x1
                          go_wp2_with fail
                          go_roundw
                          case rel => exact ⟨k + 1, by omega, by go_num, O9.out, U9.out⟩
                          case measure => simp [intOf]; omega
                        · have hkq : q4 = k := by omega
                          subst hkq
                          have O' : Hid (Ow wr w2.heap.size u10 (mtB z x.js ++ mjB x.js ++ tkB ns x.ks ++ N ++ tlB z x.ls ++ tmB x.sd ++ tmB x.ut)) := by
                            have := HO.out; rw [List.take_of_length_le (by rw [H4.out]; exact Nat.le_refl _)] at this; exact this
                          clear HO
                          obtain ⟨_, _, _, _, b4⟩ := B2.out.up HU.out
                          have x0 := cell_lt b4
                          go_wp2_with fail
                          clear b4 x0
                          obtain ⟨b0, b1, b2, b3, b4⟩ := B2.out.up HU.out
                          have x0 := cell_lt b0
                          obtain ⟨a0, a1, a2, a3, a4, a5, a6⟩ := HX.out.up HU.out
                          obtain ⟨lf, fz⟩ := FX.out.up HU.out
                          have g0 := fz 0; have g1 := fz 1; have g2 := fz 2; have g3 := fz 3; have g4 := fz 4; have g5 := fz 5; have g6 := fz 6
                          clear fz
                          have O9 : Hid (Ow wr w2.heap.size u10 EE) := by rw [EL.out]; exact O'.out
                          have UF := Lib.hid (U2.out.trans HU.out)
                          have OF := Lib.hid (Ow.seven (b := w.heap.size + 1) (O9.out.base U2.out.size) (fun k hk => by
                            have q := O9.out.block k hk
                            have q' := FX.out.1
                            omega) (.int .i64 ver) (.int .i64 q4) (.int .i64 q3) (.int .i64 q2) (.int .i64 q1) (.int .i64 q0) (.int .i64 N.length))
                          clear O' O9
                          go_region
                          all_goals
                            go_wp2_with fail
                            refine bodyPost_ret (v := .tuple #[u10, hv ver q4 q3 q2 q1 q0 N.length]) (by simp [results, Tryz.results36, go_sem, a0, a1, a2, a3, a4, a5, a6]) rfl ⟨_, rfl, OF.out.up (Up.drewN _ 1), (Up.seven UF.out (Nat.le_succ _) _ _ _ _ _ _ _).drewN' 1⟩
end Go.Proofs.YtaljddoenjgbfaaGreat
