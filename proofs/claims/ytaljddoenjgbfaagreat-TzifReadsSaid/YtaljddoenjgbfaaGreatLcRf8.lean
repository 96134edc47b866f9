/-
  The document's block: Decode, of a right header and enough bytes, moments of 4 bytes.
-/
import Derived.Test.YtaljddoenjgbfaaGreatLcRf6
import Derived.Test.YtaljddoenjgbfaaGreatLcRf7
import Derived.Test.YtaljddoenjgbfaaGreatLcHdrI
import Derived.Test.YtaljddoenjgbfaaGreatLcRf3
import Derived.Test.YtaljddoenjgbfaaGreatLcFewG
import Derived.Deep.RegionLaw
import Derived.StillTailTactics
import Derived.BigQuiet
import Derived.Deep.CutRange
namespace Go.Proofs.YtaljddoenjgbfaaGreat.dc4
open Go.ChangeShapes Go.WideShapes Go.ChangeAt Go.RowKit Lc
set_option linter.unusedSimpArgs false
set_option linter.unusedVariables false

set_option maxRecDepth 100000 in
theorem flipD {f : FuncId} {args : Array Value} {w : World} {v : Value} (h : Calls Tryz.prog f args w fun e w' => e = .returned v ∧ w = w') : Calls Tryz.prog f args w fun e w' => e = .returned v ∧ w' = w :=
  h.mono fun _ _ ⟨he, hw⟩ => ⟨he, hw.symm⟩
set_option maxRecDepth 100000 in
theorem rc_new (w : World) (cs : Array Value) (t : TypeId) : Rc (w.alloc (.cells cs t)) (some ⟨w.heap.size, 0, none⟩) cs.toList := (Rw.new w cs t).rc
set_option maxRecDepth 100000 in
theorem rng_len {α : Type} (f : Nat → α) (k : Nat) : ((List.range k).map f).length = k := by simp
set_option maxRecDepth 100000 in
theorem rng_succ {α : Type} (f : Nat → α) (k : Nat) : (List.range (k + 1)).map f = (List.range k).map f ++ [f k] := by simp [List.range_succ]

set_option maxRecDepth 100000 in
set_option maxHeartbeats 16000000 in
theorem ddecode_long (A : Option Addr) (b : List UInt8) (cc : Nat) (ver : Int) (u s l t y c : Nat) (w : World) (hcm : cc ≤ maxLen) (hc : b.length ≤ cc) (r : rightH ver u s l t y c = true) (hl : t * 4 + t + y * 6 + c + l * (4 + 4) + s + u ≤ b.length) (hr : Rd w A b) :
    Calls Tryz.prog 41 #[.slice A b.length cc, hv ver u s l t y c, .int .i64 4] w fun e w' => DdR w b ver u s l t y c 4 e w' := by
  obtain ⟨q1, q2, q3, q4, q5, q6⟩ := right_nat r
  have R1 := Lib.hid (fun w => refRight_any ver u s l t y c w)
  rw [r] at R1
  have R2 := Lib.hid (fun w => refBody_any ver u s l t y c 4 w (by omega) (by omega) (by omega) (by omega) (by omega) (by omega) (by omega))
  rw [show bodyI (u : Int) s l t y c 4 = ((t * 4 + t + y * 6 + c + l * (4 + 4) + s + u : Nat) : Int) from body_nat u s l t y c 4] at R2
  have PJ := Lib.hid (fun k (h : k < t) => pj (b := b) (z := 4) h)
  have PK := Lib.hid (fun k (h : k < y) => pk (b := b) (t := t) (z := 4) (pNa b t y c 4) h)
  have PG := Lib.hid (fun k (h : k < y) => pg (b := b) (t := t) (z := 4) (pNa b t y c 4) h)
  have PX := Lib.hid (fun p => pn_ix (b := b) (t := t) (y := y) (c := c) (z := 4) p)
  have PO := Lib.hid (fun p (h : c ≤ p) => pn_out (b := b) (t := t) (y := y) (z := 4) h)
  have PF := Lib.hid (fun p (h : 0 ≤ nmIx (pNa b t y c 4) p) => pn_of h)
  have PL := Lib.hid (fun k (h : k < l) => pl (b := b) (t := t) (y := y) (c := c) (z := 4) h)
  have PS := Lib.hid (fun k (h : k < s) => ps (b := b) (t := t) (y := y) (c := c) (l := l) (z := 4) h)
  have PU := Lib.hid (fun k (h : k < u) => pu (b := b) (t := t) (y := y) (c := c) (l := l) (s := s) (z := 4) h)
  have OK := Lib.hid (pok (b := b) (u := u) (s := s) (l := l) (t := t) (y := y) (c := c) (z := 4))
  have HX := Lib.hid (show dBk b u s l t y c 4 = ⟨(List.range y).map (rdK (pKi b t y 4) (pNa b t y c 4)), (List.range t).map (rdJ (pMo b t 4) (pJu b t 4) 4), (List.range l).map (rdL (pLe b t y c l 4) 4), (List.range s).map (rdM (pSd b t y c l s 4)), (List.range u).map (rdM (pUt b t y c l s u 4))⟩ from rfl)
  have DN := Lib.hid (fun (e : Ending) (w' : World) (h : ¬ (dOk b u s l t y c 4 = true ∧ rightB (dBk b u s l t y c 4) 4 ver = true)) (g : DcN w 4 bk0 e w') => DdR.no h g)
  have DY := Lib.hid (fun (e : Ending) (w' : World) (h1 : dOk b u s l t y c 4 = true) (h2 : rightB (dBk b u s l t y c 4) 4 ver = true) (g : DcN w 0 (dBk b u s l t y c 4) e w') => DdR.yes h1 h2 g)
  generalize DdR w b ver u s l t y c 4 = Post at *
  generalize dOk b u s l t y c 4 = ok at *
  generalize dBk b u s l t y c 4 = blk at *
  obtain ⟨K, hK⟩ : ∃ K, t * 4 = K := ⟨_, rfl⟩
  obtain ⟨T, hT⟩ : ∃ T, K + t = T := ⟨_, rfl⟩
  obtain ⟨CH, hCH⟩ : ∃ T', T + y * 6 = T' := ⟨_, rfl⟩
  obtain ⟨LE, hLE⟩ : ∃ T', CH + c = T' := ⟨_, rfl⟩
  obtain ⟨SD, hSD⟩ : ∃ T', LE + l * (4 + 4) = T' := ⟨_, rfl⟩
  obtain ⟨UT', hUT⟩ : ∃ T', SD + s = T' := ⟨_, rfl⟩
  rw [hK, hT, hCH, hLE, hSD, hUT] at hl R2
  simp only [hK, hT, hCH, hLE, hSD, hUT] at PJ PK PG PX PF PL PS PU OK
  generalize rdK (pKi b t y 4) (pNa b t y c 4) = fK at *
  generalize rdJ (pMo b t 4) (pJu b t 4) 4 = fJ at *
  generalize rdL (pLe b t y c l 4) 4 = fL at *
  generalize rdM (pSd b t y c l s 4) = fS at *
  generalize rdM (pUt b t y c l s u 4) = fU at *
  generalize kGo (pKi b t y 4) (pNa b t y c 4) = gK at *
  generalize pNa b t y c 4 = na at *
  obtain ⟨n, hn⟩ : ∃ n, b.length = n := ⟨_, rfl⟩
  rw [hn] at hl hc ⊢
  have HN := Lib.hid hn
  have n62 : n ≤ 9223372036854775807 := by unfold maxLen at hcm; omega
  have k1 : (t : Int) * 4 = (K : Int) := by omega
  have k2 : (K : Int) + (t : Int) = (T : Int) := by omega
  have k3 : (T : Int) + 6 * (y : Int) = (CH : Int) := by omega
  have k4 : (CH : Int) + (c : Int) = (LE : Int) := by omega
  have k5 : (LE : Int) + (l : Int) * 8 = (SD : Int) := by omega
  have k6 : (SD : Int) + (s : Int) = (UT' : Int) := by omega
  have kb : K ≤ 40000 ∧ T ≤ 45000 ∧ CH ≤ 50000 ∧ LE ≤ 50300 ∧ SD ≤ 111000 ∧ UT' ≤ 112000 := by omega
  obtain ⟨kb1, kb2, kb3, kb4, kb5, kb6⟩ := kb
  have KK := Lib.hid (show t * 4 = K ∧ K + t = T ∧ T + y * 6 = CH ∧ CH + c = LE ∧ LE + l * (4 + 4) = SD ∧ SD + s = UT' by omega)
  have hbl : ¬ ((n : Int) < ((UT' + u : Nat) : Int)) := by omega
  have INT := Lib.hid (fun w1 (u : Up w w1) a (h : a + 4 ≤ n) => refInt4 A b cc a w1 (by rw [hn]; exact hc) hcm (by rw [hn]; exact h) (hr.up u))
  have INT4 := Lib.hid (fun w1 (u : Up w w1) a (h : a + 4 ≤ n) => refInt4 A b cc a w1 (by rw [hn]; exact hc) hcm (by rw [hn]; exact h) (hr.up u))
  have NAM := Lib.hid (fun w1 (u : Up w w1) a (h : a ≤ 1000000) => dname_same A (b.take LE) LE cc a w1 (by rw [List.length_take]; omega) (by omega) hcm h ((hr.up u).take LE))
  rw [hn] at INT INT4
  have BC : Hid (0 < n → ∃ bb oo, A = some ⟨bb, oo, none⟩ ∧ ∀ i, i < n → ∀ w1, Up w w1 → w1.cell? ⟨bb, oo + i, none⟩ = some (.int .u8 (b.getD i 0).toNat)) := fun h => by
    obtain ⟨bb, oo, e, h⟩ := hr (by rw [hn]; omega)
    exact ⟨bb, oo, e, fun i hi w1 u => u.cell (h i (by rw [hn]; exact hi))⟩
  have HB := Lib.hid ((HBox.new w ver u s l t y c 60).up (Up.alloc _ (.cells #[.slice none 0 0, .slice none 0 0, .slice none 0 0, .slice none 0 0, .slice none 0 0] 37)))
  have RB := Lib.hid (Bx5.new (w.alloc (.cells #[.int .i64 ver, .int .i64 u, .int .i64 s, .int .i64 l, .int .i64 t, .int .i64 y, .int .i64 c] 60)) (.slice none 0 0) (.slice none 0 0) (.slice none 0 0) (.slice none 0 0) (.slice none 0 0) 37)
  have RF := Lib.hid (Free.new (w.alloc (.cells #[.int .i64 ver, .int .i64 u, .int .i64 s, .int .i64 l, .int .i64 t, .int .i64 y, .int .i64 c] 60)) #[.slice none 0 0, .slice none 0 0, .slice none 0 0, .slice none 0 0, .slice none 0 0] 37)
  have UU := Lib.hid ((Up.alloc w (.cells #[.int .i64 ver, .int .i64 u, .int .i64 s, .int .i64 l, .int .i64 t, .int .i64 y, .int .i64 c] 60)).alloc' (.cells #[.slice none 0 0, .slice none 0 0, .slice none 0 0, .slice none 0 0, .slice none 0 0] 37))
  rw [World.size_alloc] at RB RF
  clear hK hT hCH hLE hSD hUT hn hr r
  go_enter Tryz.func41, Tryz.ntmps41
  go_wp2_with fail
  refine (R1.out _).mono ?_; rintro e w1 ⟨rfl, u1⟩
  have U1 := Lib.hid (UU.out.trans u1)
  have HB1 := Lib.hid (HB.out.up u1)
  have RB1 := Lib.hid (RB.out.up u1)
  have RF1 := Lib.hid (RF.out.up u1)
  clear u1 UU HB RB RF R1
  obtain ⟨h0, h1, h2, h3, h4, h5, h6⟩ := HB1.out
  have zz4 : ((4 : Int) != 4) = false := by decide
  have zz8 : ((4 : Int) != 8) = true := by decide
  go_wp2_with fail
  clear h0 h1 h2 h3 h4 h5 h6
  refine (R2.out _).mono ?_; rintro e w2 ⟨rfl, u2⟩
  have U2 := Lib.hid (U1.out.trans u2)
  have HB2 := Lib.hid (HB1.out.up u2)
  have RB2 := Lib.hid (RB1.out.up u2)
  have RF2 := Lib.hid (RF1.out.up u2)
  clear u2 U1 HB1 RB1 RF1 R2
  have X2 := Lib.hid (Xb.new w2 w2.heap.size)
  obtain ⟨h0, h1, h2, h3, h4, h5, h6⟩ := HB2.out
  have lt2 := cell_lt h0
  go_wp2_with fail
  clear h0 h1 h2 h3 h4 h5 h6 lt2 hbl
  go_loopw [17] (fun i wr => ∃ k : Nat, k ≤ t ∧ i = .int .i64 k ∧ Xb wr w2.heap.size w2.heap.size ⟨[], (List.range k).map fJ, [], [], []⟩ ∧ Up w2 wr) (fun i _ => t - (intOf i).toNat)
  case atStart => exact ⟨0, Nat.zero_le _, rfl, X2.out, Up.alloc _ _⟩
  case round =>
    obtain ⟨k, hk, rfl, hx9, hu⟩ := hrel
    have HO := Lib.hid hx9
    have HU := Lib.hid hu
    have XR := Lib.hid hx9
    have HW := Lib.hid (HB2.out.up hu)
    clear hu hx9
    have UV := Lib.hid (U2.out.trans HU.out)
    by_cases hlt : k < t
    · skip
      obtain ⟨ik, eik⟩ : ∃ x, k * 4 = x := ⟨_, rfl⟩
      have kb7 := mul_step (z := 4) hlt
      have ek : (k : Int) * 4 = (ik : Int) := by omega
      obtain ⟨kk, ekk⟩ : ∃ x, K + k = x := ⟨_, rfl⟩
      have ek2 : (K : Int) + (k : Int) = (kk : Int) := by omega
      have KP := KK.out
      have bd1 : ik + 4 ≤ n := by omega
      have bd2 : kk < n := by omega
      have FJ := Lib.hid (PJ.out k hlt)
      rw [eik, ekk] at FJ
      have IT := Lib.hid (INT.out wr UV.out ik bd1)
      obtain ⟨jt, ejt⟩ : ∃ v, Hid (sgI 4 (beN ((b.drop ik).take 4) : Nat) = v) := ⟨_, rfl⟩
      rw [ejt.out] at IT FJ
      obtain ⟨bb, oo, eA, cbs⟩ := BC.out (by omega)
      subst eA
      have CBS := Lib.hid cbs
      clear cbs
      have Kjb : Hid (∀ w9, Up w w9 → w9.cell? ⟨bb, oo + kk, none⟩ = some (.int .u8 (b.getD kk 0).toNat)) := CBS.out kk (by omega)
      obtain ⟨jb, ejb⟩ : ∃ v, Hid ((b.getD kk 0).toNat = v) := ⟨_, rfl⟩
      have ljb : jb < 256 := by rw [← ejb.out]; exact (b.getD kk 0).toNat_lt
      rw [ejb.out] at Kjb
      have ijb : (kk : Int) < (n : Int) := by omega
      have jjb : (0 : Int) ≤ (kk : Int) := by omega
      have wjb : IntKind.i64.wrap (kk : Int) = (kk : Int) := IntWalk.i64_in _ (by omega)
      have vjb : IntKind.i64.wrap (jb : Int) = (jb : Int) := IntWalk.i64_in _ (by omega)
      rw [ejb.out] at FJ
      clear KP kb7 eik ekk
      obtain ⟨h0, h1, h2, h3, h4, h5, h6⟩ := HW.out
      have xh := cell_lt h0
      have i1 : (k : Int) < (t : Int) := by omega
      go_wp2_with fail
      refine IT.out.mono ?_; rintro e w9 ⟨rfl, rfl⟩
      clear IT
      go_wp2_with fail
      clear h0 h1 h2 h3 h4 h5 h6 xh
      obtain ⟨va, vb, vc, vd, ve, hx⟩ := XR.out
      obtain ⟨A0, c0, A1, c1, A2, c2, A3, c3, A4, c4, e0, e1, e2, e3, e4⟩ := hx.form
      simp only [rng_len, List.length_nil] at e0 e1 e2 e3 e4
      subst e0 e1 e2 e3 e4
      obtain ⟨x0, x1, x2, x3, x4⟩ := (bx_heap hx.1).1
      have xl := cell_lt x0
      have HXX := Lib.hid ((hx.up (Up.drewN wr 1)).up (Up.alloc wr.drew (.cells #[.int .i64 jt, .int .i64 (jb : Int)] 70)))
      have OW : Hid ((wr.drew.alloc (.cells #[.int .i64 jt, .int .i64 (jb : Int)] 70)).ownsRow w2.heap.size 70 2 (.slice A1 k c1) ((List.range k).map fJ).length (jc ((List.range k).map fJ))) := HXX.out.2.2.1
      have SZ : Hid (w2.heap.size ≤ (wr.drew.alloc (.cells #[.int .i64 jt, .int .i64 (jb : Int)] 70)).heap.size) := ((HU.out.drewN' 1).alloc' _).size
      have LN : Hid (((List.range k).map fJ).length + ([(⟨jt, (jb : Int)⟩ : Jmp)] : List Jmp).length ≤ 1000000) := by unfold Hid; rw [rng_len]; simp; omega
      have HR := Lib.hid (rc_new wr.drew #[.int .i64 jt, .int .i64 (jb : Int)] 70)
      clear hx
      have cjb := Kjb.out wr UV.out
      have djb := cell_lt cjb
      go_region_law (refine step_append_jmp _ (by rfl) _ _ (by rfl) w2.heap.size _ ((List.range k).map fJ) (by rfl) OW.out (some ⟨wr.drew.heap.size, 0, none⟩) [(⟨jt, (jb : Int)⟩ : Jmp)] 1 1 (by rfl) rfl HR.out LN.out SZ.out ?_; intro v6 w6 ho6 hg6 hn6; replace ho6 : w6.ownsRow w2.heap.size 70 2 v6 ((List.range k).map fJ ++ [(⟨jt, (jb : Int)⟩ : Jmp)]).length (jc ((List.range k).map fJ ++ [(⟨jt, (jb : Int)⟩ : Jmp)])) := (by simpa using ho6); have X7 := Lib.hid (Xv.app1 (m := [(⟨jt, (jb : Int)⟩ : Jmp)]) HXX.out ho6 hg6 (by simpa using hn6)); have HX6 := Lib.hid (heap_grown hg6 HXX.out.1 (row_ty OW.out HXX.out.1 (by decide))); have U6 := Lib.hid (Up.grown ((HU.out.drewN' 1).alloc' (.cells #[.int .i64 jt, .int .i64 (jb : Int)] 70)) hg6 (fun j hj => (World.ownsRow.lt OW.out j hj).1)); obtain ⟨P', cp, hv6⟩ := row_form ho6; rw [List.length_append, rng_len] at hv6; replace hv6 : v6 = .slice P' (k + 1) cp := hv6; subst hv6; have U7 := Lib.hid (U6.out.setCell' (p := ⟨w2.heap.size, 1, none⟩) (Nat.le_refl _) (.slice P' (k + 1) cp)); obtain ⟨y0, y1, y2, y3, y4⟩ := (bx_heap HX6.out).1; have fz := (bx_heap HX6.out).2.2 1; have yl := cell_lt y0; clear ho6 hg6 hn6)
      all_goals
        go_wp2_with fail
        go_roundw
        case rel => exact ⟨k + 1, by omega, by go_num, by rw [rng_succ, FJ.out]; exact ⟨_, _, _, _, _, X7.out⟩, U7.out⟩
        case measure => simp [intOf]; omega
    · have hkt : t = k := by omega
      subst hkt
      obtain ⟨h0, h1, h2, h3, h4, h5, h6⟩ := HW.out
      have xh := cell_lt h0
      go_wp2_with fail
      clear h0 h1 h2 h3 h4 h5 h6 xh HO
      go_loopw [20] (fun i wr => ∃ k : Nat, k ≤ y ∧ i = .int .i64 k ∧ Xb wr w2.heap.size w2.heap.size ⟨(List.range k).map fK, (List.range t).map fJ, [], [], []⟩ ∧ (∀ j, j < k → gK j = true) ∧ Up w2 wr) (fun i _ => y - (intOf i).toNat)
      case atStart => exact ⟨0, Nat.zero_le _, rfl, XR.out, fun j hj => absurd hj (Nat.not_lt_zero j), HU.out⟩
      case round =>
        clear HU XR HW UV
        obtain ⟨k, hk, rfl, hx9, hall, hu⟩ := hrel
        have HA := Lib.hid hall
        clear hall
        have HO := Lib.hid hx9
        have HU := Lib.hid hu
        have XR := Lib.hid hx9
        have HW := Lib.hid (HB2.out.up hu)
        clear hu hx9
        have UV := Lib.hid (U2.out.trans HU.out)
        by_cases hlt : k < y
        · skip
          obtain ⟨pk, epk⟩ : ∃ x, T + k * 6 = x := ⟨_, rfl⟩
          have ep : (T : Int) + 6 * (k : Int) = (pk : Int) := by omega
          have KP := KK.out
          have bd0 : pk + 6 ≤ CH := by omega
          have bd1 : pk + 4 ≤ n := by omega
          obtain ⟨p4, ep4⟩ : ∃ x, pk + 4 = x := ⟨_, rfl⟩
          obtain ⟨p5, ep5⟩ : ∃ x, pk + 5 = x := ⟨_, rfl⟩
          have er4 : (pk : Int) + 4 = (p4 : Int) := by omega
          have er5 : (pk : Int) + 5 = (p5 : Int) := by omega
          have bd4 : p4 < n := by omega
          have bd5 : p5 < n := by omega
          have FK := Lib.hid (PK.out k hlt)
          have GK := Lib.hid (PG.out k hlt)
          rw [epk, ep4, ep5] at FK GK
          have IT := Lib.hid (INT4.out wr UV.out pk bd1)
          obtain ⟨ko, eko⟩ : ∃ v, Hid (sgI 4 (beN ((b.drop pk).take 4) : Nat) = v) := ⟨_, rfl⟩
          rw [eko.out] at IT FK
          obtain ⟨bb, oo, eA, cbs⟩ := BC.out (by omega)
          subst eA
          have CBS := Lib.hid cbs
          clear cbs
          have Kdb : Hid (∀ w9, Up w w9 → w9.cell? ⟨bb, oo + p4, none⟩ = some (.int .u8 (b.getD p4 0).toNat)) := CBS.out p4 (by omega)
          obtain ⟨db, edb⟩ : ∃ v, Hid ((b.getD p4 0).toNat = v) := ⟨_, rfl⟩
          have ldb : db < 256 := by rw [← edb.out]; exact (b.getD p4 0).toNat_lt
          rw [edb.out] at Kdb
          have idb : (p4 : Int) < (n : Int) := by omega
          have jdb : (0 : Int) ≤ (p4 : Int) := by omega
          have wdb : IntKind.i64.wrap (p4 : Int) = (p4 : Int) := IntWalk.i64_in _ (by omega)
          have vdb : IntKind.i64.wrap (db : Int) = (db : Int) := IntWalk.i64_in _ (by omega)
          have Kpb : Hid (∀ w9, Up w w9 → w9.cell? ⟨bb, oo + p5, none⟩ = some (.int .u8 (b.getD p5 0).toNat)) := CBS.out p5 (by omega)
          obtain ⟨pb, epb⟩ : ∃ v, Hid ((b.getD p5 0).toNat = v) := ⟨_, rfl⟩
          have lpb : pb < 256 := by rw [← epb.out]; exact (b.getD p5 0).toNat_lt
          rw [epb.out] at Kpb
          have ipb : (p5 : Int) < (n : Int) := by omega
          have jpb : (0 : Int) ≤ (p5 : Int) := by omega
          have wpb : IntKind.i64.wrap (p5 : Int) = (p5 : Int) := IntWalk.i64_in _ (by omega)
          have vpb : IntKind.i64.wrap (pb : Int) = (pb : Int) := IntWalk.i64_in _ (by omega)
          rw [epb.out] at FK GK
          rw [edb.out] at GK
          have d1 : Hid (decide (b.getD p4 0 = 1) = ((db : Int) == 1)) := by
            unfold Hid; rw [← edb.out, Bool.eq_iff_iff, decide_eq_true_iff, beq_iff_eq]
            constructor
            · intro h; rw [h]; rfl
            · intro h; exact UInt8.toNat_inj.1 (show (b.getD p4 0).toNat = 1 by omega)
          rw [d1.out] at FK
          obtain ⟨cp, ecp⟩ : ∃ x, CH + pb = x := ⟨_, rfl⟩
          have ec : (CH : Int) + (pb : Int) = (cp : Int) := by omega
          have bdc : cp ≤ 1000000 := by omega
          have wcp : IntKind.i64.wrap (cp : Int) = (cp : Int) := IntWalk.i64_in _ (by omega)
          have NM := fun nq => NAM.out (wr.drewN nq) (UV.out.drewN' nq) cp bdc
          have OX : Hid (nmO (b.take LE) cp = decide (0 ≤ nmIx na pb)) := by unfold Hid nmO; rw [PX.out pb, ecp]
          have SX : Hid (0 ≤ nmIx na pb → nmOf na pb = nmS (b.take LE) cp) := fun h => by rw [PF.out pb h, ecp]
          obtain ⟨O, eO⟩ : ∃ v, nmO (b.take LE) cp = v := ⟨_, rfl⟩
          obtain ⟨Sn, eS⟩ : ∃ v, nmS (b.take LE) cp = v := ⟨_, rfl⟩
          simp only [eO, eS] at NM OX SX
          have NM2 := Lib.hid NM
          clear KP epk ecp eO eS NM ep4 ep5
          have hle : (LE : Int) ≤ (cc : Int) := by omega
          have hle2 : ¬ ((cc : Int) < (LE : Int)) := by omega
          have hle3 : (0 : Int) ≤ (LE : Int) := by omega
          obtain ⟨h0, h1, h2, h3, h4, h5, h6⟩ := HW.out
          have xh := cell_lt h0
          have i1 : (k : Int) < (y : Int) := by omega
          go_wp2_with fail
          refine IT.out.mono ?_; rintro e w9 ⟨rfl, rfl⟩
          clear IT
          have cpb := Kpb.out wr UV.out
          have xpb := cell_lt cpb
          go_wp2_with fail
          go_quiet ((exact Calls.quiet_of_same (flipD (NM2.out _))))
          clear h0 h1 h2 h3 h4 h5 h6 xh cpb xpb NM2
          replace UV := Lib.hid (UV.out.drewN' nq)
          replace HU := Lib.hid (HU.out.drewN' nq)
          replace XR := Lib.hid (XR.out.up (Up.drewN wr nq))
          replace HW := Lib.hid (HW.out.up (Up.drewN wr nq))
          generalize wr.drewN nq = wq at *
          obtain ⟨h0, h1, h2, h3, h4, h5, h6⟩ := HW.out
          have xh := cell_lt h0
          have cdb := Kdb.out wq UV.out
          have xdb := cell_lt cdb
          have cpb := Kpb.out wq UV.out
          by_cases g1 : 1 < db
          · have gd : decide ((1 : Int) < (db : Int)) = true := by simp; omega
            have gk : gK k = false := by rw [GK.out, show decide (db ≤ 1) = false by simp; omega]; rfl
            have hf : Hid (¬ (ok = true ∧ rightB blk 4 ver = true)) := fun h => by
              have := (OK.out.1 h.1).1 k hlt; rw [gk] at this; cases this
            obtain ⟨g0, g1, g2, g3, g4⟩ := RB2.out.up HU.out
            obtain ⟨gl, fz⟩ := RF2.out.up HU.out
            have z0 := fz 0; have z1 := fz 1; have z2 := fz 2; have z3 := fz 3; have z4 := fz 4
            clear fz
            clear FK GK OX SX
            go_wp2_with fail
            go_quiet (fail)
            go_wp2_with fail
            exact bodyPost_ret (v := .tuple #[bz, .int .i64 4]) (by simp [results, Tryz.results41, go_sem, g0, g1, g2, g3, g4]) rfl (DN.out _ _ hf.out ⟨_, rfl, bz_read _, Up.five (b := w.heap.size + 1) (UV.out.drewN' nq) (Nat.le_succ _) _ _ _ _ _, bz_new _⟩)
          have gd : decide ((1 : Int) < (db : Int)) = false := by simp; omega
          by_cases g2 : c ≤ pb
          · have ge : decide ((c : Int) ≤ (pb : Int)) = true := by simp; omega
            have gk : gK k = false := by rw [GK.out, PO.out pb g2]; simp
            have hf : Hid (¬ (ok = true ∧ rightB blk 4 ver = true)) := fun h => by
              have := (OK.out.1 h.1).1 k hlt; rw [gk] at this; cases this
            obtain ⟨g0, g1, g2, g3, g4⟩ := RB2.out.up HU.out
            obtain ⟨gl, fz⟩ := RF2.out.up HU.out
            have z0 := fz 0; have z1 := fz 1; have z2 := fz 2; have z3 := fz 3; have z4 := fz 4
            clear fz
            clear FK GK OX SX
            go_wp2_with fail
            go_quiet (fail)
            go_wp2_with fail
            exact bodyPost_ret (v := .tuple #[bz, .int .i64 4]) (by simp [results, Tryz.results41, go_sem, g0, g1, g2, g3, g4]) rfl (DN.out _ _ hf.out ⟨_, rfl, bz_read _, Up.five (b := w.heap.size + 1) (UV.out.drewN' nq) (Nat.le_succ _) _ _ _ _ _, bz_new _⟩)
          have ge : decide ((c : Int) ≤ (pb : Int)) = false := by simp; omega
          cases O
          · skip
            have gk : gK k = false := by rw [GK.out, ← OX.out]; simp
            have hf : Hid (¬ (ok = true ∧ rightB blk 4 ver = true)) := fun h => by
              have := (OK.out.1 h.1).1 k hlt; rw [gk] at this; cases this
            obtain ⟨g0, g1, g2, g3, g4⟩ := RB2.out.up HU.out
            obtain ⟨gl, fz⟩ := RF2.out.up HU.out
            have z0 := fz 0; have z1 := fz 1; have z2 := fz 2; have z3 := fz 3; have z4 := fz 4
            clear fz
            clear FK GK OX SX
            go_wp2_with fail
            go_quiet (fail)
            go_wp2_with fail
            exact bodyPost_ret (v := .tuple #[bz, .int .i64 4]) (by simp [results, Tryz.results41, go_sem, g0, g1, g2, g3, g4]) rfl (DN.out _ _ hf.out ⟨_, rfl, bz_read _, Up.five (b := w.heap.size + 1) (UV.out.drewN' nq) (Nat.le_succ _) _ _ _ _ _, bz_new _⟩)
          have ix : 0 ≤ nmIx na pb := by have := OX.out.symm; simpa using this
          replace GK : Hid (gK k = true) := by unfold Hid; rw [GK.out]; simp; exact ⟨by omega, ix⟩
          rw [SX.out ix] at FK
          obtain ⟨dd, edd⟩ : ∃ v, ((db : Int) == 1) = v := ⟨_, rfl⟩
          rw [edd] at FK
          clear SX OX ix d1
          go_wp2_with fail
          go_quiet (fail)
          clear h0 h1 h2 h3 h4 h5 h6 xh cdb xdb cpb
          replace UV := Lib.hid (UV.out.drewN' nq)
          replace HU := Lib.hid (HU.out.drewN' nq)
          replace XR := Lib.hid (XR.out.up (Up.drewN wq nq))
          replace HW := Lib.hid (HW.out.up (Up.drewN wq nq))
          generalize wq.drewN nq = wr at *
          go_wp2_with fail
          obtain ⟨va, vb, vc, vd, ve, hx⟩ := XR.out
          obtain ⟨A0, c0, A1, c1, A2, c2, A3, c3, A4, c4, e0, e1, e2, e3, e4⟩ := hx.form
          simp only [rng_len, List.length_nil] at e0 e1 e2 e3 e4
          subst e0 e1 e2 e3 e4
          obtain ⟨x0, x1, x2, x3, x4⟩ := (bx_heap hx.1).1
          have xl := cell_lt x0
          have HXX := Lib.hid ((hx.up (Up.drewN wr 1)).up (Up.alloc wr.drew (.cells #[.int .i64 ko, .bool dd, .string Sn] 51)))
          have OW : Hid ((wr.drew.alloc (.cells #[.int .i64 ko, .bool dd, .string Sn] 51)).ownsRow w2.heap.size 51 3 (.slice A0 k c0) ((List.range k).map fK).length (kc ((List.range k).map fK))) := HXX.out.2.1
          have SZ : Hid (w2.heap.size ≤ (wr.drew.alloc (.cells #[.int .i64 ko, .bool dd, .string Sn] 51)).heap.size) := ((HU.out.drewN' 1).alloc' _).size
          have LN : Hid (((List.range k).map fK).length + ([(⟨ko, dd, Sn⟩ : Knd)] : List Knd).length ≤ 1000000) := by unfold Hid; rw [rng_len]; simp; omega
          have HR := Lib.hid (rc_new wr.drew #[.int .i64 ko, .bool dd, .string Sn] 51)
          clear hx
          have cdb := Kdb.out wr UV.out
          have ddb := cell_lt cdb
          go_region_law (refine step_append_knd _ (by rfl) _ _ (by rfl) w2.heap.size _ ((List.range k).map fK) (by rfl) OW.out (some ⟨wr.drew.heap.size, 0, none⟩) [(⟨ko, dd, Sn⟩ : Knd)] 1 1 (by rfl) rfl HR.out LN.out SZ.out ?_; intro v6 w6 ho6 hg6 hn6; replace ho6 : w6.ownsRow w2.heap.size 51 3 v6 ((List.range k).map fK ++ [(⟨ko, dd, Sn⟩ : Knd)]).length (kc ((List.range k).map fK ++ [(⟨ko, dd, Sn⟩ : Knd)])) := (by simpa using ho6); have X7 := Lib.hid (Xv.app0 (m := [(⟨ko, dd, Sn⟩ : Knd)]) HXX.out ho6 hg6 (by simpa using hn6)); have HX6 := Lib.hid (heap_grown hg6 HXX.out.1 (row_ty OW.out HXX.out.1 (by decide))); have U6 := Lib.hid (Up.grown ((HU.out.drewN' 1).alloc' (.cells #[.int .i64 ko, .bool dd, .string Sn] 51)) hg6 (fun j hj => (World.ownsRow.lt OW.out j hj).1)); obtain ⟨P', cp, hv6⟩ := row_form ho6; rw [List.length_append, rng_len] at hv6; replace hv6 : v6 = .slice P' (k + 1) cp := hv6; subst hv6; have U7 := Lib.hid (U6.out.setCell' (p := ⟨w2.heap.size, 0, none⟩) (Nat.le_refl _) (.slice P' (k + 1) cp)); obtain ⟨y0, y1, y2, y3, y4⟩ := (bx_heap HX6.out).1; have fz := (bx_heap HX6.out).2.2 0; have yl := cell_lt y0; clear ho6 hg6 hn6)
          all_goals
            go_wp2_with fail
            go_roundw
            case rel => exact ⟨k + 1, by omega, by go_num, by rw [rng_succ, FK.out]; exact ⟨_, _, _, _, _, X7.out⟩, snoc_all HA.out GK.out, U7.out⟩
            case measure => simp [intOf]; omega
        · have hkt : y = k := by omega
          subst hkt
          have GA : Hid (∀ j, j < y → gK j = true) := HA.out
          clear HA
          obtain ⟨h0, h1, h2, h3, h4, h5, h6⟩ := HW.out
          have xh := cell_lt h0
          go_wp2_with fail
          clear h0 h1 h2 h3 h4 h5 h6 xh HO
          go_loopw [26] (fun i wr => ∃ k : Nat, k ≤ l ∧ i = .int .i64 k ∧ Xb wr w2.heap.size w2.heap.size ⟨(List.range y).map fK, (List.range t).map fJ, (List.range k).map fL, [], []⟩ ∧ Up w2 wr) (fun i _ => l - (intOf i).toNat)
          case atStart => exact ⟨0, Nat.zero_le _, rfl, XR.out, HU.out⟩
          case round =>
            clear HU XR HW UV
            obtain ⟨k, hk, rfl, hx9, hu⟩ := hrel
            have HO := Lib.hid hx9
            have HU := Lib.hid hu
            have XR := Lib.hid hx9
            have HW := Lib.hid (HB2.out.up hu)
            clear hu hx9
            have UV := Lib.hid (U2.out.trans HU.out)
            by_cases hlt : k < l
            · skip
              obtain ⟨ik, eik⟩ : ∃ x, k * (4 + 4) = x := ⟨_, rfl⟩
              have el1 : (k : Int) * 8 = (ik : Int) := by omega
              have kb7 := mul_step (z := 4 + 4) hlt
              obtain ⟨pk, epk⟩ : ∃ x, LE + ik = x := ⟨_, rfl⟩
              have el2 : (LE : Int) + (ik : Int) = (pk : Int) := by omega
              obtain ⟨pz, epz⟩ : ∃ x, pk + 4 = x := ⟨_, rfl⟩
              have el3 : (pk : Int) + 4 = (pz : Int) := by omega
              have KP := KK.out
              have bd1 : pk + 4 ≤ n := by omega
              have bd2 : pz + 4 ≤ n := by omega
              have FL := Lib.hid (PL.out k hlt)
              rw [eik, epk, epz] at FL
              have IT := Lib.hid (INT.out wr UV.out pk bd1)
              have IT4 := Lib.hid (INT4.out wr UV.out pz bd2)
              obtain ⟨lt, elt⟩ : ∃ v, Hid (sgI 4 (beN ((b.drop pk).take 4) : Nat) = v) := ⟨_, rfl⟩
              obtain ⟨lcv, elc⟩ : ∃ v, Hid (sgI 4 (beN ((b.drop pz).take 4) : Nat) = v) := ⟨_, rfl⟩
              rw [elt.out] at IT FL
              rw [elc.out] at IT4 FL
              clear KP kb7 eik epk epz
              obtain ⟨h0, h1, h2, h3, h4, h5, h6⟩ := HW.out
              have xh := cell_lt h0
              have i1 : (k : Int) < (l : Int) := by omega
              go_wp2_with fail
              refine IT.out.mono ?_; rintro e w9 ⟨rfl, rfl⟩
              go_wp2_with fail
              refine IT4.out.mono ?_; rintro e w9 ⟨rfl, rfl⟩
              clear IT IT4
              obtain ⟨va, vb, vc, vd, ve, hx⟩ := XR.out
              obtain ⟨A0, c0, A1, c1, A2, c2, A3, c3, A4, c4, e0, e1, e2, e3, e4⟩ := hx.form
              simp only [rng_len, List.length_nil] at e0 e1 e2 e3 e4
              subst e0 e1 e2 e3 e4
              obtain ⟨x0, x1, x2, x3, x4⟩ := (bx_heap hx.1).1
              have xl := cell_lt x0
              have HXX := Lib.hid (hx.up (Up.alloc wr (.cells #[.int .i64 lt, .int .i64 lcv] 73)))
              have OW : Hid ((wr.alloc (.cells #[.int .i64 lt, .int .i64 lcv] 73)).ownsRow w2.heap.size 73 2 (.slice A2 k c2) ((List.range k).map fL).length (lc ((List.range k).map fL))) := HXX.out.2.2.2.1
              have SZ : Hid (w2.heap.size ≤ (wr.alloc (.cells #[.int .i64 lt, .int .i64 lcv] 73)).heap.size) := (HU.out.alloc' _).size
              have LN : Hid (((List.range k).map fL).length + ([(⟨lt, lcv⟩ : Lep)] : List Lep).length ≤ 1000000) := by unfold Hid; rw [rng_len]; simp; omega
              have HR := Lib.hid (rc_new wr #[.int .i64 lt, .int .i64 lcv] 73)
              clear hx
              go_wp2_with (at_builtin; refine wpList_append_lep _ rfl _ _ rfl w2.heap.size _ ((List.range k).map fL) rfl OW.out (some ⟨wr.heap.size, 0, none⟩) [(⟨lt, lcv⟩ : Lep)] 1 1 rfl rfl HR.out LN.out SZ.out ?_)
              intro v6 w6 ho6 hg6 hn6
              replace ho6 : w6.ownsRow w2.heap.size 73 2 v6 ((List.range k).map fL ++ [(⟨lt, lcv⟩ : Lep)]).length (lc ((List.range k).map fL ++ [(⟨lt, lcv⟩ : Lep)])) := (by simpa using ho6)
              have X7 := Lib.hid (Xv.app2 (m := [(⟨lt, lcv⟩ : Lep)]) HXX.out ho6 hg6 (by simpa using hn6))
              have HX6 := Lib.hid (heap_grown hg6 HXX.out.1 (row_ty OW.out HXX.out.1 (by decide)))
              have U6 := Lib.hid (Up.grown (HU.out.alloc' (.cells #[.int .i64 lt, .int .i64 lcv] 73)) hg6 (fun j hj => (World.ownsRow.lt OW.out j hj).1))
              obtain ⟨P', cp, hv6⟩ := row_form ho6
              rw [List.length_append, rng_len] at hv6
              replace hv6 : v6 = .slice P' (k + 1) cp := hv6
              subst hv6
              have U7 := Lib.hid (U6.out.setCell' (p := ⟨w2.heap.size, 2, none⟩) (Nat.le_refl _) (.slice P' (k + 1) cp))
              obtain ⟨y0, y1, y2, y3, y4⟩ := (bx_heap HX6.out).1
              have fz := (bx_heap HX6.out).2.2 2
              have yl := cell_lt y0
              clear ho6 hg6 hn6
              clear x0 x1 x2 x3 x4 xl OW HXX U6 HX6 HU XR HW
              go_wp2_with fail
              go_roundw
              case rel => exact ⟨k + 1, by omega, by go_num, by rw [rng_succ, FL.out]; exact ⟨_, _, _, _, _, X7.out⟩, U7.out⟩
              case measure => simp [intOf]; omega
            · have hkt : l = k := by omega
              subst hkt
              obtain ⟨h0, h1, h2, h3, h4, h5, h6⟩ := HW.out
              have xh := cell_lt h0
              obtain ⟨su, esu⟩ : ∃ x, s + u = x := ⟨_, rfl⟩
              have es : (s : Int) + (u : Int) = (su : Int) := by omega
              go_wp2_with fail
              clear h0 h1 h2 h3 h4 h5 h6 xh HO
              go_loopw [32] (fun i wr => ∃ k : Nat, k ≤ su ∧ i = .int .i64 k ∧ Xb wr w2.heap.size w2.heap.size ⟨(List.range y).map fK, (List.range t).map fJ, (List.range l).map fL, (List.range (min k s)).map fS, (List.range (k - s)).map fU⟩ ∧ (∀ j, j < k → (b.getD (SD + j) 0).toNat ≤ 1) ∧ Up w2 wr) (fun i _ => su - (intOf i).toNat)
              case atStart => exact ⟨0, Nat.zero_le _, rfl, by rw [Nat.zero_min, Nat.zero_sub]; exact XR.out, fun j hj => absurd hj (Nat.not_lt_zero j), HU.out⟩
              case round =>
                clear HU XR HW UV
                obtain ⟨k, hk, rfl, hx9, hall, hu⟩ := hrel
                have HA := Lib.hid hall
                clear hall
                have HO := Lib.hid hx9
                have HU := Lib.hid hu
                have XR := Lib.hid hx9
                have HW := Lib.hid (HB2.out.up hu)
                clear hu hx9
                have UV := Lib.hid (U2.out.trans HU.out)
                by_cases hlt : k < su
                · skip
                  obtain ⟨sk, esk⟩ : ∃ x, SD + k = x := ⟨_, rfl⟩
                  have em : (SD : Int) + (k : Int) = (sk : Int) := by omega
                  have KP := KK.out
                  have bd1 : sk < n := by omega
                  obtain ⟨bb, oo, eA, cbs⟩ := BC.out (by omega)
                  subst eA
                  have CBS := Lib.hid cbs
                  clear cbs
                  have Kmb : Hid (∀ w9, Up w w9 → w9.cell? ⟨bb, oo + sk, none⟩ = some (.int .u8 (b.getD sk 0).toNat)) := CBS.out sk (by omega)
                  obtain ⟨mb, emb⟩ : ∃ v, Hid ((b.getD sk 0).toNat = v) := ⟨_, rfl⟩
                  have lmb : mb < 256 := by rw [← emb.out]; exact (b.getD sk 0).toNat_lt
                  rw [emb.out] at Kmb
                  have imb : (sk : Int) < (n : Int) := by omega
                  have jmb : (0 : Int) ≤ (sk : Int) := by omega
                  have wmb : IntKind.i64.wrap (sk : Int) = (sk : Int) := IntWalk.i64_in _ (by omega)
                  have vmb : IntKind.i64.wrap (mb : Int) = (mb : Int) := IntWalk.i64_in _ (by omega)
                  obtain ⟨h0, h1, h2, h3, h4, h5, h6⟩ := HW.out
                  have xh := cell_lt h0
                  have cmb := Kmb.out wr UV.out
                  have xmb := cell_lt cmb
                  have i1 : (k : Int) < (su : Int) := by omega
                  by_cases g1 : 1 < mb
                  · skip
                    have hf : Hid (¬ (ok = true ∧ rightB blk 4 ver = true)) := fun h => by
                      have := (OK.out.1 h.1).2 k (by omega); rw [esk, emb.out] at this; omega
                    obtain ⟨g0, g1, g2, g3, g4⟩ := RB2.out.up HU.out
                    obtain ⟨gl, fz⟩ := RF2.out.up HU.out
                    have z0 := fz 0; have z1 := fz 1; have z2 := fz 2; have z3 := fz 3; have z4 := fz 4
                    clear fz
                    clear KP
                    go_wp2_with fail
                    exact bodyPost_ret (v := .tuple #[bz, .int .i64 4]) (by simp [results, Tryz.results41, go_sem, g0, g1, g2, g3, g4]) rfl (DN.out _ _ hf.out ⟨_, rfl, bz_read _, Up.five (b := w.heap.size + 1) UV.out (Nat.le_succ _) _ _ _ _ _, bz_new _⟩)
                  have HA2 : Hid (∀ j, j < k + 1 → (b.getD (SD + j) 0).toNat ≤ 1) := fun j hj => by
                    rcases Nat.lt_or_ge j k with g | g
                    · exact HA.out j g
                    · have : j = k := by omega
                      rw [this, esk, emb.out]; omega
                  have d1 : Hid (decide (b.getD sk 0 = 1) = ((mb : Int) == 1)) := by
                    unfold Hid; rw [← emb.out, Bool.eq_iff_iff, decide_eq_true_iff, beq_iff_eq]
                    constructor
                    · intro h; rw [h]; rfl
                    · intro h; exact UInt8.toNat_inj.1 (show (b.getD sk 0).toNat = 1 by omega)
                  obtain ⟨dd, edd⟩ : ∃ v, ((mb : Int) == 1) = v := ⟨_, rfl⟩
                  by_cases hs : k < s
                  · have FS : Hid (fS k = dd) := by unfold Hid; rw [PS.out k hs, esk, d1.out, edd]
                    have is : (k : Int) < (s : Int) := by omega
                    rw [Nat.min_eq_left (by omega), Nat.sub_eq_zero_of_le (by omega)] at XR
                    have m1 : min (k + 1) s = k + 1 := by omega
                    have m2 : k + 1 - s = 0 := by omega
                    have HM := Lib.hid (And.intro m1 m2)
                    clear KP esk d1 m1 m2
                    go_wp2_with fail
                    clear h0 h1 h2 h3 h4 h5 h6 xh cmb xmb
                    obtain ⟨va, vb, vc, vd, ve, hx⟩ := XR.out
                    obtain ⟨A0, c0, A1, c1, A2, c2, A3, c3, A4, c4, e0, e1, e2, e3, e4⟩ := hx.form
                    simp only [rng_len, List.length_nil] at e0 e1 e2 e3 e4
                    subst e0 e1 e2 e3 e4
                    obtain ⟨x0, x1, x2, x3, x4⟩ := (bx_heap hx.1).1
                    have xl := cell_lt x0
                    have HXX := Lib.hid ((hx.up (Up.drewN wr 1)).up (Up.alloc wr.drew (.cells #[.bool dd] 4)))
                    have OW : Hid ((wr.drew.alloc (.cells #[.bool dd] 4)).ownsRow w2.heap.size 4 1 (.slice A3 k c3) ((List.range k).map fS).length (oc ((List.range k).map fS))) := HXX.out.2.2.2.2.1
                    have SZ : Hid (w2.heap.size ≤ (wr.drew.alloc (.cells #[.bool dd] 4)).heap.size) := ((HU.out.drewN' 1).alloc' _).size
                    have LN : Hid (((List.range k).map fS).length + ([dd] : List Bool).length ≤ 1000000) := by unfold Hid; rw [rng_len]; simp; omega
                    have HR := Lib.hid (rc_new wr.drew #[.bool dd] 4)
                    clear hx
                    have cmb := Kmb.out wr UV.out
                    have dmb := cell_lt cmb
                    go_region_law (refine step_append_bol _ (by rfl) _ _ (by rfl) w2.heap.size _ ((List.range k).map fS) (by rfl) OW.out (some ⟨wr.drew.heap.size, 0, none⟩) [dd] 1 1 (by rfl) rfl HR.out LN.out SZ.out ?_; intro v6 w6 ho6 hg6 hn6; replace ho6 : w6.ownsRow w2.heap.size 4 1 v6 ((List.range k).map fS ++ [dd]).length (oc ((List.range k).map fS ++ [dd])) := (by simpa using ho6); have X7 := Lib.hid (Xv.app3 (m := [dd]) HXX.out ho6 hg6 (by simpa using hn6)); have HX6 := Lib.hid (heap_grown hg6 HXX.out.1 (row_ty OW.out HXX.out.1 (by decide))); have U6 := Lib.hid (Up.grown ((HU.out.drewN' 1).alloc' (.cells #[.bool dd] 4)) hg6 (fun j hj => (World.ownsRow.lt OW.out j hj).1)); obtain ⟨P', cp, hv6⟩ := row_form ho6; rw [List.length_append, rng_len] at hv6; replace hv6 : v6 = .slice P' (k + 1) cp := hv6; subst hv6; have U7 := Lib.hid (U6.out.setCell' (p := ⟨w2.heap.size, 3, none⟩) (Nat.le_refl _) (.slice P' (k + 1) cp)); obtain ⟨y0, y1, y2, y3, y4⟩ := (bx_heap HX6.out).1; have fz := (bx_heap HX6.out).2.2 3; have yl := cell_lt y0; clear ho6 hg6 hn6)
                    all_goals
                      go_wp2_with fail
                      go_roundw
                      case rel => exact ⟨k + 1, by omega, by go_num, by rw [HM.out.1, HM.out.2, rng_succ, FS.out]; exact ⟨_, _, _, _, _, X7.out⟩, HA2.out, U7.out⟩
                      case measure => simp [intOf]; omega
                  · obtain ⟨q, eq⟩ : ∃ q, k = s + q := ⟨k - s, by omega⟩
                    have FU : Hid (fU q = dd) := by unfold Hid; rw [PU.out q (by omega), show UT' + q = sk by omega, d1.out, edd]
                    have is : ¬ (k : Int) < (s : Int) := by omega
                    obtain ⟨uk, euk⟩ : ∃ x, UT' + k = x := ⟨_, rfl⟩
                    have eu1 : (UT' : Int) + (k : Int) = (uk : Int) := by omega
                    have eu2 : (uk : Int) - (s : Int) = (sk : Int) := by omega
                    have wuk : IntKind.i64.wrap (uk : Int) = (uk : Int) := IntWalk.i64_in _ (by omega)
                    rw [Nat.min_eq_right (by omega), show k - s = q by omega] at XR
                    have m1 : min (k + 1) s = s := by omega
                    have m2 : k + 1 - s = q + 1 := by omega
                    have HM := Lib.hid (And.intro m1 m2)
                    have bq : q ≤ 256 := by omega
                    clear KP esk d1 m1 m2 euk eq
                    go_wp2_with fail
                    clear h1 h3 h4 h5 h6 cmb xmb
                    obtain ⟨va, vb, vc, vd, ve, hx⟩ := XR.out
                    obtain ⟨A0, c0, A1, c1, A2, c2, A3, c3, A4, c4, e0, e1, e2, e3, e4⟩ := hx.form
                    simp only [rng_len, List.length_nil] at e0 e1 e2 e3 e4
                    subst e0 e1 e2 e3 e4
                    obtain ⟨x0, x1, x2, x3, x4⟩ := (bx_heap hx.1).1
                    have xl := cell_lt x0
                    have HXX := Lib.hid ((hx.up (Up.drewN wr 1)).up (Up.alloc wr.drew (.cells #[.bool dd] 4)))
                    have OW : Hid ((wr.drew.alloc (.cells #[.bool dd] 4)).ownsRow w2.heap.size 4 1 (.slice A4 q c4) ((List.range q).map fU).length (oc ((List.range q).map fU))) := HXX.out.2.2.2.2.2.1
                    have SZ : Hid (w2.heap.size ≤ (wr.drew.alloc (.cells #[.bool dd] 4)).heap.size) := ((HU.out.drewN' 1).alloc' _).size
                    have LN : Hid (((List.range q).map fU).length + ([dd] : List Bool).length ≤ 1000000) := by unfold Hid; rw [rng_len]; simp; omega
                    have HR := Lib.hid (rc_new wr.drew #[.bool dd] 4)
                    clear hx
                    have cmb := Kmb.out wr UV.out
                    have dmb := cell_lt cmb
                    go_region_law (refine step_append_bol _ (by rfl) _ _ (by rfl) w2.heap.size _ ((List.range q).map fU) (by rfl) OW.out (some ⟨wr.drew.heap.size, 0, none⟩) [dd] 1 1 (by rfl) rfl HR.out LN.out SZ.out ?_; intro v6 w6 ho6 hg6 hn6; replace ho6 : w6.ownsRow w2.heap.size 4 1 v6 ((List.range q).map fU ++ [dd]).length (oc ((List.range q).map fU ++ [dd])) := (by simpa using ho6); have X7 := Lib.hid (Xv.app4 (m := [dd]) HXX.out ho6 hg6 (by simpa using hn6)); have HX6 := Lib.hid (heap_grown hg6 HXX.out.1 (row_ty OW.out HXX.out.1 (by decide))); have U6 := Lib.hid (Up.grown ((HU.out.drewN' 1).alloc' (.cells #[.bool dd] 4)) hg6 (fun j hj => (World.ownsRow.lt OW.out j hj).1)); obtain ⟨P', cp, hv6⟩ := row_form ho6; rw [List.length_append, rng_len] at hv6; replace hv6 : v6 = .slice P' (q + 1) cp := hv6; subst hv6; have U7 := Lib.hid (U6.out.setCell' (p := ⟨w2.heap.size, 4, none⟩) (Nat.le_refl _) (.slice P' (q + 1) cp)); obtain ⟨y0, y1, y2, y3, y4⟩ := (bx_heap HX6.out).1; have fz := (bx_heap HX6.out).2.2 4; have yl := cell_lt y0; clear ho6 hg6 hn6)
                    all_goals
                      go_wp2_with fail
                      go_roundw
                      case rel => exact ⟨k + 1, by omega, by go_num, by rw [HM.out.1, HM.out.2, rng_succ, FU.out]; exact ⟨_, _, _, _, _, X7.out⟩, HA2.out, U7.out⟩
                      case measure => simp [intOf]; omega
                · have hkt : su = k := by omega
                  subst hkt
                  have MA : Hid (∀ i, i < s + u → (b.getD (SD + i) 0).toNat ≤ 1) := fun i hi => HA.out i (by omega)
                  have okt : Hid (ok = true) := OK.out.2 ⟨GA.out, MA.out⟩
                  rw [Nat.min_eq_right (by omega), show su - s = u by omega] at XR
                  have HX2 : Hid (blk = ⟨(List.range y).map fK, (List.range t).map fJ, (List.range l).map fL, (List.range s).map fS, (List.range u).map fU⟩) := HX.out
                  rw [← HX2.out] at XR
                  obtain ⟨va, vb, vc, vd, ve, hx⟩ := XR.out
                  obtain ⟨A0, c0, A1, c1, A2, c2, A3, c3, A4, c4, e0, e1, e2, e3, e4⟩ := hx.form
                  subst e0 e1 e2 e3 e4
                  have XX := Lib.hid hx
                  have DR := Lib.hid (dright_any _ blk 4 ver wr hx.rd)
                  obtain ⟨rr, err⟩ : ∃ v, rightB blk 4 ver = v := ⟨_, rfl⟩
                  rw [err] at DR
                  have ER := Lib.hid err
                  obtain ⟨x0, x1, x2, x3, x4⟩ := (bx_heap hx.1).1
                  have xl := cell_lt x0
                  obtain ⟨h0, h1, h2, h3, h4, h5, h6⟩ := HW.out
                  have xh := cell_lt h0
                  clear hx HA HO HX2 err
                  generalize blk.ks.length = n0 at *
                  generalize blk.js.length = n1 at *
                  generalize blk.ls.length = n2 at *
                  generalize blk.sd.length = n3 at *
                  generalize blk.ut.length = n4 at *
                  go_wp2_with fail
                  refine DR.out.mono ?_; rintro e w9 ⟨rfl, u9⟩
                  have UW := Lib.hid (UV.out.trans u9)
                  have UH := Lib.hid (HU.out.trans u9)
                  replace XX := Lib.hid (XX.out.up u9)
                  clear x0 x1 x2 x3 x4 xl h0 h1 h2 h3 h4 h5 h6 xh u9 DR
                  obtain ⟨g0, g1, g2, g3, g4⟩ := RB2.out.up UH.out
                  obtain ⟨gl, fz⟩ := RF2.out.up UH.out
                  have z0 := fz 0; have z1 := fz 1; have z2 := fz 2; have z3 := fz 3; have z4 := fz 4
                  clear fz
                  cases rr
                  · have hf : Hid (¬ (ok = true ∧ rightB blk 4 ver = true)) := fun h => by rw [ER.out] at h; cases h.2
                    go_wp2_with fail
                    exact bodyPost_ret (v := .tuple #[bz, .int .i64 4]) (by simp [results, Tryz.results41, go_sem, g0, g1, g2, g3, g4]) rfl (DN.out _ _ hf.out ⟨_, rfl, bz_read _, Up.five (b := w.heap.size + 1) UW.out (Nat.le_succ _) _ _ _ _ _, bz_new _⟩)
                  · obtain ⟨x0, x1, x2, x3, x4⟩ := (bx_heap XX.out.1).1
                    have xl := cell_lt x0
                    have ne : ∀ {e : TypeId} {sz : Nat} {v : Value} {m : Nat} {xs : List Value}, w9.ownsRow w2.heap.size e sz v m xs → v.ownBlock ≠ some (w.heap.size + 1) := fun h hk => by have := (World.ownsRow.lt h _ hk).1; have := RF2.out.1; omega
                    have BF := Lib.hid (fun (p0 p1 p2 p3 p4 : Value) => (show BkR (five w9 (w.heap.size + 1) p0 p1 p2 p3 p4) _ blk from ⟨_, _, _, _, _, rfl, row_sl (row_five XX.out.2.1 (ne XX.out.2.1) p0 p1 p2 p3 p4), row_sl (row_five XX.out.2.2.1 (ne XX.out.2.2.1) p0 p1 p2 p3 p4), row_sl (row_five XX.out.2.2.2.1 (ne XX.out.2.2.2.1) p0 p1 p2 p3 p4), row_sl (row_five XX.out.2.2.2.2.1 (ne XX.out.2.2.2.2.1) p0 p1 p2 p3 p4), row_sl (row_five XX.out.2.2.2.2.2.1 (ne XX.out.2.2.2.2.2.1) p0 p1 p2 p3 p4)⟩))
                    have NF := Lib.hid (show BkF w (.agg #[.slice A0 n0 c0, .slice A1 n1 c1, .slice A2 n2 c2, .slice A3 n3 c3, .slice A4 n4 c4]) from ⟨_, _, _, _, _, rfl, fun k hk => (by have := (World.ownsRow.lt XX.out.2.1 k hk).1; have := RF2.out.1; omega), fun k hk => (by have := (World.ownsRow.lt XX.out.2.2.1 k hk).1; have := RF2.out.1; omega), fun k hk => (by have := (World.ownsRow.lt XX.out.2.2.2.1 k hk).1; have := RF2.out.1; omega), fun k hk => (by have := (World.ownsRow.lt XX.out.2.2.2.2.1 k hk).1; have := RF2.out.1; omega), fun k hk => (by have := (World.ownsRow.lt XX.out.2.2.2.2.2.1 k hk).1; have := RF2.out.1; omega)⟩)
                    clear ne
                    go_wp2_with fail
                    exact bodyPost_ret (v := .tuple #[.agg #[.slice A0 n0 c0, .slice A1 n1 c1, .slice A2 n2 c2, .slice A3 n3 c3, .slice A4 n4 c4], .int .i64 0]) (by simp [results, Tryz.results41, go_sem, g0, g1, g2, g3, g4]) rfl (DY.out _ _ okt.out ER.out ⟨_, rfl, BF.out _ _ _ _ _, Up.five (b := w.heap.size + 1) UW.out (Nat.le_succ _) _ _ _ _ _, NF.out⟩)
end Go.Proofs.YtaljddoenjgbfaaGreat.dc4
