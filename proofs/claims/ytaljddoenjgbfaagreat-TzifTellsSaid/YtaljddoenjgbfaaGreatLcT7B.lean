/-
  The document's file: part, Encode.
-/
import Derived.Test.YtaljddoenjgbfaaGreatLcTzT
import Derived.Test.YtaljddoenjgbfaaGreatLcTzX
import Derived.Test.YtaljddoenjgbfaaGreatLcRf4
import Derived.Test.YtaljddoenjgbfaaGreatLcHdrG
namespace Go.Proofs.YtaljddoenjgbfaaGreat
open Go.ChangeShapes Go.WideShapes Go.ChangeAt Go.RowKit Lc

set_option maxRecDepth 100000 in
theorem denc_right (v : Value) (x : Blk) (z : Nat) (ver : Int) (w : World) (hv' : BkR w v x) (hr : rightB x z ver = true) :
    Calls Tryz.prog 36 #[v, .int .i64 z, .int .i64 ver] w fun e w' => ∃ v', e = .returned (.tuple #[v', hv ver x.ut.length x.sd.length x.ls.length x.js.length x.ks.length (nmB x).length]) ∧ Ow w' w.heap.size v' (encL x z) ∧ Up w w' := by
  obtain ⟨hz, hk, hm, hj, hl⟩ := right_parts hr
  have a := rk_parts hk
  have b := rm_parts hm
  have c := rj_parts hj
  have d := rl_parts hl
  refine dencode_any v x z ver w hv' (by omega) a.2.1 (fun i hi => ?_) c d (by omega) (by omega)
  have := a.2.2.1 i hi
  unfold rkOne at this
  simp only [Bool.and_eq_true, decide_eq_true_eq] at this
  omega
set_option maxRecDepth 100000 in
set_option maxHeartbeats 2000000 in
theorem dpart_yes (v : Value) (x : Blk) (z : Nat) (ver : Int) (w : World) (hb : BkR w v x) (h1 : 1 ≤ ver) (h4 : ver ≤ 4) (hr : rightB x z ver = true) :
    Calls Tryz.prog 21 #[v, .int .i64 z, .int .i64 ver] w fun e w' => ∃ v', e = .returned v' ∧ Ow w' w.heap.size v' (partB x z ver) ∧ Up w w' := by
  obtain ⟨A0, n0, c0, A1, n1, c1, A2, n2, c2, A3, n3, c3, A4, n4, c4, rfl⟩ := hb.form
  have UA := Lib.hid (Up.alloc w (.cells #[.slice A0 n0 c0, .slice A1 n1 c1, .slice A2 n2 c2, .slice A3 n3 c3, .slice A4 n4 c4] 37))
  have B := Lib.hid (denc_right _ x z ver _ (hb.up UA.out) hr)
  have H := Lib.hid (fun w => refEncode_yes ver x.ut.length x.sd.length x.ls.length x.js.length x.ks.length (nmB x).length w (hd_right hr h1 h4))
  have HL := Lib.hid (encL_bd hr)
  have KL := Lib.hid (encB_len ver x.ut.length x.sd.length x.ls.length x.js.length x.ks.length (nmB x).length)
  unfold partB
  generalize encB ver x.ut.length x.sd.length x.ls.length x.js.length x.ks.length (nmB x).length = L1 at *
  generalize encL x z = L2 at *
  generalize (x.ut.length : Int) = k0 at *
  generalize (x.sd.length : Int) = k1 at *
  generalize (x.ls.length : Int) = k2 at *
  generalize (x.js.length : Int) = k3 at *
  generalize (x.ks.length : Int) = k4 at *
  generalize ((nmB x).length : Int) = k5 at *
  unfold hv at B H
  clear hb hr h1 h4
  go_enter Tryz.func21, Tryz.ntmps21
  go_wp2_with fail
  refine B.out.mono ?_; rintro e w1 ⟨v1, rfl, o1, u1⟩
  obtain ⟨P1, d1, rfl, i1, j1, r1, _⟩ := o1.form
  have U1 := Lib.hid (UA.out.trans u1)
  have R1 := Lib.hid r1
  clear o1 u1 r1 B
  go_wp2_with fail
  have UM := Lib.hid (Up.alloc w1 (.cells #[.int .i64 ver, .int .i64 k0, .int .i64 k1, .int .i64 k2, .int .i64 k3, .int .i64 k4, .int .i64 k5] 60))
  refine (H.out _).mono ?_; rintro e w2 ⟨v2, rfl, o2, u2⟩
  obtain ⟨P2, d2, rfl, i2, j2, r2, _⟩ := o2.form
  have O2 := Lib.hid (o2.base (base' := w.heap.size) (U1.out.trans UM.out).size)
  have U2 := Lib.hid ((U1.out.trans UM.out).trans u2)
  have R2 := Lib.hid ((R1.out.up UM.out).up u2)
  clear o2 u2 r2 H UM R1
  go_wp2_with (at_builtin; refine wpList_append_bytes _ rfl _ _ rfl w.heap.size _ _ rfl O2.out P1 L2 _ d1 rfl rfl R2.out ?e1 U2.out.size ?_)
  case e1 => rw [KL.out]; have := HL.out; omega
  intro v6 w6 o6 g6 _
  have U6 := Lib.hid (U2.out.grown g6 O2.out.block)
  go_wp2_with fail
  go_ret
  exact ⟨_, rfl, o6, U6.out⟩
set_option maxRecDepth 100000 in
set_option maxHeartbeats 4000000 in
theorem dencode7_yes (v : Value) (f : Fil) (w : World) (hs : FlR w v f) (hr : rightF f = true) (hl : (encF f).length ≤ 100000) :
    Calls Tryz.prog 12 #[v] w fun e w' => ∃ v', e = .returned (.tuple #[v', .bool true]) ∧ Ow w' w.heap.size v' (encF f) ∧ Up w w' := by
  obtain ⟨A0, n0, c0, A1, n1, c1, A2, n2, c2, A3, n3, c3, A4, n4, c4, rfl, hb⟩ := hs.form
  obtain ⟨ver, x, ft⟩ := f
  simp only at hb ⊢
  obtain ⟨h1, h4, hk, hf⟩ := rightF_parts hr
  simp only at h1 h4 hk hf
  have UA := Lib.hid (Up.alloc w (.cells #[.int .i64 ver, .slice A0 n0 c0, .slice A1 n1 c1, .slice A2 n2 c2, .slice A3 n3 c3, .slice A4 n4 c4, .string ft] 39))
  have X0 := Lib.hid (Bx7.new w (.int .i64 ver) (.slice A0 n0 c0) (.slice A1 n1 c1) (.slice A2 n2 c2) (.slice A3 n3 c3) (.slice A4 n4 c4) (.string ft) 39)
  by_cases hv : ver = 1
  · subst hv
    have PB := Lib.hid (fun W (u : Up w W) => dpart_yes _ x 4 1 W (hb.up u) (by omega) (by omega) hk)
    have EE : encF ⟨1, x, ft⟩ = partB x 4 1 := by unfold encF; rw [if_pos rfl]
    rw [EE] at hl ⊢
    generalize partB x 4 1 = P at *
    clear hs hr hk hf EE hb
    go_enter Tryz.func12, Tryz.ntmps12
    go_wp2_with fail
    have UB := Lib.hid (UA.out.alloc' (.cells #[] 5))
    refine (PB.out _ UB.out).mono ?_; rintro e w1 ⟨v1, rfl, o1, u1⟩
    obtain ⟨P1, d1, rfl, i1, j1, r1, _⟩ := o1.form
    have U1 := Lib.hid (UB.out.trans u1)
    have O1 := Lib.hid (o1.base (base' := w.heap.size) UB.out.size)
    clear o1 u1 r1 PB
    have hl' : ¬ (100000 : Int) < (P.length : Int) := by omega
    go_wp2_with fail
    go_ret2
    exact ⟨_, rfl, O1.out, U1.out⟩
  · have hk' : rightB x ((8 : Nat) : Int) ver = true := by rw [show mzN ver = 8 by unfold mzN; rw [if_neg hv]] at hk; exact hk
    have PS := Lib.hid (fun W v (q : BkR W v shB) => dpart_yes v shB 4 ver W q h1 h4 shB_right)
    have PB := Lib.hid (fun W (u : Up w W) => dpart_yes _ x 8 ver W (hb.up u) h1 h4 hk')
    have LB := Lib.hid (encL_bd hk')
    have EE : encF ⟨ver, x, ft⟩ = (partB shB 4 ver ++ partB x 8 ver) ++ (10 :: (tx ft ++ [10])) := by unfold encF; rw [if_neg hv]
    rw [EE] at hl ⊢
    have HF : Hid (ft.size ≤ 100000) := by
      unfold Hid; simp only [List.length_append, List.length_cons, tx_len] at hl; omega
    obtain ⟨QF, hQF⟩ : ∃ Q, (partB shB 4 ver ++ partB x 8 ver) ++ (10 :: (tx ft ++ [10])) = Q := ⟨_, rfl⟩
    rw [hQF] at hl ⊢
    have HQF := Lib.hid hQF
    clear hQF EE
    clear hs hr hk hf hb
    go_enter Tryz.func12, Tryz.ntmps12
    go_wp2_with fail
    have UB := Lib.hid ((UA.out.alloc' (.cells #[] 5)).alloc' (.cells #[.int .i64 0, .bool false, .string ⟨#[]⟩] 51))
    have XB := Lib.hid (X0.out.up ((Up.alloc _ (.cells #[] 5)).alloc' (.cells #[.int .i64 0, .bool false, .string ⟨#[]⟩] 51)))
    have SB := one_made ((w.alloc (.cells #[.int .i64 ver, .slice A0 n0 c0, .slice A1 n1 c1, .slice A2 n2 c2, .slice A3 n3 c3, .slice A4 n4 c4, .string ft] 39)).alloc (.cells #[] 5)) ⟨0, false, ⟨#[]⟩⟩ 51
    rw [World.size_alloc, World.size_alloc] at SB
    generalize ((w.alloc (.cells #[.int .i64 ver, .slice A0 n0 c0, .slice A1 n1 c1, .slice A2 n2 c2, .slice A3 n3 c3, .slice A4 n4 c4, .string ft] 39)).alloc (.cells #[] 5)).alloc (.cells #[.int .i64 0, .bool false, .string ⟨#[]⟩] 51) = W at *
    refine (PS.out _ _ SB).mono ?_; rintro e w1 ⟨v1, rfl, o1, u1⟩
    obtain ⟨P1, d1, rfl, i1, j1, r1, _⟩ := o1.form
    have U1 := Lib.hid u1
    have O1 := Lib.hid o1
    have L1 : Hid ((partB shB 4 ver).length = 51) := by unfold Hid; rw [part_len, show (encL shB 4).length = 7 by rw [encL_len, show (nmB shB).length = 1 by decide]; simp [shB]]
    generalize partB shB 4 ver = Q1 at *
    have L2 : Hid ((partB x 8 ver).length ≤ 200044) := partB_bd hk'
    generalize partB x 8 ver = Q2 at *
    clear r1 PS SB UA X0 o1 u1
    obtain ⟨x0, x1, x2, x3, x4, x5, x6⟩ := XB.out.up U1.out
    go_wp2_with fail
    refine (PB.out _ (UB.out.trans U1.out)).mono ?_; rintro e w2 ⟨v2, rfl, o2, u2⟩
    obtain ⟨P2, d2, rfl, i2, j2, r2, _⟩ := o2.form
    have O2 := Lib.hid (O1.out.up u2)
    have U2 := Lib.hid (U1.out.trans u2)
    have R2 := Lib.hid r2
    clear o2 u2 r2 O1 U1 x0 x1 x2 x3 x4 x5 x6 PB
    obtain ⟨x0, x1, x2, x3, x4, x5, x6⟩ := XB.out.up U2.out
    go_wp2_with (at_builtin; refine wpList_append_bytes _ rfl _ _ rfl W.heap.size _ Q1 rfl O2.out P2 Q2 _ d2 rfl rfl R2.out ?e1 U2.out.size ?_)
    case e1 => have := L1.out; have := L2.out; omega
    intro v3 w3 o3 g3 _
    have U3 := Lib.hid (U2.out.grown g3 O2.out.block)
    have L3 : Hid ((Q1 ++ Q2).length ≤ 200095) := by unfold Hid; rw [List.length_append]; have := L1.out; have := L2.out; omega
    obtain ⟨P3, d3, rfl, _⟩ := o3.form
    have O3 := Lib.hid o3
    generalize Q1 ++ Q2 = Q3 at *
    clear o3 g3 O2 U2 R2 L1 L2 x0 x1 x2 x3 x4 x5 x6
    go_wp2_with (at_builtin; refine wpList_append_bytes _ rfl _ _ rfl W.heap.size _ Q3 rfl (O3.out.up (Up.alloc _ _)) _ [10] 1 1 rfl rfl (Rd.new w3 [10] #[.int .u8 10] 5 rfl) ?e2 (by have := U3.out.size; simp; omega) ?_)
    case e2 => have := L3.out; simp only [List.length_cons, List.length_nil]; omega
    intro v4 w4 o4 g4 _
    have U4 := Lib.hid ((U3.out.alloc' _).grown g4 O3.out.block)
    obtain ⟨P4, d4, rfl, _⟩ := o4.form
    have O4 := Lib.hid o4
    have L4 : Hid ((Q3 ++ [10]).length ≤ 200096) := by unfold Hid; rw [List.length_append]; have := L3.out; simp; omega
    obtain ⟨Q4, hQ4⟩ : ∃ Q, Q3 ++ [10] = Q := ⟨_, rfl⟩
    rw [hQ4] at O4 L4 ⊢
    have HQ4 := Lib.hid hQ4
    clear o4 g4 O3 U3 L3 hQ4
    obtain ⟨x0, x1, x2, x3, x4, x5, x6⟩ := XB.out.up U4.out
    go_wp2_with (at_builtin; refine wpList_append_str _ rfl _ _ rfl W.heap.size _ Q4 rfl O4.out ft rfl ?e3 U4.out.size ?_)
    case e3 => have := L4.out; have := HF.out; omega
    intro v5 w5 o5 g5
    have U5 := Lib.hid (U4.out.grown g5 O4.out.block)
    obtain ⟨P5, d5, rfl, _⟩ := o5.form
    have O5 := Lib.hid o5
    have L5 : Hid ((Q4 ++ tx ft).length ≤ 300096) := by unfold Hid; rw [List.length_append, tx_len]; have := L4.out; have := HF.out; omega
    obtain ⟨Q5, hQ5⟩ : ∃ Q, Q4 ++ tx ft = Q := ⟨_, rfl⟩
    rw [hQ5] at O5 L5 ⊢
    have HQ5 := Lib.hid hQ5
    clear o5 g5 O4 U4 L4 hQ5 x0 x1 x2 x3 x4 x5 x6
    go_wp2_with (at_builtin; refine wpList_append_bytes _ rfl _ _ rfl W.heap.size _ Q5 rfl (O5.out.up (Up.alloc _ _)) _ [10] 1 1 rfl rfl (Rd.new w5 [10] #[.int .u8 10] 5 rfl) ?e4 (by have := U5.out.size; simp; omega) ?_)
    case e4 => have := L5.out; simp only [List.length_cons, List.length_nil]; omega
    intro v6 w6 o6 g6 _
    have U6 := Lib.hid ((U5.out.alloc' _).grown g6 O5.out.block)
    have EE2 : Q5 ++ [10] = QF := by rw [← HQ5.out, ← HQ4.out, ← HQF.out]; simp
    rw [EE2] at o6
    obtain ⟨P6, d6, rfl, _⟩ := o6.form
    have O6 := Lib.hid (o6.base (base' := w.heap.size) UB.out.size)
    have hl' : ¬ (100000 : Int) < (QF.length : Int) := by omega
    clear o6 g6 O5 L5 HQ4 HQ5 EE2 HQF
    go_wp2_with fail
    go_ret2
    exact ⟨_, rfl, O6.out, UB.out.trans U6.out⟩
end Go.Proofs.YtaljddoenjgbfaaGreat
