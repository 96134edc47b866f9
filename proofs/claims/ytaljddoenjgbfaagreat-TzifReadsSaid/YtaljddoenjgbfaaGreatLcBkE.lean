/-
  The program's block: Encode.
-/
import Derived.Test.YtaljddoenjgbfaaGreatLcMf
import Derived.Test.YtaljddoenjgbfaaGreatLcMe
import Derived.Test.YtaljddoenjgbfaaGreatLcMh
import Derived.Laws.MakeOwn
namespace Go.Proofs.YtaljddoenjgbfaaGreat
open Go.ChangeShapes Go.WideShapes Go.ChangeAt Go.RowKit Lc

set_option maxRecDepth 100000 in
theorem make_bytes (w : World) (n : Int) (h0 : 0 ≤ n) (hn : n ≤ 1000000) : (Instr.makeSlice 32 (.int .i64 0) (.int .i64 n)).run Tryz.prog w = .ok (.slice (some ⟨w.heap.size, 0, none⟩) 0 n.toNat) (w.alloc (.cells (madeCells #[.int .u8 0] n.toNat) 5)) := by
  obtain ⟨i0, hi, hz0, hz1, hz2⟩ := info_parts byteInfo
  have h := run_make (P := Tryz.prog) w 32 5 i0 (.int .u8 0) Tryz.underlying32 hi hz0 .i64 .i64 0 n (by omega) h0 (by rw [hz2]; omega) (by omega)
  rw [hz1, Nat.mul_one] at h
  exact h
set_option maxRecDepth 100000 in
theorem Ow.made (w : World) (n : Nat) (hn : n ≤ 1000000) : Ow (w.alloc (.cells (madeCells #[.int .u8 0] n) 5)) w.heap.size (.slice (some ⟨w.heap.size, 0, none⟩) 0 n) [] :=
  World.ownsRow_made w _ n (Nat.le_refl _) (by unfold maxLen; omega) (by rw [size_madeCells, Nat.mul_one])

set_option maxRecDepth 100000 in
theorem right_parts {x : Blk} {z ver : Int} (h : rightB x z ver = true) : (z = 4 ∨ z = 8) ∧ rkB x.ks = true ∧ rmB x.sd x.ut x.ks.length = true ∧ rjB x.js x.ks.length z = true ∧ rlB x.ls z ver = true := by
  unfold rightB zB at h
  simp only [Bool.and_eq_true, Bool.or_eq_true, decide_eq_true_eq] at h
  exact ⟨h.1.1.1.1, h.1.1.1.2, h.1.1.2, h.1.2, h.2⟩
set_option maxRecDepth 100000 in
theorem rk_parts {ks : List Knd} (h : rkB ks = true) : 1 ≤ ks.length ∧ ks.length ≤ 256 ∧ (∀ i, i < ks.length → rkOne (ks.getD i k0) = true) ∧ (layN (ks.map Knd.name) ks.length).length ≤ 256 := by
  unfold rkB at h
  simp only [Bool.and_eq_true, decide_eq_true_eq] at h
  exact ⟨h.1.1.1, h.1.1.2, allB_true.1 h.1.2, h.2⟩
set_option maxRecDepth 100000 in
theorem rm_parts {sd ut : List Bool} {n : Nat} (h : rmB sd ut n = true) : (sd.length = 0 ∨ sd.length = n) ∧ (ut.length = 0 ∨ ut.length = n) := by
  unfold rmB at h
  simp only [Bool.and_eq_true, Bool.or_eq_true, decide_eq_true_eq] at h
  exact h.1
set_option maxRecDepth 100000 in
theorem rj_parts {js : List Jmp} {n : Nat} {z : Int} (h : rjB js n z = true) : js.length ≤ 5000 := by
  unfold rjB at h
  simp only [Bool.and_eq_true, decide_eq_true_eq] at h
  exact h.1
set_option maxRecDepth 100000 in
theorem rl_parts {ls : List Lep} {z ver : Int} (h : rlB ls z ver = true) : ls.length ≤ 5000 := by
  unfold rlB at h
  simp only [Bool.and_eq_true, decide_eq_true_eq] at h
  exact h.1
set_option maxRecDepth 100000 in
theorem nm_pos {ks : List Knd} (h : 1 ≤ ks.length) : 1 ≤ (layN (ks.map Knd.name) ks.length).length := by
  refine Nat.le_trans ?_ (layN_mono (ks.map Knd.name) (i := 1) h)
  rw [layN_new (by simp), List.length_append, List.length_append, List.length_singleton]; omega
set_option maxRecDepth 100000 in
theorem hd_right {x : Blk} {z ver : Int} (h : rightB x z ver = true) (h1 : 1 ≤ ver) (h4 : ver ≤ 4) : rightH ver x.ut.length x.sd.length x.ls.length x.js.length x.ks.length (nmB x).length = true := by
  obtain ⟨_, hk, hm, hj, hl⟩ := right_parts h
  have a := rk_parts hk
  have b := rm_parts hm
  have c := rj_parts hj
  have d := rl_parts hl
  have e := nm_pos a.1
  rw [rightH_true]
  unfold nmB
  omega

set_option maxRecDepth 100000 in
set_option maxHeartbeats 2000000 in
theorem bencode_no (v : Value) (x : Blk) (z ver : Int) (w : World) (hb : BkR w v x) (hn : (decide (1 ≤ ver) && decide (ver ≤ 4)) = false ∨ rightB x z ver = false) :
    Calls Tryz.prog 43 #[v, .int .i64 z, .int .i64 ver] w fun e w' => e = .returned (.tuple #[.slice none 0 0, hv 0 0 0 0 0 0 0, .int .i64 1]) ∧ Up w w' := by
  have W := fun w => bwithin_any ver 1 4 w
  have R := Lib.hid (fun w1 (u : Up w w1) => bright_any v x z ver w1 (hb.up u))
  obtain ⟨a, b, c, d, e, rfl, _⟩ := hb
  have UU := Lib.hid ((Up.alloc w (.cells #[a, b, c, d, e] 27)).alloc' (.cells #[.int .i64 0, .int .i64 0, .int .i64 0, .int .i64 0, .int .i64 0, .int .i64 0, .int .i64 0] 90))
  have X1 := Lib.hid (Bx5.new w a b c d e 27)
  have X2 := Lib.hid (HBox.new (w.alloc (.cells #[a, b, c, d, e] 27)) 0 0 0 0 0 0 0 90)
  have X3 := Lib.hid (Free.new (w.alloc (.cells #[a, b, c, d, e] 27)) #[.int .i64 0, .int .i64 0, .int .i64 0, .int .i64 0, .int .i64 0, .int .i64 0, .int .i64 0] 90)
  rw [World.size_alloc] at X2 X3
  cases h : (decide (1 ≤ ver) && decide (ver ≤ 4))
  · rw [h] at W
    clear h hn R X1 X2 X3
    go_enter Tryz.func43, Tryz.ntmps43
    go_wp2_with (go_at_call 45; refine (W _).mono ?_; rintro e w' ⟨rfl, rfl⟩)
    refine bodyPost_ret (v := .tuple #[.slice none 0 0, hv 0 0 0 0 0 0 0, .int .i64 1]) (by simp [results, Tryz.results43, go_sem]) rfl ⟨rfl, ?_⟩
    exact UU.out
  · rw [h] at W
    have R := Lib.hid (fun w1 u => R.out w1 u)
    rw [show rightB x z ver = false from hn.resolve_left (by rw [h]; simp)] at R
    clear h hn
    go_enter Tryz.func43, Tryz.ntmps43
    go_wp2_with (go_at_call 45; refine (W _).mono ?_; rintro e w' ⟨rfl, rfl⟩)
    refine (R.out _ UU.out).mono ?_
    rintro e w1 ⟨rfl, u1⟩
    obtain ⟨a0, a1, a2, a3, a4, a5, a6⟩ := X2.out.up u1
    obtain ⟨_, fz⟩ := X3.out.up u1
    have g0 := fz 0; have g1 := fz 1; have g2 := fz 2; have g3 := fz 3; have g4 := fz 4; have g5 := fz 5; have g6 := fz 6
    have UV := Lib.hid (UU.out.trans u1)
    clear fz u1 X1 X2 X3 W R UU
    go_wp2_with fail
    refine bodyPost_ret (v := .tuple #[.slice none 0 0, hv 0 0 0 0 0 0 0, .int .i64 1]) (by simp [results, Tryz.results43, go_sem, a0, a1, a2, a3, a4, a5, a6]) rfl ⟨rfl, ?_⟩
    exact Up.seven UV.out (by omega) _ _ _ _ _ _ _

set_option maxRecDepth 100000 in
theorem Ow.set {w : World} {base : Nat} {v : Value} {l : List UInt8} (h : Ow w base v l) {b : Nat} (hn : ∀ k, v.ownBlock = some k → k ≠ b) (o : Nat) (u : Value) : Ow (w.setCell ⟨b, o, none⟩ u) base v l := by
  have h' : w.ownsRow base 5 1 v l.length (bc l) := h
  refine ⟨h'.1, ?_⟩
  rcases h'.2 with h2 | ⟨g, cap, cur, rfl, hb, hh, rest⟩
  · exact .inl h2
  · exact .inr ⟨g, cap, cur, rfl, hb, by rw [Below.heap_setCell _ _ _ _ (hn g rfl)]; exact hh, rest⟩
set_option maxRecDepth 100000 in
theorem Ow.seven {w : World} {base : Nat} {v : Value} {l : List UInt8} (h : Ow w base v l) {b : Nat} (hn : ∀ k, v.ownBlock = some k → k ≠ b) (v0 v1 v2 v3 v4 v5 v6 : Value) : Ow (seven w b v0 v1 v2 v3 v4 v5 v6) base v l :=
  ((((((h.set hn 0 v0).set hn 1 v1).set hn 2 v2).set hn 3 v3).set hn 4 v4).set hn 5 v5).set hn 6 v6
set_option maxRecDepth 100000 in
set_option maxHeartbeats 4000000 in
theorem bencode_yes (v : Value) (x : Blk) (z : Nat) (ver : Int) (w : World) (hb : BkR w v x) (h1 : 1 ≤ ver) (h4 : ver ≤ 4) (hr : rightB x z ver = true) :
    Calls Tryz.prog 43 #[v, .int .i64 z, .int .i64 ver] w fun e w' => ∃ v', e = .returned (.tuple #[v', hv ver x.ut.length x.sd.length x.ls.length x.js.length x.ks.length (nmB x).length, .int .i64 0]) ∧ Ow w' w.heap.size v' (encL x z) ∧ Up w w' := by
  have W := fun w => bwithin_any ver 1 4 w
  rw [show (decide (1 ≤ ver) && decide (ver ≤ 4)) = true by simp [h1, h4]] at W
  have R := Lib.hid (fun w1 (u : Up w w1) => bright_any v x z ver w1 (hb.up u))
  rw [hr] at R
  have RH := Lib.hid (hd_right hr h1 h4)
  obtain ⟨hz, hk, hm, hj, hl⟩ := right_parts hr
  obtain ⟨p1, p2, p3, p4⟩ := rk_parts hk
  have p5 := rm_parts hm
  have p6 := rj_parts hj
  have p7 := rl_parts hl
  have hz' : z = 4 ∨ z = 8 := by omega
  obtain ⟨_, _, _, _, _, rfl, ⟨A0, c0, rfl, m0, n0, r0⟩, ⟨A1, c1, rfl, m1, n1, r1⟩, ⟨A2, c2, rfl, m2, n2, r2⟩, ⟨A3, c3, rfl, m3, n3, r3⟩, ⟨A4, c4, rfl, m4, n4, r4⟩⟩ := hb
  have HS : ∀ i, i < x.ks.length → (x.ks.getD i k0).name.size ≤ 255 := fun i hi => rkOne_size (p3 i hi)
  have LN := Lib.hid (fun w1 (u : Up w w1) => laynames_any A0 x.ks c0 w1 p2 HS (r0.up u))
  have T1 := Lib.hid (fun w0 w1 (u0 : Up w w0) (u : Up w0 w1) v l ho hl => tjumps_any w0 w1 u v l A1 x.js c1 z hz' ho hl (by omega) (r1.up u0))
  have T2 := Lib.hid (fun w0 w1 (u0 : Up w w0) (u : Up w0 w1) v l B ho hl hp => tkinds_any w0 w1 u v l A0 x.ks c0 B ho hl p2 HS (r0.up u0) hp)
  have T3 := Lib.hid (fun w0 w1 (u0 : Up w w0) (u : Up w0 w1) v l ho hl => tleaps_any w0 w1 u v l A2 x.ls c2 z hz' ho hl (by omega) (r2.up u0))
  have T4 := Lib.hid (fun w0 w1 (u0 : Up w w0) (u : Up w0 w1) v l ho hl => tmarks_any w0 w1 u v l A3 x.sd c3 ho hl (by omega) (r3.up u0))
  have T5 := Lib.hid (fun w0 w1 (u0 : Up w w0) (u : Up w0 w1) v l ho hl => tmarks_any w0 w1 u v l A4 x.ut c4 ho hl (by omega) (r4.up u0))
  have EL := Lib.hid (show encL x z = mtB z x.js ++ mjB x.js ++ tkB (x.ks.map Knd.name) x.ks ++ nmB x ++ tlB z x.ls ++ tmB x.sd ++ tmB x.ut from rfl)
  have K1 := Lib.hid (mtB_len z x.js)
  have K2 := Lib.hid (mjB_len x.js)
  have K3 := Lib.hid (tkB_len (x.ks.map Knd.name) x.ks)
  have K4 := Lib.hid (tlB_len z x.ls)
  have K5 := Lib.hid (tmB_len x.sd)
  have NM := Lib.hid (show layN (x.ks.map Knd.name) x.ks.length = nmB x from rfl)
  rw [NM.out] at LN p4
  have q4 : (nmB x).length ≤ 256 := p4
  have q5 : x.sd.length ≤ 256 ∧ x.ut.length ≤ 256 := by omega
  have BO := Lib.hid (fun w1 => body_any ver x.ut.length x.sd.length x.ls.length x.js.length x.ks.length (nmB x).length z w1 (by omega) (by omega) (by omega) (by omega) (by omega) (by omega) (by omega))
  obtain ⟨bo, hbo⟩ : ∃ bo, bodyI x.ut.length x.sd.length x.ls.length x.js.length x.ks.length (nmB x).length z = bo := ⟨_, rfl⟩
  have bob : 0 ≤ bo ∧ bo ≤ 200000 := by have := bodyI_bd RH.out (z := z) (by omega); rw [hbo] at this; exact this
  rw [hbo] at BO
  obtain ⟨bo0, bo1⟩ := bob
  unfold maxLen at n0 n1 n2 n3 n4
  clear hbo r0 r1 r2 r3 r4 hk hm hj hl p3 HS hr p5 hz
  generalize encL x z = E at *
  generalize nmB x = N at *
  generalize hns : x.ks.map Knd.name = ns at *
  clear hns
  obtain ⟨k0n, hk0⟩ : ∃ k, x.ks.length = k := ⟨_, rfl⟩
  obtain ⟨j0n, hj0⟩ : ∃ k, x.js.length = k := ⟨_, rfl⟩
  obtain ⟨l0n, hl0⟩ : ∃ k, x.ls.length = k := ⟨_, rfl⟩
  obtain ⟨s0n, hs0⟩ : ∃ k, x.sd.length = k := ⟨_, rfl⟩
  obtain ⟨u0n, hu0⟩ : ∃ k, x.ut.length = k := ⟨_, rfl⟩
  simp only [hk0, hj0, hl0, hs0, hu0] at *
  clear hk0 hj0 hl0 hs0 hu0
  obtain ⟨X, hX⟩ : ∃ X : Value, X = .slice A0 k0n c0 := ⟨_, rfl⟩
  have UU := Lib.hid ((Up.alloc w (.cells #[.slice A0 k0n c0, .slice A1 j0n c1, .slice A2 l0n c2, .slice A3 s0n c3, .slice A4 u0n c4] 27)).alloc' (.cells #[.int .i64 0, .int .i64 0, .int .i64 0, .int .i64 0, .int .i64 0, .int .i64 0, .int .i64 0] 90))
  have X1 := Lib.hid ((Bx5.new w (.slice A0 k0n c0) (.slice A1 j0n c1) (.slice A2 l0n c2) (.slice A3 s0n c3) (.slice A4 u0n c4) 27).up (Up.alloc _ (.cells #[.int .i64 0, .int .i64 0, .int .i64 0, .int .i64 0, .int .i64 0, .int .i64 0, .int .i64 0] 90)))
  have X2 := Lib.hid (HBox.new (w.alloc (.cells #[.slice A0 k0n c0, .slice A1 j0n c1, .slice A2 l0n c2, .slice A3 s0n c3, .slice A4 u0n c4] 27)) 0 0 0 0 0 0 0 90)
  have X3 := Lib.hid (Free.new (w.alloc (.cells #[.slice A0 k0n c0, .slice A1 j0n c1, .slice A2 l0n c2, .slice A3 s0n c3, .slice A4 u0n c4] 27)) #[.int .i64 0, .int .i64 0, .int .i64 0, .int .i64 0, .int .i64 0, .int .i64 0, .int .i64 0] 90)
  rw [World.size_alloc] at X2 X3
  clear hX X
  go_enter Tryz.func43, Tryz.ntmps43
  go_wp2_with (go_at_call 45; refine (W _).mono ?_; rintro e w' ⟨rfl, rfl⟩)
  refine (R.out _ UU.out).mono ?_
  rintro e w1 ⟨rfl, u1⟩
  have U1 := Lib.hid (UU.out.trans u1)
  have Y1 := Lib.hid (X1.out.up u1)
  have Y2 := Lib.hid (X2.out.up u1)
  have Y3 := Lib.hid (X3.out.up u1)
  clear u1 X1 X2 X3 W R UU
  obtain ⟨b0, b1, b2, b3, b4⟩ := Y1.out
  go_wp2_with fail
  clear b0 b1 b2 b3 b4
  refine (LN.out _ U1.out).mono ?_
  rintro e w2 ⟨v2, rfl, o2, m2, u2⟩
  obtain ⟨A2', c2', rfl, f1, f2, f3, f4⟩ := o2.form
  have U2 := Lib.hid (U1.out.trans u2)
  have Z1 := Lib.hid (Y1.out.up u2)
  have Z2 := Lib.hid (Y2.out.up u2)
  have Z3 := Lib.hid (Y3.out.up u2)
  have M2 := Lib.hid m2
  have R2 := Lib.hid f3
  clear Y1 Y2 Y3 U1 LN o2 m2 u2 f3 f4
  obtain ⟨b0, b1, b2, b3, b4⟩ := Z1.out
  go_wp2_with fail
  clear b0 b1 b2 b3 b4
  have H3 := Lib.hid (HBox.new w2 ver u0n s0n l0n j0n k0n N.length 90)
  have u3 := Up.alloc w2 (.cells #[.int .i64 ver, .int .i64 u0n, .int .i64 s0n, .int .i64 l0n, .int .i64 j0n, .int .i64 k0n, .int .i64 N.length] 90)
  refine (BO.out _).mono ?_
  rintro e w3 ⟨rfl, u3'⟩
  have u23 := u3.trans u3'
  have U3 := Lib.hid (U2.out.trans u23)
  have Q1 := Lib.hid (Z1.out.up u23)
  have Q2 := Lib.hid (Z2.out.up u23)
  have Q3 := Lib.hid (Z3.out.up u23)
  have Q4 := Lib.hid (H3.out.up u3')
  have M3 := Lib.hid (M2.out.up u23)
  have R3 := Lib.hid (R2.out.up u23)
  clear Z1 Z2 Z3 H3 M2 R2 U2 BO u3 u3' u23
  have mk := make_bytes w3 bo bo0 (by omega)
  have OW := Lib.hid (Ow.made w3 bo.toNat (by omega))
  have uw := Lib.hid (Up.alloc w3 (.cells (madeCells #[.int .u8 0] bo.toNat) 5))
  generalize madeCells #[.int .u8 0] bo.toNat = MC at *
  generalize bo.toNat = bn at *
  obtain ⟨b0, b1, b2, b3, b4⟩ := Q1.out.up uw.out
  have bl0 := cell_lt b0
  go_wp2_with fail
  clear b0 b1 b2 b3 b4 bl0 mk
  refine (T1.out w3 _ U3.out uw.out _ [] OW.out (by simp)).mono ?_
  rintro e w4 ⟨v4, rfl, o4, u4⟩
  rw [List.nil_append] at o4
  have O4 := Lib.hid o4
  have U4 := Lib.hid u4
  clear o4 u4 OW uw
  obtain ⟨b0, b1, b2, b3, b4⟩ := Q1.out.up U4.out
  go_wp2_with fail
  clear b0 b1 b2 b3 b4
  have j8 : j0n * z ≤ 5000 * 8 := Nat.mul_le_mul p6 (by omega)
  have l8 : l0n * (z + 4) ≤ 5000 * 12 := Nat.mul_le_mul p7 (by omega)
  refine (T2.out w3 _ U3.out U4.out _ _ _ O4.out (by rw [List.length_append, K1.out, K2.out]; omega) M3.out).mono ?_
  rintro e w5 ⟨v5, rfl, o5, u5⟩
  have O5 := Lib.hid o5
  have U5 := Lib.hid u5
  have R5 := Lib.hid (R3.out.up u5)
  have sz5 := u5.size
  clear o5 u5 O4 U4 T1 T2 R3 M3
  go_wp2_with (at_builtin; refine wpList_append_bytes _ rfl _ _ rfl w3.heap.size _ _ rfl O5.out A2' N _ c2' rfl rfl R5.out ?e1 sz5 ?_)
  case e1 => rw [List.length_append, List.length_append, K1.out, K2.out, K3.out]; omega
  intro v6 w6 o6 g6 _
  have O6 := Lib.hid o6
  have U6 := Lib.hid (U5.out.grown g6 O5.out.block)
  clear o6 g6 O5 U5 R5 sz5
  obtain ⟨b0, b1, b2, b3, b4⟩ := Q1.out.up U6.out
  go_wp2_with fail
  clear b0 b1 b2 b3 b4
  refine (T3.out w3 _ U3.out U6.out _ _ O6.out (by rw [List.length_append, List.length_append, List.length_append, K1.out, K2.out, K3.out]; omega)).mono ?_
  rintro e w7 ⟨v7, rfl, o7, u7⟩
  have O7 := Lib.hid o7
  have U7 := Lib.hid u7
  clear o7 u7 O6 U6 T3
  obtain ⟨b0, b1, b2, b3, b4⟩ := Q1.out.up U7.out
  go_wp2_with fail
  clear b0 b1 b2 b3 b4
  refine (T4.out w3 _ U3.out U7.out _ _ O7.out (by rw [List.length_append, List.length_append, List.length_append, List.length_append, K1.out, K2.out, K3.out, K4.out]; omega)).mono ?_
  rintro e w8 ⟨v8, rfl, o8, u8⟩
  have O8 := Lib.hid o8
  have U8 := Lib.hid u8
  clear o8 u8 O7 U7 T4
  obtain ⟨b0, b1, b2, b3, b4⟩ := Q1.out.up U8.out
  go_wp2_with fail
  clear b0 b1 b2 b3 b4
  refine (T5.out w3 _ U3.out U8.out _ _ O8.out (by rw [List.length_append, List.length_append, List.length_append, List.length_append, List.length_append, K1.out, K2.out, K3.out, K4.out, K5.out]; omega)).mono ?_
  rintro e w9 ⟨v9, rfl, o9, u9⟩
  have O9 : Hid (Ow w9 w3.heap.size v9 E) := Lib.hid (by rw [EL.out]; simpa only [List.append_assoc] using o9)
  have U9 := Lib.hid u9
  clear o9 u9 O8 U8 T5 Q1 K1 K2 K3 K4 K5 EL
  obtain ⟨a0, a1, a2, a3, a4, a5, a6⟩ := Q2.out.up U9.out
  obtain ⟨d0, d1, d2, d3, d4, d5, d6⟩ := Q4.out.up U9.out
  obtain ⟨lf, fz⟩ := Q3.out.up U9.out
  have g0 := fz 0; have g1 := fz 1; have g2 := fz 2; have g3 := fz 3; have g4 := fz 4; have g5 := fz 5; have g6 := fz 6
  clear fz
  go_wp2_with fail
  have UF := Lib.hid (U3.out.trans U9.out)
  have OF := Lib.hid (Ow.seven (b := w.heap.size + 1) (O9.out.base U3.out.size) (fun k hk => by
    have q := O9.out.block k hk
    have q' := Q3.out.1
    omega) (.int .i64 ver) (.int .i64 u0n) (.int .i64 s0n) (.int .i64 l0n) (.int .i64 j0n) (.int .i64 k0n) (.int .i64 N.length))
  go_region
  all_goals
    go_wp2_with fail
    refine bodyPost_ret (v := .tuple #[v9, hv ver u0n s0n l0n j0n k0n N.length, .int .i64 0]) (by simp [results, Tryz.results43, go_sem, a0, a1, a2, a3, a4, a5, a6]) rfl ⟨_, rfl, OF.out.up (Up.drewN _ 1), (Up.seven UF.out (Nat.le_succ _) _ _ _ _ _ _ _).drewN' 1⟩
end Go.Proofs.YtaljddoenjgbfaaGreat
