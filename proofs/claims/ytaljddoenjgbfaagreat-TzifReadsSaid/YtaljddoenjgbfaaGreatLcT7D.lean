/-
  The document's file: Decode.
-/
import Derived.Test.YtaljddoenjgbfaaGreatLcT7C
import Derived.Test.YtaljddoenjgbfaaGreatLcTzD
import Derived.Test.YtaljddoenjgbfaaGreatLcTzX
import Derived.StillTailTactics
namespace Go.Proofs.YtaljddoenjgbfaaGreat
open Go.ChangeShapes Go.WideShapes Go.ChangeAt Go.RowKit Lc

/-- What Decode answers. -/
def DdP (w : World) (l : List UInt8) (e : Ending) (w' : World) : Prop := ∃ v, e = .returned (.tuple #[v, .int .i64 (tdE l)]) ∧ FlR w' v (tdF l) ∧ Up w w'
set_option maxRecDepth 100000 in
theorem DdP.no {w w' : World} {l : List UInt8} (k : Int) (h : tdE l = k) (h0 : k ≠ 0) (u : Up w w') : DdP w l (.returned (.tuple #[flz, .int .i64 k])) w' := by
  subst h
  refine ⟨_, rfl, ?_, u⟩
  have : tdF l = fl0 := by unfold tdF; rw [if_neg h0]
  rw [this]; exact flz_read w'
set_option maxRecDepth 100000 in
theorem DdP.yes {w w' : World} {l : List UInt8} {f : Fil} {v : Value} (h : tdE l = 0) (hf : readF l = f) (b : FlR w' v f) (u : Up w w') : DdP w l (.returned (.tuple #[v, .int .i64 0])) w' := by
  refine ⟨v, by rw [h], ?_, u⟩
  have : tdF l = f := by unfold tdF; rw [if_pos h]; exact hf
  rw [this]; exact b
set_option maxRecDepth 100000 in
theorem tdE_of {l : List UInt8} (h : ¬ 100000 < l.length) : tdE l = readE l := by unfold tdE; rw [if_neg h]
set_option maxRecDepth 100000 in
theorem td_1 {l : List UInt8} (h : ¬ 100000 < l.length) (h1 : errH l ≠ 0) : tdE l = errH l := by rw [tdE_of h]; unfold readE; rw [if_pos h1]
set_option maxRecDepth 100000 in
theorem td_2 {l : List UInt8} (h : ¬ 100000 < l.length) (h1 : errH l = 0) (h2 : hB l 4 ≠ 0) : tdE l = hB l 4 := by rw [tdE_of h]; unfold readE; rw [if_neg (by simpa using h1), if_pos h2]
set_option maxRecDepth 100000 in
theorem td_3 {l : List UInt8} (h : ¬ 100000 < l.length) (h1 : errH l = 0) (h2 : hB l 4 = 0) (h3 : vH l = 1) : tdE l = if hR l 4 = [] then 0 else 4 := by rw [tdE_of h]; unfold readE; rw [if_neg (by simpa using h1), if_neg (by simpa using h2), if_pos h3]
set_option maxRecDepth 100000 in
theorem td_4 {l : List UInt8} (h : ¬ 100000 < l.length) (h1 : errH l = 0) (h2 : hB l 4 = 0) (h3 : vH l ≠ 1) : tdE l = rest2 (vH l) (hR l 4) := by rw [tdE_of h]; unfold readE; rw [if_neg (by simpa using h1), if_neg (by simpa using h2), if_neg h3]
set_option maxRecDepth 100000 in
theorem hb_len {l : List UInt8} {z : Int} (h1 : errH l = 0) (hz : z = 4 ∨ z = 8) (h : hB l z = 0) : ∃ n : Nat, 44 + bodyI (cntI l 0) (cntI l 1) (cntI l 2) (cntI l 3) (cntI l 4) (cntI l 5) z = (n : Int) ∧ 44 ≤ n ∧ n ≤ l.length ∧ hR l z = l.drop n := by
  obtain ⟨hi, h44⟩ := isH_of h1
  have bd := bodyI_bd (rightH_of hi) (z := z) (by omega)
  obtain ⟨k, hk⟩ := Int.eq_ofNat_of_zero_le bd.1
  have hl : bodyI (cntI l 0) (cntI l 1) (cntI l 2) (cntI l 3) (cntI l 4) (cntI l 5) z ≤ ((l.drop 44).length : Int) := by
    unfold hB decE at h
    split at h
    · cases h
    · split at h
      · cases h
      · omega
  rw [List.length_drop] at hl
  refine ⟨44 + k, by rw [hk]; rfl, by omega, by omega, ?_⟩
  unfold hR
  rw [hk, Int.toNat_natCast, List.drop_drop]
set_option maxRecDepth 100000 in
theorem vH_pos {l : List UInt8} (h1 : errH l = 0) : 1 ≤ vH l ∧ vH l ≤ 4 := by
  have q := rightH_true.1 (rightH_of (isH_of h1).1)
  exact ⟨by omega, by omega⟩
set_option maxRecDepth 100000 in
theorem lf_of {g : List UInt8} (h : 0 < g.length) : lf1 g = decide (g.getD 0 0 = 10) := by
  cases g with
  | nil => simp at h
  | cons a g => unfold lf1; simp
set_option maxRecDepth 100000 in
theorem foot_0 {g : List UInt8} (h : 0 < g.length) (h0 : ¬ g.getD 0 0 = 10) : footE g = 4 := by
  unfold footE
  rw [if_neg (by intro e; rw [e] at h; simp at h), if_pos (by rw [lf_of h, decide_eq_false h0])]
set_option maxRecDepth 100000 in
theorem foot_5 {g : List UInt8} (h : 0 < g.length) (h0 : g.getD 0 0 = 10) (hz : ∀ j, 1 ≤ j → j < g.length → g.getD j 0 ≠ 10) : footE g = 5 := by
  unfold footE
  have e : Go.Lib.indexByte (g.drop 1) 10 = -1 := by
    have : (g.drop 1).contains 10 = false := by
      rw [List.contains_eq_mem, decide_eq_false_iff_not]
      intro hm
      obtain ⟨j, hj, ej⟩ := List.getElem_of_mem hm
      rw [List.length_drop] at hj
      refine hz (j + 1) (by omega) (by omega) ?_
      rw [List.getElem_drop] at ej
      rw [List.getD_eq_getElem?_getD, List.getElem?_eq_getElem (by omega), Option.getD_some, ← ej]
      congr 1; omega
    clear hz
    generalize g.drop 1 = r at this ⊢
    induction r with
    | nil => rfl
    | cons a l ih =>
      simp only [List.contains_cons, Bool.or_eq_false_iff] at this
      rw [Go.Lib.indexByte, ih this.2, if_neg (by have := this.1; simp at this ⊢; exact fun e => this e.symm), if_pos (by simp)]
  rw [if_neg (by intro e; rw [e] at h; simp at h), if_neg (by rw [lf_of h, decide_eq_true h0]; decide), e, if_pos (by decide)]
set_option maxRecDepth 100000 in
theorem foot_k {g : List UInt8} {k : Nat} (h0 : g.getD 0 0 = 10) (h1 : 1 ≤ k) (hk : k < g.length) (hz : ∀ j, 1 ≤ j → j < k → g.getD j 0 ≠ 10) (hx : g.getD k 0 = 10) :
    footE g = (if k + 1 < g.length ∨ 101 < k then 4 else 0) ∧ footT g = str ((g.drop 1).take (k - 1)) := by
  have e : Go.Lib.indexByte (g.drop 1) 10 = ((k - 1 : Nat) : Int) := by
    have sp : g.drop 1 = (g.drop 1).take (k - 1) ++ 10 :: (g.drop 1).drop k := by
      have l1 : k - 1 < (g.drop 1).length := by rw [List.length_drop]; omega
      have e1 : (g.drop 1)[k - 1] = 10 := by
        rw [List.getElem_drop]
        rw [List.getD_eq_getElem?_getD, List.getElem?_eq_getElem hk, Option.getD_some] at hx
        rw [← hx]; congr 1; omega
      conv => lhs; rw [← List.take_append_drop (k - 1) (g.drop 1), List.drop_eq_getElem_cons l1, e1]
      rw [show k - 1 + 1 = k by omega]
    rw [sp, index_lf_at]
    · rw [List.length_take, List.length_drop]; omega
    · rw [List.contains_eq_mem, decide_eq_false_iff_not]
      intro hm
      obtain ⟨j, hj, ej⟩ := List.getElem_of_mem hm
      rw [List.length_take, List.length_drop] at hj
      refine hz (j + 1) (by omega) (by omega) ?_
      rw [List.getElem_take, List.getElem_drop] at ej
      rw [List.getD_eq_getElem?_getD, List.getElem?_eq_getElem (by omega), Option.getD_some, ← ej]
      congr 1; omega
  unfold footE footT
  rw [e]
  refine ⟨?_, by rw [Int.toNat_natCast]⟩
  rw [if_neg (by intro e; rw [e] at hk; simp at hk), if_neg (by rw [lf_of (by omega), decide_eq_true h0]; decide), if_neg (by omega)]
  rw [List.length_drop]
  by_cases c : k + 1 < g.length ∨ 101 < k
  · rw [if_pos c, if_pos (by omega)]
  · rw [if_neg c, if_neg (by omega)]
set_option maxRecDepth 100000 in
set_option maxHeartbeats 8000000 in
theorem ddecode7_any (v : Value) (l : List UInt8) (w : World) (hs : Sb w v l) :
    Calls Tryz.prog 14 #[v] w fun e w' => DdP w l e w' := by
  have HS := Lib.hid hs
  obtain ⟨A, c, rfl, hc, hcm, hr⟩ := hs
  have HR := Lib.hid hr
  have UW := Lib.hid (Up.alloc w (.cells #[.int .i64 0, .slice none 0 0, .slice none 0 0, .slice none 0 0, .slice none 0 0, .slice none 0 0, .string ⟨#[]⟩] 39))
  have XW := Lib.hid (Bx7.new w (.int .i64 0) (.slice none 0 0) (.slice none 0 0) (.slice none 0 0) (.slice none 0 0) (.slice none 0 0) (.string ⟨#[]⟩) 39)
  have FW := Lib.hid (Free.new w #[.int .i64 0, .slice none 0 0, .slice none 0 0, .slice none 0 0, .slice none 0 0, .slice none 0 0, .string ⟨#[]⟩] 39)
  clear hr
  obtain ⟨n, hn⟩ : ∃ n, l.length = n := ⟨_, rfl⟩
  have LN := Lib.hid hn
  rw [hn] at hc HS ⊢
  clear hn
  by_cases hgr : 100000 < n
  · have e4 : tdE l = 4 := by unfold tdE; rw [if_pos (by rw [LN.out]; exact hgr)]
    have h' : (100000 : Int) < (n : Int) := by omega
    go_enter Tryz.func14, Tryz.ntmps14
    go_wp2_with fail
    obtain ⟨g0, g1, g2, g3, g4, g5, g6⟩ := XW.out
    exact bodyPost_ret (v := .tuple #[flz, .int .i64 4]) (by simp [results, Tryz.results14, go_sem, flz, g0, g1, g2, g3, g4, g5, g6]) rfl (DdP.no 4 e4 (by decide) UW.out)
  have hgr' : ¬ (100000 : Int) < (n : Int) := by omega
  have hgl : ¬ 100000 < l.length := by rw [LN.out]; exact hgr
  have TH := Lib.hid hgl
  clear hgl
  by_cases h1 : errH l = 0
  rotate_left
  · have T := td_1 TH.out h1
    have D := Lib.hid (fun w1 (u : Up w w1) => half_no _ l 4 w1 (HS.out.up u) h1)
    have hx : (errH l != 0) = true := by simpa using h1
    generalize errH l = er at *
    go_enter Tryz.func14, Tryz.ntmps14
    go_wp2_with fail
    refine (D.out _ UW.out).mono ?_; rintro e w1 ⟨rfl, u1⟩
    have U1 := Lib.hid (UW.out.trans u1)
    have X1 := Lib.hid (XW.out.up u1)
    have F1 := Lib.hid (FW.out.up u1)
    clear u1 XW FW
    obtain ⟨x0, x1, x2, x3, x4, x5, x6⟩ := X1.out
    have lt1 := F1.out.1
    have z0 := F1.out.2 0; have z1 := F1.out.2 1; have z2 := F1.out.2 2; have z3 := F1.out.2 3; have z4 := F1.out.2 4; have z5 := F1.out.2 5; have z6 := F1.out.2 6
    go_wp2_with fail
    obtain ⟨g0, g1, g2, g3, g4, g5, g6⟩ := (Bx7.seven X1.out (.int .i64 0) (.slice none 0 0) (.slice none 0 0) (.slice none 0 0) (.slice none 0 0) (.slice none 0 0) (.string ⟨#[]⟩)).up ((Up.alloc _ (.cells #[.int .i64 0, .int .i64 0, .int .i64 0, .int .i64 0, .int .i64 0, .int .i64 0, .int .i64 0] 60)).alloc' (.cells #[.slice none 0 0, .slice none 0 0, .slice none 0 0, .slice none 0 0, .slice none 0 0] 37))
    exact bodyPost_ret (v := .tuple #[flz, .int .i64 er]) (by simp [results, Tryz.results14, go_sem, flz, g0, g1, g2, g3, g4, g5, g6]) rfl (DdP.no er T h1 (((Up.seven U1.out (Nat.le_refl _) (.int .i64 0) (.slice none 0 0) (.slice none 0 0) (.slice none 0 0) (.slice none 0 0) (.slice none 0 0) (.string ⟨#[]⟩)).alloc' _).alloc' _))
  obtain ⟨n4, hn4, hn44, hnl, hr4⟩ : ∃ n4 : Nat, (hB l 4 = 0 → 44 + bodyI (cntI l 0) (cntI l 1) (cntI l 2) (cntI l 3) (cntI l 4) (cntI l 5) 4 = (n4 : Int)) ∧ (hB l 4 = 0 → 44 ≤ n4) ∧ (hB l 4 = 0 → n4 ≤ n) ∧ (hB l 4 = 0 → hR l 4 = l.drop n4) := by
    by_cases h2 : hB l 4 = 0
    · obtain ⟨k, a, b, c', d⟩ := hb_len h1 (.inl rfl) h2
      exact ⟨k, fun _ => a, fun _ => b, fun _ => by rw [← LN.out]; exact c', fun _ => d⟩
    · exact ⟨0, fun h => absurd h h2, fun h => absurd h h2, fun h => absurd h h2, fun h => absurd h h2⟩
  have D := Lib.hid (fun w1 (u : Up w w1) => half_yes _ l 4 w1 (HS.out.up u) h1 (.inl rfl))
  unfold HlP at D
  obtain ⟨vp1, vp4⟩ := vH_pos h1
  have T2 := Lib.hid (fun h2 => td_2 TH.out h1 h2)
  have T3 := Lib.hid (fun h2 h3 => td_3 TH.out h1 h2 h3)
  have T4 := Lib.hid (fun h2 h3 => td_4 TH.out h1 h2 h3)
  have RF1 := Lib.hid (fun (h3 : vH l = 1) => show readF l = ⟨vH l, hX l 4, ⟨#[]⟩⟩ by unfold readF; rw [if_pos h3])
  have RF2 := Lib.hid (fun (h3 : vH l ≠ 1) => show readF l = ⟨vH (hR l 4), hX (hR l 4) 8, footT (hR (hR l 4) 8)⟩ by unfold readF; rw [if_neg h3])
  clear h1
  generalize bodyI (cntI l 0) (cntI l 1) (cntI l 2) (cntI l 3) (cntI l 4) (cntI l 5) 4 = bo at *
  generalize cntI l 0 = k0 at *
  generalize cntI l 1 = k1 at *
  generalize cntI l 2 = k2 at *
  generalize cntI l 3 = k3 at *
  generalize cntI l 4 = k4 at *
  generalize cntI l 5 = k5 at *
  generalize vH l = ver at *
  generalize hX l 4 = X at *
  generalize hR l 4 = q at *
  generalize hB l 4 = eb at *
  go_enter Tryz.func14, Tryz.ntmps14
  go_wp2_with fail
  refine (D.out _ UW.out).mono ?_; rintro e w1 ⟨v1, rfl, bx, fx, u1⟩
  obtain ⟨S0, s0, t0, S1, s1, t1, S2, s2, t2, S3, s3, t3, S4, s4, t4, rfl⟩ := bx.form
  have U1 := Lib.hid (UW.out.trans u1)
  have X1 := Lib.hid (XW.out.up u1)
  have F1 := Lib.hid (FW.out.up u1)
  have V1 := Lib.hid bx
  have N1 := Lib.hid fx
  clear XW FW D bx fx
  by_cases h2 : eb = 0
  rotate_left
  · have T := T2.out h2
    have hx : (eb != 0) = true := by simpa using h2
    clear T2 T3 T4 RF1 RF2 hn4 hn44 hnl hr4
    obtain ⟨x0, x1, x2, x3, x4, x5, x6⟩ := X1.out
    have lt1 := F1.out.1
    have z0 := F1.out.2 0; have z1 := F1.out.2 1; have z2 := F1.out.2 2; have z3 := F1.out.2 3; have z4 := F1.out.2 4; have z5 := F1.out.2 5; have z6 := F1.out.2 6
    go_wp2_with fail
    obtain ⟨g0, g1, g2, g3, g4, g5, g6⟩ := (Bx7.seven X1.out (.int .i64 0) (.slice none 0 0) (.slice none 0 0) (.slice none 0 0) (.slice none 0 0) (.slice none 0 0) (.string ⟨#[]⟩)).up ((Up.alloc _ (.cells #[.int .i64 ver, .int .i64 k0, .int .i64 k1, .int .i64 k2, .int .i64 k3, .int .i64 k4, .int .i64 k5] 60)).alloc' (.cells #[.slice S0 s0 t0, .slice S1 s1 t1, .slice S2 s2 t2, .slice S3 s3 t3, .slice S4 s4 t4] 37))
    exact bodyPost_ret (v := .tuple #[flz, .int .i64 eb]) (by simp [results, Tryz.results14, go_sem, flz, g0, g1, g2, g3, g4, g5, g6]) rfl (DdP.no eb T h2 (((Up.seven U1.out (Nat.le_refl _) (.int .i64 0) (.slice none 0 0) (.slice none 0 0) (.slice none 0 0) (.slice none 0 0) (.slice none 0 0) (.string ⟨#[]⟩)).alloc' _).alloc' _))
  subst h2
  replace hn4 := hn4 rfl
  replace hn44 := hn44 rfl
  replace hnl := hnl rfl
  replace hr4 := Lib.hid (hr4 rfl)
  rw [hn4]
  by_cases h3 : ver = 1
  · subst h3
    have T := T3.out rfl rfl
    have QN : q = [] ↔ ¬ n4 < n := by
      rw [hr4.out, List.drop_eq_nil_iff, LN.out]; omega
    obtain ⟨x0, x1, x2, x3, x4, x5, x6⟩ := X1.out
    have lt1 := F1.out.1
    have z0 := F1.out.2 0; have z1 := F1.out.2 1; have z2 := F1.out.2 2; have z3 := F1.out.2 3; have z4 := F1.out.2 4; have z5 := F1.out.2 5; have z6 := F1.out.2 6
    by_cases hlt : n4 < n
    · have T' : tdE l = 4 := by rw [T, if_neg (by rw [QN]; omega)]
      have hlt' : (n4 : Int) < (n : Int) := by omega
      clear T2 T3 T4 RF1 RF2 hr4 T QN hn4 u1
      go_wp2_with fail
      obtain ⟨g0, g1, g2, g3, g4, g5, g6⟩ := (Bx7.seven X1.out (.int .i64 0) (.slice none 0 0) (.slice none 0 0) (.slice none 0 0) (.slice none 0 0) (.slice none 0 0) (.string ⟨#[]⟩)).up ((Up.alloc _ (.cells #[.int .i64 1, .int .i64 k0, .int .i64 k1, .int .i64 k2, .int .i64 k3, .int .i64 k4, .int .i64 k5] 60)).alloc' (.cells #[.slice S0 s0 t0, .slice S1 s1 t1, .slice S2 s2 t2, .slice S3 s3 t3, .slice S4 s4 t4] 37))
      exact bodyPost_ret (v := .tuple #[flz, .int .i64 4]) (by simp [results, Tryz.results14, go_sem, flz, g0, g1, g2, g3, g4, g5, g6]) rfl (DdP.no 4 T' (by decide) (((Up.seven U1.out (Nat.le_refl _) (.int .i64 0) (.slice none 0 0) (.slice none 0 0) (.slice none 0 0) (.slice none 0 0) (.slice none 0 0) (.string ⟨#[]⟩)).alloc' _).alloc' _))
    · have T' : tdE l = 0 := by rw [T, if_pos (QN.2 hlt)]
      have hlt' : ¬ (n4 : Int) < (n : Int) := by omega
      have RF := RF1.out rfl
      clear T2 T3 T4 RF1 RF2 hr4 T QN hn4
      go_wp2_with fail
      obtain ⟨g0, g1, g2, g3, g4, g5, g6⟩ := (Bx7.seven X1.out (.int .i64 1) (.slice S0 s0 t0) (.slice S1 s1 t1) (.slice S2 s2 t2) (.slice S3 s3 t3) (.slice S4 s4 t4) (.string ⟨#[]⟩)).up ((Up.alloc _ (.cells #[.int .i64 1, .int .i64 k0, .int .i64 k1, .int .i64 k2, .int .i64 k3, .int .i64 k4, .int .i64 k5] 60)).alloc' (.cells #[.slice S0 s0 t0, .slice S1 s1 t1, .slice S2 s2 t2, .slice S3 s3 t3, .slice S4 s4 t4] 37))
      have BQ := (V1.out.gb (gb_seven (World.grownBy.refl w1 (some w.heap.size)) (.int .i64 1) (.slice S0 s0 t0) (.slice S1 s1 t1) (.slice S2 s2 t2) (.slice S3 s3 t3) (.slice S4 s4 t4) (.string ⟨#[]⟩)) N1.out (by simp)).up ((Up.alloc _ (.cells #[.int .i64 1, .int .i64 k0, .int .i64 k1, .int .i64 k2, .int .i64 k3, .int .i64 k4, .int .i64 k5] 60)).alloc' (.cells #[.slice S0 s0 t0, .slice S1 s1 t1, .slice S2 s2 t2, .slice S3 s3 t3, .slice S4 s4 t4] 37))
      exact bodyPost_ret (v := .tuple #[.agg #[.int .i64 1, .slice S0 s0 t0, .slice S1 s1 t1, .slice S2 s2 t2, .slice S3 s3 t3, .slice S4 s4 t4, .string ⟨#[]⟩], .int .i64 0]) (by simp [results, Tryz.results14, go_sem, g0, g1, g2, g3, g4, g5, g6]) rfl (DdP.yes T' RF ⟨_, _, _, _, _, rfl, BQ⟩ (((Up.seven U1.out (Nat.le_refl _) (.int .i64 1) (.slice S0 s0 t0) (.slice S1 s1 t1) (.slice S2 s2 t2) (.slice S3 s3 t3) (.slice S4 s4 t4) (.string ⟨#[]⟩)).alloc' _).alloc' _))
  have T := T4.out rfl h3
  have RF := RF2.out h3
  clear T2 T3 T4 RF1 RF2 V1 N1
  have hv1 : (ver == 1) = false := by simpa using h3
  go_upto_region 10 with (fail)
  have HH := Lib.hid ((HBox.new w1 ver k0 k1 k2 k3 k4 k5 60).up (Up.alloc _ (.cells #[.slice S0 s0 t0, .slice S1 s1 t1, .slice S2 s2 t2, .slice S3 s3 t3, .slice S4 s4 t4] 37)))
  have ua := (Up.alloc w1 (.cells #[.int .i64 ver, .int .i64 k0, .int .i64 k1, .int .i64 k2, .int .i64 k3, .int .i64 k4, .int .i64 k5] 60)).alloc' (.cells #[.slice S0 s0 t0, .slice S1 s1 t1, .slice S2 s2 t2, .slice S3 s3 t3, .slice S4 s4 t4] 37)
  have U2 := Lib.hid (U1.out.trans ua)
  have X2 := Lib.hid (X1.out.up ua)
  have F2 := Lib.hid (F1.out.up ua)
  clear ua U1 X1 F1
  generalize (w1.alloc (.cells #[.int .i64 ver, .int .i64 k0, .int .i64 k1, .int .i64 k2, .int .i64 k3, .int .i64 k4, .int .i64 k5] 60)).alloc (.cells #[.slice S0 s0 t0, .slice S1 s1 t1, .slice S2 s2 t2, .slice S3 s3 t3, .slice S4 s4 t4] 37) = W2 at *
  have S2' := Lib.hid (Sb.from (show l.length ≤ c by rw [LN.out]; exact hc) hcm (HR.out.up U2.out) n4 (by rw [LN.out]; exact hnl))
  rw [← hr4.out, LN.out] at S2'
  have hnl' : (n4 : Int) ≤ (n : Int) := by omega
  go_wp2_with fail
  · have hq : q = [] := by rw [hr4.out, List.drop_eq_nil_iff, LN.out]; omega
    have h5 : errH q ≠ 0 := by rw [hq]; unfold errH; rw [if_pos (by simp)]; decide
    have T5 : tdE l = errH q := by rw [T]; unfold rest2; rw [if_pos h5]
    have hx : (errH q != 0) = true := by simpa using h5
    refine (half_no _ q 8 W2 (by have g := S2'.out; rw [if_pos h, show c - n4 = 0 by omega] at g; exact g) h5).mono ?_; rintro e w3 ⟨rfl, u3⟩
    have U3 := Lib.hid (U2.out.trans u3)
    have X3 := Lib.hid (X2.out.up u3)
    have F3 := Lib.hid (F2.out.up u3)
    have H3 := Lib.hid (HH.out.up u3)
    clear u3 U2 X2 F2 HH T RF
    generalize errH q = er at *
    obtain ⟨h0, h1, h2, h3', h4, h5', h6⟩ := H3.out
    have lth := cell_lt h0
    obtain ⟨x0, x1, x2, x3, x4, x5, x6⟩ := X3.out
    have lt1 := F3.out.1
    have z0 := F3.out.2 0; have z1 := F3.out.2 1; have z2 := F3.out.2 2; have z3 := F3.out.2 3; have z4 := F3.out.2 4; have z5 := F3.out.2 5; have z6 := F3.out.2 6
    go_wp2_with fail
    obtain ⟨g0, g1, g2, g3, g4, g5, g6⟩ := (Bx7.seven X3.out (.int .i64 0) (.slice none 0 0) (.slice none 0 0) (.slice none 0 0) (.slice none 0 0) (.slice none 0 0) (.string ⟨#[]⟩)).up ((Up.alloc _ (.cells #[.int .i64 0, .int .i64 0, .int .i64 0, .int .i64 0, .int .i64 0, .int .i64 0, .int .i64 0] 60)).alloc' (.cells #[.slice none 0 0, .slice none 0 0, .slice none 0 0, .slice none 0 0, .slice none 0 0] 37))
    exact bodyPost_ret (v := .tuple #[flz, .int .i64 er]) (by simp [results, Tryz.results14, go_sem, flz, g0, g1, g2, g3, g4, g5, g6]) rfl (DdP.no er T5 h5 (((Up.seven U3.out (Nat.le_refl _) (.int .i64 0) (.slice none 0 0) (.slice none 0 0) (.slice none 0 0) (.slice none 0 0) (.slice none 0 0) (.string ⟨#[]⟩)).alloc' _).alloc' _))
  have SQ := S2'.out
  rw [if_neg h] at SQ
  generalize Option.map (fun x => x.add n4) A = A3 at *
  obtain ⟨c3, hc3⟩ : ∃ c3, c - n4 = c3 := ⟨_, rfl⟩
  obtain ⟨n3, hn3⟩ : ∃ n3, n - n4 = n3 := ⟨_, rfl⟩
  rw [hc3, hn3] at SQ ⊢
  have SQ3 := Lib.hid SQ
  have LQ : Hid (q.length = n3) := by unfold Hid; rw [hr4.out, List.length_drop, LN.out]; exact hn3
  clear S2' SQ
  by_cases h5 : errH q = 0
  rotate_left
  · have T5 : tdE l = errH q := by rw [T]; unfold rest2; rw [if_pos h5]
    have hx : (errH q != 0) = true := by simpa using h5
    refine (half_no _ q 8 W2 SQ3.out h5).mono ?_; rintro e w3 ⟨rfl, u3⟩
    have U3 := Lib.hid (U2.out.trans u3)
    have X3 := Lib.hid (X2.out.up u3)
    have F3 := Lib.hid (F2.out.up u3)
    have H3 := Lib.hid (HH.out.up u3)
    clear u3 U2 X2 F2 HH T RF
    generalize errH q = er at *
    obtain ⟨h0, h1, h2, h3', h4, h5', h6⟩ := H3.out
    have lth := cell_lt h0
    obtain ⟨x0, x1, x2, x3, x4, x5, x6⟩ := X3.out
    have lt1 := F3.out.1
    have z0 := F3.out.2 0; have z1 := F3.out.2 1; have z2 := F3.out.2 2; have z3 := F3.out.2 3; have z4 := F3.out.2 4; have z5 := F3.out.2 5; have z6 := F3.out.2 6
    go_wp2_with fail
    obtain ⟨g0, g1, g2, g3, g4, g5, g6⟩ := (Bx7.seven X3.out (.int .i64 0) (.slice none 0 0) (.slice none 0 0) (.slice none 0 0) (.slice none 0 0) (.slice none 0 0) (.string ⟨#[]⟩)).up ((Up.alloc _ (.cells #[.int .i64 0, .int .i64 0, .int .i64 0, .int .i64 0, .int .i64 0, .int .i64 0, .int .i64 0] 60)).alloc' (.cells #[.slice none 0 0, .slice none 0 0, .slice none 0 0, .slice none 0 0, .slice none 0 0] 37))
    exact bodyPost_ret (v := .tuple #[flz, .int .i64 er]) (by simp [results, Tryz.results14, go_sem, flz, g0, g1, g2, g3, g4, g5, g6]) rfl (DdP.no er T5 h5 (((Up.seven U3.out (Nat.le_refl _) (.int .i64 0) (.slice none 0 0) (.slice none 0 0) (.slice none 0 0) (.slice none 0 0) (.slice none 0 0) (.string ⟨#[]⟩)).alloc' _).alloc' _))
  obtain ⟨m4, hm4, hm44, hml, hr8⟩ : ∃ m4 : Nat, (hB q 8 = 0 → 44 + bodyI (cntI q 0) (cntI q 1) (cntI q 2) (cntI q 3) (cntI q 4) (cntI q 5) 8 = (m4 : Int)) ∧ (hB q 8 = 0 → 44 ≤ m4) ∧ (hB q 8 = 0 → m4 ≤ n3) ∧ (hB q 8 = 0 → hR q 8 = q.drop m4) := by
    by_cases h2 : hB q 8 = 0
    · obtain ⟨k, a, b, c', d⟩ := hb_len h5 (.inr rfl) h2
      exact ⟨k, fun _ => a, fun _ => b, fun _ => by rw [← LQ.out]; exact c', fun _ => d⟩
    · exact ⟨0, fun h => absurd h h2, fun h => absurd h h2, fun h => absurd h h2, fun h => absurd h h2⟩
  have D5 := Lib.hid (half_yes _ q 8 W2 SQ3.out h5 (.inr rfl))
  unfold HlP at D5
  obtain ⟨vq1, vq4⟩ := vH_pos h5
  have T6 : Hid (tdE l = if vH q ≠ ver then 4 else if hB q 8 ≠ 0 then hB q 8 else footE (hR q 8)) := by
    unfold Hid; rw [T]; unfold rest2; rw [if_neg (by simpa using h5)]
  have RFH := Lib.hid RF
  clear h5 T RF
  generalize bodyI (cntI q 0) (cntI q 1) (cntI q 2) (cntI q 3) (cntI q 4) (cntI q 5) 8 = bp at *
  generalize cntI q 0 = l0 at *
  generalize cntI q 1 = l1 at *
  generalize cntI q 2 = l2 at *
  generalize cntI q 3 = l3 at *
  generalize cntI q 4 = l4 at *
  generalize cntI q 5 = l5 at *
  generalize vH q = ver2 at *
  generalize hX q 8 = Y at *
  generalize hR q 8 = g at *
  generalize hB q 8 = ec at *
  refine D5.out.mono ?_; rintro e w3 ⟨v3, rfl, bx, fx, u3⟩
  obtain ⟨R0, r0, o0, R1, r1, o1, R2, r2, o2, R3, r3, o3, R4, r4, o4, rfl⟩ := bx.form
  have U3 := Lib.hid (U2.out.trans u3)
  have X3 := Lib.hid (X2.out.up u3)
  have F3 := Lib.hid (F2.out.up u3)
  have H3 := Lib.hid (HH.out.up u3)
  have V3 := Lib.hid bx
  have N3 := Lib.hid fx
  have hB2 := F2.out.1
  have SQ4 := Lib.hid (SQ3.out.up u3)
  clear D5 u3 bx U2 X2 F2 HH SQ3
  have hp2 : (0 : Int) < ver2 := by omega
  obtain ⟨h0, h1, h2', h3', h4, h5', h6⟩ := H3.out
  have lth := cell_lt h0
  by_cases hv2 : ver2 = ver
  rotate_left
  · have T7 : tdE l = 4 := by rw [T6.out, if_pos hv2]
    have hv2' : (ver2 != ver) = true := by simpa using hv2
    clear T6 RFH hm4 hm44 hml hr8 V3 N3 SQ4
    obtain ⟨x0, x1, x2, x3, x4, x5, x6⟩ := X3.out
    have lt1 := F3.out.1
    have z0 := F3.out.2 0; have z1 := F3.out.2 1; have z2 := F3.out.2 2; have z3 := F3.out.2 3; have z4 := F3.out.2 4; have z5 := F3.out.2 5; have z6 := F3.out.2 6
    go_wp2_with fail
    obtain ⟨g0, g1, g2, g3, g4, g5, g6⟩ := (Bx7.seven X3.out (.int .i64 0) (.slice none 0 0) (.slice none 0 0) (.slice none 0 0) (.slice none 0 0) (.slice none 0 0) (.string ⟨#[]⟩)).up ((Up.alloc _ (.cells #[.int .i64 ver2, .int .i64 l0, .int .i64 l1, .int .i64 l2, .int .i64 l3, .int .i64 l4, .int .i64 l5] 60)).alloc' (.cells #[.slice R0 r0 o0, .slice R1 r1 o1, .slice R2 r2 o2, .slice R3 r3 o3, .slice R4 r4 o4] 37))
    exact bodyPost_ret (v := .tuple #[flz, .int .i64 4]) (by simp [results, Tryz.results14, go_sem, flz, g0, g1, g2, g3, g4, g5, g6]) rfl (DdP.no 4 T7 (by decide) (((Up.seven U3.out (Nat.le_refl _) (.int .i64 0) (.slice none 0 0) (.slice none 0 0) (.slice none 0 0) (.slice none 0 0) (.slice none 0 0) (.string ⟨#[]⟩)).alloc' _).alloc' _))
  subst hv2
  have T8 : Hid (tdE l = if ec ≠ 0 then ec else footE g) := by unfold Hid; rw [T6.out, if_neg (by simp)]
  clear T6
  by_cases h8 : ec = 0
  rotate_left
  · have T9 : tdE l = ec := by rw [T8.out, if_pos h8]
    have hx : (ec != 0) = true := by simpa using h8
    clear T8 RFH hm4 hm44 hml hr8 V3 N3 SQ4
    obtain ⟨x0, x1, x2, x3, x4, x5, x6⟩ := X3.out
    have lt1 := F3.out.1
    have z0 := F3.out.2 0; have z1 := F3.out.2 1; have z2 := F3.out.2 2; have z3 := F3.out.2 3; have z4 := F3.out.2 4; have z5 := F3.out.2 5; have z6 := F3.out.2 6
    go_wp2_with fail
    obtain ⟨g0, g1, g2, g3, g4, g5, g6⟩ := (Bx7.seven X3.out (.int .i64 0) (.slice none 0 0) (.slice none 0 0) (.slice none 0 0) (.slice none 0 0) (.slice none 0 0) (.string ⟨#[]⟩)).up ((Up.alloc _ (.cells #[.int .i64 ver2, .int .i64 l0, .int .i64 l1, .int .i64 l2, .int .i64 l3, .int .i64 l4, .int .i64 l5] 60)).alloc' (.cells #[.slice R0 r0 o0, .slice R1 r1 o1, .slice R2 r2 o2, .slice R3 r3 o3, .slice R4 r4 o4] 37))
    exact bodyPost_ret (v := .tuple #[flz, .int .i64 ec]) (by simp [results, Tryz.results14, go_sem, flz, g0, g1, g2, g3, g4, g5, g6]) rfl (DdP.no ec T9 h8 (((Up.seven U3.out (Nat.le_refl _) (.int .i64 0) (.slice none 0 0) (.slice none 0 0) (.slice none 0 0) (.slice none 0 0) (.slice none 0 0) (.string ⟨#[]⟩)).alloc' _).alloc' _))
  subst h8
  have T9 : Hid (tdE l = footE g) := by unfold Hid; rw [T8.out, if_neg (by simp)]
  clear T8
  replace hm4 := hm4 rfl
  replace hm44 := hm44 rfl
  replace hml := hml rfl
  replace hr8 := Lib.hid (hr8 rfl)
  rw [hm4]
  go_upto_region 16 with (fail)
  have ua := (Up.alloc w3 (.cells #[.int .i64 ver2, .int .i64 l0, .int .i64 l1, .int .i64 l2, .int .i64 l3, .int .i64 l4, .int .i64 l5] 60)).alloc' (.cells #[.slice R0 r0 o0, .slice R1 r1 o1, .slice R2 r2 o2, .slice R3 r3 o3, .slice R4 r4 o4] 37)
  have U4 := Lib.hid (U3.out.trans ua)
  have X4 := Lib.hid (X3.out.up ua)
  have F4 := Lib.hid (F3.out.up ua)
  have H4 := Lib.hid (H3.out.up ua)
  have V4 := Lib.hid (V3.out.up ua)
  have SQ5 := SQ4.out.up ua
  have Y4 := Bx5.new (w3.alloc (.cells #[.int .i64 ver2, .int .i64 l0, .int .i64 l1, .int .i64 l2, .int .i64 l3, .int .i64 l4, .int .i64 l5] 60)) (.slice R0 r0 o0) (.slice R1 r1 o1) (.slice R2 r2 o2) (.slice R3 r3 o3) (.slice R4 r4 o4) 37
  rw [World.size_alloc] at Y4
  replace Y4 := Lib.hid Y4
  clear ua U3 X3 F3 H3 V3 SQ4 h0 h1 h2' h3' h4 h5' h6 lth
  generalize (w3.alloc (.cells #[.int .i64 ver2, .int .i64 l0, .int .i64 l1, .int .i64 l2, .int .i64 l3, .int .i64 l4, .int .i64 l5] 60)).alloc (.cells #[.slice R0 r0 o0, .slice R1 r1 o1, .slice R2 r2 o2, .slice R3 r3 o3, .slice R4 r4 o4] 37) = W4 at *
  obtain ⟨A3', c3', eS, hc3q, hcm3, rq⟩ := SQ5
  injection eS with eS1 eS2 eS3
  subst eS1 eS3
  clear eS2
  rw [LQ.out] at hc3q
  have S4' := Lib.hid (Sb.from (show q.length ≤ c3 by rw [LQ.out]; exact hc3q) hcm3 rq m4 (by rw [LQ.out]; exact hml))
  rw [← hr8.out, LQ.out] at S4'
  have hml' : (m4 : Int) ≤ (n3 : Int) := by omega
  go_upto_region 17 with (fail)
  obtain ⟨A5, hA5⟩ : ∃ A5, (if c3 = m4 then A3 else Option.map (fun x => x.add m4) A3) = A5 := ⟨_, rfl⟩
  obtain ⟨n5, hn5⟩ : ∃ n5, n3 - m4 = n5 := ⟨_, rfl⟩
  obtain ⟨c5, hc5⟩ : ∃ c5, c3 - m4 = c5 := ⟨_, rfl⟩
  rw [hA5, hn5, hc5] at S4' ⊢
  obtain ⟨A5', c5', eS, hc5q, hcm5, rg⟩ := S4'.out
  injection eS with eS1 eS2 eS3
  subst eS1 eS3
  have RG := Lib.hid rg
  have LG := Lib.hid eS2
  have n5a : n5 ≤ 100000 := by omega
  have c5a : c5 ≤ 9223372036854775807 := by unfold maxLen at hcm5; omega
  rw [← eS2] at hc5q
  clear eS2 rg S4' hA5 hn5 hc5 hr8 hr4 LQ
  by_cases h9 : n5 = 0
  · have gn : g = [] := List.eq_nil_of_length_eq_zero (by rw [← LG.out]; exact h9)
    have T10 : tdE l = 5 := by rw [T9.out, gn]; rfl
    subst h9
    obtain ⟨x0, x1, x2, x3, x4, x5, x6⟩ := X4.out
    have lt1 := F4.out.1
    have z0 := F4.out.2 0; have z1 := F4.out.2 1; have z2 := F4.out.2 2; have z3 := F4.out.2 3; have z4 := F4.out.2 4; have z5 := F4.out.2 5; have z6 := F4.out.2 6
    go_wp2_with fail
    obtain ⟨g0, g1, g2, g3, g4, g5, g6⟩ := Bx7.seven X4.out (.int .i64 0) (.slice none 0 0) (.slice none 0 0) (.slice none 0 0) (.slice none 0 0) (.slice none 0 0) (.string ⟨#[]⟩)
    exact bodyPost_ret (v := .tuple #[flz, .int .i64 5]) (by simp [results, Tryz.results14, go_sem, flz, g0, g1, g2, g3, g4, g5, g6]) rfl (DdP.no 5 T10 (by decide) (Up.seven U4.out (Nat.le_refl _) (.int .i64 0) (.slice none 0 0) (.slice none 0 0) (.slice none 0 0) (.slice none 0 0) (.slice none 0 0) (.string ⟨#[]⟩)))
  have gp : 0 < g.length := by rw [← LG.out]; omega
  obtain ⟨bg, og, rfl, hcell⟩ := RG.out gp
  have HC := Lib.hid hcell
  have n5p : ¬ (n5 : Int) = 0 := by omega
  have c0 := hcell 0 gp
  rw [Nat.add_zero] at c0
  have ltg := cell_lt c0
  by_cases h10 : g.getD 0 0 = 10
  rotate_left
  · have T10 : tdE l = 4 := by rw [T9.out, foot_0 gp h10]
    obtain ⟨yb, hyb⟩ : ∃ y : Int, ((g.getD 0 0).toNat : Int) = y := ⟨_, rfl⟩
    have hx : (yb != 10) = true := by
      rw [← hyb, bne_iff_ne]; intro e
      exact h10 (UInt8.toNat_inj.1 (by show (g.getD 0 0).toNat = 10; omega))
    rw [hyb] at c0
    clear h10 T9 hcell RFH hyb
    obtain ⟨x0, x1, x2, x3, x4, x5, x6⟩ := X4.out
    have lt1 := F4.out.1
    have z0 := F4.out.2 0; have z1 := F4.out.2 1; have z2 := F4.out.2 2; have z3 := F4.out.2 3; have z4 := F4.out.2 4; have z5 := F4.out.2 5; have z6 := F4.out.2 6
    go_wp2_with fail
    obtain ⟨g0, g1, g2, g3, g4, g5, g6⟩ := Bx7.seven X4.out (.int .i64 0) (.slice none 0 0) (.slice none 0 0) (.slice none 0 0) (.slice none 0 0) (.slice none 0 0) (.string ⟨#[]⟩)
    exact bodyPost_ret (v := .tuple #[flz, .int .i64 4]) (by simp [results, Tryz.results14, go_sem, flz, g0, g1, g2, g3, g4, g5, g6]) rfl (DdP.no 4 T10 (by decide) (Up.seven U4.out (Nat.le_refl _) (.int .i64 0) (.slice none 0 0) (.slice none 0 0) (.slice none 0 0) (.slice none 0 0) (.slice none 0 0) (.string ⟨#[]⟩)))
  rw [h10] at c0
  have H10 := Lib.hid h10
  clear h10 hcell
  replace c0 : W4.cell? ⟨bg, og, none⟩ = some (.int .u8 10) := c0
  go_upto_region 21 with (fail)
  go_wp2_with fail
  go_loopw [12] (fun i wr => ∃ k : Nat, 1 ≤ k ∧ k ≤ n5 ∧ i = .int .i64 k ∧ Up W4 wr ∧ ∀ j, 1 ≤ j → j < k → g.getD j 0 ≠ 10) (fun i _ => n5 - (intOf i).toNat)
  case atStart => exact ⟨1, Nat.le_refl _, by omega, rfl, Up.refl _, fun j h h' => by omega⟩
  case round =>
    obtain ⟨k, hk1, hkn, rfl, uk, hzk⟩ := hrel
    have UK := Lib.hid uk
    have HZ := Lib.hid hzk
    clear hzk uk c0
    by_cases hlt : k < n5
    · have hlt' : (k : Int) < (n5 : Int) := by omega
      have ck := UK.out.cell (HC.out k (by rw [← LG.out]; exact hlt))
      have ltk := cell_lt ck
      obtain ⟨y, hy⟩ : ∃ y, g.getD k 0 = y := ⟨_, rfl⟩
      rw [hy] at ck
      have HY := Lib.hid hy
      clear hy
      by_cases hx : y = 10
      · have hgk : g.getD k 0 = 10 := by rw [HY.out, hx]
        have FK := foot_k H10.out hk1 (by rw [← LG.out]; exact hlt) HZ.out hgk
        have T10 : Hid (tdE l = if k + 1 < n5 ∨ 101 < k then 4 else 0) := by unfold Hid; rw [T9.out, FK.1, ← LG.out]
        have FT := Lib.hid FK.2
        subst hx
        have hne : ¬ (k : Int) = (n5 : Int) := by omega
        have wk : IntKind.i64.wrap ((k : Int) + 1) = (k : Int) + 1 := IntWalk.i64_in _ (by omega)
        have U5 := Lib.hid (U4.out.trans UK.out)
        have X5 := Lib.hid (X4.out.up UK.out)
        have F5 := Lib.hid (F4.out.up UK.out)
        have H5 := Lib.hid (H4.out.up UK.out)
        have V5 := Lib.hid (V4.out.up UK.out)
        have Y5 := Lib.hid (Y4.out.up UK.out)
        clear FK hgk HZ HY T9 U4 X4 F4 H4 V4 Y4
        by_cases hb : k + 1 < n5
        · have T11 : tdE l = 4 := by rw [T10.out, if_pos (.inl hb)]
          have hb' : (k : Int) + 1 < (n5 : Int) := by omega
          clear T10 RFH
          obtain ⟨x0, x1, x2, x3, x4, x5, x6⟩ := X5.out
          have lt1 := F5.out.1
          have z0 := F5.out.2 0; have z1 := F5.out.2 1; have z2 := F5.out.2 2; have z3 := F5.out.2 3; have z4 := F5.out.2 4; have z5 := F5.out.2 5; have z6 := F5.out.2 6
          go_wp2_with fail
          obtain ⟨g0, g1, g2, g3, g4, g5, g6⟩ := Bx7.seven X5.out (.int .i64 0) (.slice none 0 0) (.slice none 0 0) (.slice none 0 0) (.slice none 0 0) (.slice none 0 0) (.string ⟨#[]⟩)
          exact bodyPost_ret (v := .tuple #[flz, .int .i64 4]) (by simp [results, Tryz.results14, go_sem, flz, g0, g1, g2, g3, g4, g5, g6]) rfl (DdP.no 4 T11 (by decide) (Up.seven U5.out (Nat.le_refl _) (.int .i64 0) (.slice none 0 0) (.slice none 0 0) (.slice none 0 0) (.slice none 0 0) (.slice none 0 0) (.string ⟨#[]⟩)))
        have hb' : ¬ (k : Int) + 1 < (n5 : Int) := by omega
        by_cases hc : 101 < k
        · have T11 : tdE l = 4 := by rw [T10.out, if_pos (.inr hc)]
          have hc' : (101 : Int) < (k : Int) := by omega
          clear T10 RFH
          obtain ⟨x0, x1, x2, x3, x4, x5, x6⟩ := X5.out
          have lt1 := F5.out.1
          have z0 := F5.out.2 0; have z1 := F5.out.2 1; have z2 := F5.out.2 2; have z3 := F5.out.2 3; have z4 := F5.out.2 4; have z5 := F5.out.2 5; have z6 := F5.out.2 6
          go_wp2_with fail
          obtain ⟨g0, g1, g2, g3, g4, g5, g6⟩ := Bx7.seven X5.out (.int .i64 0) (.slice none 0 0) (.slice none 0 0) (.slice none 0 0) (.slice none 0 0) (.slice none 0 0) (.string ⟨#[]⟩)
          exact bodyPost_ret (v := .tuple #[flz, .int .i64 4]) (by simp [results, Tryz.results14, go_sem, flz, g0, g1, g2, g3, g4, g5, g6]) rfl (DdP.no 4 T11 (by decide) (Up.seven U5.out (Nat.le_refl _) (.int .i64 0) (.slice none 0 0) (.slice none 0 0) (.slice none 0 0) (.slice none 0 0) (.slice none 0 0) (.string ⟨#[]⟩)))
        have hc' : ¬ (101 : Int) < (k : Int) := by omega
        have T11 := Lib.hid (show tdE l = 0 by rw [T10.out, if_neg (by omega)])
        clear T10
        obtain ⟨tt, htt⟩ : ∃ tt, footT g = tt := ⟨_, rfl⟩
        rw [htt] at FT
        have RF := RFH.out
        rw [htt] at RF
        have RF' := Lib.hid RF
        clear RFH RF htt
        obtain ⟨x0, x1, x2, x3, x4, x5, x6⟩ := X5.out
        obtain ⟨h0, _, _, _, _, _, _⟩ := H5.out
        obtain ⟨y0, y1, y2, y3, y4⟩ := Y5.out
        go_upto_region 28 with (fail)
        clear x0 x1 x2 x3 x4 x5 x6 h0 y0 y1 y2 y3 y4
        refine wp_region_still_tail 8 (by kernel_rfl) (by kernel_rfl) ?_
        have U6 : Hid (Up w ({ wr with drawn := wr.drawn + 1 } : World)) := Lib.hid (U5.out.drewN' 1)
        have X6 : Hid (Bx7 ({ wr with drawn := wr.drawn + 1 } : World) w.heap.size (.int .i64 0) (.slice none 0 0) (.slice none 0 0) (.slice none 0 0) (.slice none 0 0) (.slice none 0 0) (.string ⟨#[]⟩)) := Lib.hid (X5.out.up (Up.drewN wr 1))
        have F6 : Hid (Free ({ wr with drawn := wr.drawn + 1 } : World) w.heap.size) := Lib.hid (F5.out.up (Up.drewN wr 1))
        have H6 : Hid (HBox ({ wr with drawn := wr.drawn + 1 } : World) w1.heap.size ver2 k0 k1 k2 k3 k4 k5) := Lib.hid (H5.out.up (Up.drewN wr 1))
        have V6 : Hid (BkR ({ wr with drawn := wr.drawn + 1 } : World) (.agg #[.slice R0 r0 o0, .slice R1 r1 o1, .slice R2 r2 o2, .slice R3 r3 o3, .slice R4 r4 o4]) Y) := Lib.hid (V5.out.up (Up.drewN wr 1))
        have Y6 : Hid (Bx5 ({ wr with drawn := wr.drawn + 1 } : World) (w3.heap.size + 1) (.slice R0 r0 o0) (.slice R1 r1 o1) (.slice R2 r2 o2) (.slice R3 r3 o3) (.slice R4 r4 o4)) := Lib.hid (Y5.out.up (Up.drewN wr 1))
        have G6 : Hid (Rd ({ wr with drawn := wr.drawn + 1 } : World) (some ⟨bg, og, none⟩) g) := Lib.hid ((RG.out.up UK.out).up (Up.drewN wr 1))
        clear U5 X5 F5 H5 V5 Y5 ck ltk HC UK
        generalize ({ wr with drawn := wr.drawn + 1 } : World) = V at *
        have hk2 : (k : Int) ≤ (c5 : Int) := by omega
        have hk3 : (1 : Int) ≤ (k : Int) := by omega
        have CV := convert_at V bg (og + 1) (k - 1) (c5 - 1) ((g.drop 1).take (k - 1)) (by rw [List.length_take, List.length_drop, ← LG.out]; omega) ((G6.out.drop 1).take (k - 1))
        rw [← FT.out] at CV
        have c51 : ¬ c5 = 1 := by omega
        obtain ⟨x0, x1, x2, x3, x4, x5, x6⟩ := X6.out
        obtain ⟨lt6, fz⟩ := F6.out
        have z0 := fz 0; have z1 := fz 1; have z2 := fz 2; have z3 := fz 3; have z4 := fz 4; have z5 := fz 5; have z6 := fz 6
        clear fz
        obtain ⟨h0, _, _, _, _, _, _⟩ := H6.out
        obtain ⟨y0, y1, y2, y3, y4⟩ := Y6.out
        simp only [List.take_succ_cons, List.take_zero, List.drop_succ_cons, List.drop_zero]
        repeat still_step
        refine wpStill_nil ?_
        have ZQ := Lib.hid (Bx7.seven X6.out (.int .i64 ver2) (.slice R0 r0 o0) (.slice R1 r1 o1) (.slice R2 r2 o2) (.slice R3 r3 o3) (.slice R4 r4 o4) (.string tt))
        have BQ := Lib.hid (V6.out.gb (gb_seven (World.grownBy.refl V (some w.heap.size)) (.int .i64 ver2) (.slice R0 r0 o0) (.slice R1 r1 o1) (.slice R2 r2 o2) (.slice R3 r3 o3) (.slice R4 r4 o4) (.string tt)) N3.out hB2)
        have UQ := Lib.hid (Up.seven U6.out (Nat.le_refl _) (.int .i64 ver2) (.slice R0 r0 o0) (.slice R1 r1 o1) (.slice R2 r2 o2) (.slice R3 r3 o3) (.slice R4 r4 o4) (.string tt))
        go_wp2_with fail
        obtain ⟨g0, g1, g2, g3, g4, g5, g6⟩ := ZQ.out
        exact bodyPost_ret (v := .tuple #[.agg #[.int .i64 ver2, .slice R0 r0 o0, .slice R1 r1 o1, .slice R2 r2 o2, .slice R3 r3 o3, .slice R4 r4 o4, .string tt], .int .i64 0]) (by simp [results, Tryz.results14, go_sem, g0, g1, g2, g3, g4, g5, g6]) rfl (DdP.yes T11.out RF'.out ⟨_, _, _, _, _, rfl, BQ.out⟩ UQ.out)
      · have hx2 : ((y.toNat : Int) != 10) = true := by
          rw [bne_iff_ne]; intro e
          exact hx (UInt8.toNat_inj.1 (by show y.toNat = 10; omega))
        have HX := Lib.hid hx
        clear hx
        go_wp2_with fail
        go_roundw
        case rel => exact ⟨k + 1, by omega, by omega, by go_num, UK.out, fun j h h' => by
          rcases Nat.lt_or_ge j k with g' | g'
          · exact HZ.out j h g'
          · have : j = k := by omega
            rw [this, HY.out]; exact HX.out⟩
        case measure => simp [intOf]; omega
    · have hks : k = n5 := by omega
      subst hks
      have T10 : tdE l = 5 := by rw [T9.out]; exact foot_5 gp H10.out (fun j h h' => HZ.out j h (by rw [LG.out]; exact h'))
      have U5 := Lib.hid (U4.out.trans UK.out)
      have X5 := Lib.hid (X4.out.up UK.out)
      have F5 := Lib.hid (F4.out.up UK.out)
      clear T9 RFH HZ U4 X4 F4 H4 V4 Y4
      obtain ⟨x0, x1, x2, x3, x4, x5, x6⟩ := X5.out
      have lt1 := F5.out.1
      have z0 := F5.out.2 0; have z1 := F5.out.2 1; have z2 := F5.out.2 2; have z3 := F5.out.2 3; have z4 := F5.out.2 4; have z5 := F5.out.2 5; have z6 := F5.out.2 6
      go_wp2_with fail
      obtain ⟨g0, g1, g2, g3, g4, g5, g6⟩ := Bx7.seven X5.out (.int .i64 0) (.slice none 0 0) (.slice none 0 0) (.slice none 0 0) (.slice none 0 0) (.slice none 0 0) (.string ⟨#[]⟩)
      exact bodyPost_ret (v := .tuple #[flz, .int .i64 5]) (by simp [results, Tryz.results14, go_sem, flz, g0, g1, g2, g3, g4, g5, g6]) rfl (DdP.no 5 T10 (by decide) (Up.seven U5.out (Nat.le_refl _) (.int .i64 0) (.slice none 0 0) (.slice none 0 0) (.slice none 0 0) (.slice none 0 0) (.slice none 0 0) (.string ⟨#[]⟩)))
end Go.Proofs.YtaljddoenjgbfaaGreat
