/-
  The document's block: Right.
-/
import Derived.Test.YtaljddoenjgbfaaGreatLcMs
import Derived.Test.YtaljddoenjgbfaaGreatLcMf
import Derived.Deep.CutRange
namespace Go.Proofs.YtaljddoenjgbfaaGreat
open Go.ChangeShapes Go.WideShapes Go.ChangeAt Go.RowKit Lc

/-- The first test. -/
def tst0 (z : Int) (n j l s u : Nat) : Bool := zB z && decide (1 ≤ n) && decide (n ≤ 256) && decide (j ≤ 5000) && decide (l ≤ 5000) && (decide (s = 0) || decide (s = n)) && (decide (u = 0) || decide (u = n))
/-- What is asked of a kind, and its marks. -/
def kOne (x : Blk) (i : Nat) : Bool := rkOne (x.ks.getD i k0) && (!x.ut.getD i false || x.sd.getD i false)
set_option maxRecDepth 100000 in
theorem rk_rm {x : Blk} {q0 q1 q2 q3 q4 : Nat} {z ver : Int} (h0 : x.ks.length = q0) (h1 : x.js.length = q1) (h2 : x.ls.length = q2) (h3 : x.sd.length = q3) (h4 : x.ut.length = q4) :
    (zB z && rkB x.ks && rmB x.sd x.ut x.ks.length && rjB x.js x.ks.length z && rlB x.ls z ver) =
    (tst0 z q0 q1 q2 q3 q4 && allB q0 (kOne x) && decide ((layN (x.ks.map Knd.name) q0).length ≤ 256) && allB q1 (rjOne x.js q0 z) && allB q2 (rlOne x.ls z ver)) := by
  have km : (decide (q4 = 0) || decide (q4 = q0)) = true → (allB q0 (fun i => rkOne (x.ks.getD i k0)) && allB q4 (fun i => !x.ut.getD i false || x.sd.getD i false)) = allB q0 (kOne x) := by
    intro h
    rw [Bool.eq_iff_iff]
    simp only [Bool.and_eq_true, allB_true, kOne]
    simp only [Bool.or_eq_true, decide_eq_true_eq] at h
    constructor
    · intro ⟨a, b⟩ i hi
      refine ⟨a i hi, ?_⟩
      rcases Nat.lt_or_ge i q4 with g | g
      · exact b i g
      · rw [getD_out (l := x.ut) (by omega)]; rfl
    · intro a
      exact ⟨fun i hi => (a i hi).1, fun i hi => (a i (by omega)).2⟩
  unfold rkB rmB rjB rlB tst0
  rw [h0, h1, h2, h3, h4]
  generalize hk : allB q0 (fun i => rkOne (x.ks.getD i k0)) = tk at *
  generalize hu : allB q4 (fun i => !x.ut.getD i false || x.sd.getD i false) = tu at *
  generalize allB q0 (kOne x) = tt at *
  generalize (decide (q4 = 0) || decide (q4 = q0)) = d4 at *
  generalize (decide (q3 = 0) || decide (q3 = q0)) = d3 at *
  generalize decide ((layN (x.ks.map Knd.name) q0).length ≤ 256) = dl at *
  generalize allB q1 (rjOne x.js q0 z) = dj at *
  generalize allB q2 (rlOne x.ls z ver) = de at *
  generalize decide (1 ≤ q0) = e1 at *
  generalize decide (q0 ≤ 256) = e2 at *
  generalize decide (q1 ≤ 5000) = e3 at *
  generalize decide (q2 ≤ 5000) = e4 at *
  generalize zB z = e0 at *
  cases d4
  · simp
  · rw [← km rfl]
    cases e0 <;> cases e1 <;> cases e2 <;> cases e3 <;> cases e4 <;> cases d3 <;> cases tk <;> cases tu <;> cases dl <;> cases dj <;> cases de <;> rfl
set_option maxRecDepth 100000 in
theorem tx_at {s : ByteArray} {m : Nat} (h : m < s.size) : (tx s).getD m 0 = s[m] := by
  have h' : m < s.data.toList.length := by rw [Array.length_toList]; exact h
  rw [List.getD_eq_getElem?_getD, List.getElem?_eq_getElem h']
  rfl
set_option maxRecDepth 100000 in
theorem noz_yes {s : ByteArray} (h : ∀ j, j < s.size → (tx s).getD j 0 ≠ 0) : noz s = true := by
  unfold noz
  rw [Bool.not_eq_true', ← Bool.not_eq_true, List.contains_iff_mem]
  intro hm
  obtain ⟨j, hj, e⟩ := List.mem_iff_getElem.1 hm
  have hj' : j < s.size := by rw [Array.length_toList] at hj; exact hj
  refine h j hj' ?_
  rw [List.getD_eq_getElem?_getD, List.getElem?_eq_getElem hj, e]; rfl
set_option maxRecDepth 100000 in
theorem noz_no {s : ByteArray} {m : Nat} (h : m < s.size) (e : (tx s).getD m 0 = 0) : noz s = false := by
  unfold noz
  rw [Bool.not_eq_false', List.contains_iff_mem]
  have h' : m < s.data.toList.length := by rw [Array.length_toList]; exact h
  rw [List.getD_eq_getElem?_getD, List.getElem?_eq_getElem h'] at e
  exact List.mem_iff_getElem.2 ⟨m, h', e⟩
set_option maxRecDepth 100000 in
theorem flip_same {f : FuncId} {args : Array Value} {w : World} {v : Value} (h : Calls Tryz.prog f args w fun e w' => e = .returned v ∧ w = w') : Calls Tryz.prog f args w fun e w' => e = .returned v ∧ w' = w :=
  h.mono fun _ _ ⟨he, hw⟩ => ⟨he, hw.symm⟩
set_option maxRecDepth 100000 in
theorem tst0_parts {z : Int} {n j l s u : Nat} (h : tst0 z n j l s u = true) : 1 ≤ n ∧ n ≤ 256 ∧ j ≤ 5000 ∧ l ≤ 5000 ∧ (s = 0 ∨ s = n) ∧ (u = 0 ∨ u = n) := by
  unfold tst0 at h
  simp only [Bool.and_eq_true, Bool.or_eq_true, decide_eq_true_eq] at h
  omega
set_option maxRecDepth 100000 in
set_option maxHeartbeats 8000000 in
theorem dright_any (v : Value) (x : Blk) (z ver : Int) (w : World) (hv : BkR w v x) :
    Calls Tryz.prog 16 #[v, .int .i64 z, .int .i64 ver] w fun e w' => e = .returned (.bool (rightB x z ver)) ∧ Up w w' := by
  obtain ⟨_, _, _, _, _, rfl, ⟨A0, c0, rfl, m0, n0, r0⟩, ⟨A1, c1, rfl, m1, n1, r1⟩, ⟨A2, c2, rfl, m2, n2, r2⟩, ⟨A3, c3, rfl, m3, n3, r3⟩, ⟨A4, c4, rfl, m4, n4, r4⟩⟩ := hv
  have E := Lib.hid (show rightB x z ver = (zB z && rkB x.ks && rmB x.sd x.ut x.ks.length && rjB x.js x.ks.length z && rlB x.ls z ver) from rfl)
  obtain ⟨q0, h0⟩ : ∃ q, x.ks.length = q := ⟨_, rfl⟩
  obtain ⟨q1, h1⟩ : ∃ q, x.js.length = q := ⟨_, rfl⟩
  obtain ⟨q2, h2⟩ : ∃ q, x.ls.length = q := ⟨_, rfl⟩
  obtain ⟨q3, h3⟩ : ∃ q, x.sd.length = q := ⟨_, rfl⟩
  obtain ⟨q4, h4⟩ : ∃ q, x.ut.length = q := ⟨_, rfl⟩
  rw [h0] at m0 ⊢
  rw [h1] at m1 ⊢
  rw [h2] at m2 ⊢
  rw [h3] at m3 ⊢
  rw [h4] at m4 ⊢
  replace E := Lib.hid (E.out.trans (rk_rm (z := z) (ver := ver) h0 h1 h2 h3 h4))
  obtain ⟨r, hr⟩ : ∃ r, rightB x z ver = r := ⟨_, rfl⟩
  rw [hr] at E ⊢
  clear hr
  have H0 := Lib.hid h0
  have H1 := Lib.hid h1
  have H2 := Lib.hid h2
  have H3 := Lib.hid h3
  have H4 := Lib.hid h4
  have R0 := Lib.hid r0
  have R1 := Lib.hid r1
  have R2 := Lib.hid r2
  have R3 := Lib.hid r3
  have R4 := Lib.hid r4
  have hq3 : q3 ≤ 9223372036854775807 := by unfold maxLen at n3; omega
  have hq4 : q4 ≤ 9223372036854775807 := by unfold maxLen at n4; omega
  clear h0 h1 h2 h3 h4 r0 r1 r2 r3 r4 n0 n1 n2 n3 n4 m0 m1 m2 m3 m4
  have K3 := fun w => dmarks_any A3 q3 c3 q0 w hq3
  have K4 := fun w => dmarks_any A4 q4 c4 q0 w hq4
  have BX := Lib.hid (Bx5.new w (.slice A0 q0 c0) (.slice A1 q1 c1) (.slice A2 q2 c2) (.slice A3 q3 c3) (.slice A4 q4 c4) 37)
  have U0 := Lib.hid (Up.alloc w (.cells #[.slice A0 q0 c0, .slice A1 q1 c1, .slice A2 q2 c2, .slice A3 q3 c3, .slice A4 q4 c4] 37))
  go_enter Tryz.func16, Tryz.ntmps16
  go_upto_region 2 with (fail)
  generalize w.alloc (.cells #[.slice A0 q0 c0, .slice A1 q1 c1, .slice A2 q2 c2, .slice A3 q3 c3, .slice A4 q4 c4] 37) = wa at *
  go_cut [7, 62] from 8 (fun s7 s62 wc => s7 = .int .i64 q0 ∧ s62 = .bool (!tst0 z q0 q1 q2 q3 q4) ∧ wc = wa)
  case first => as_aux_lemma =>
      obtain ⟨b0, b1, b2, b3, b4⟩ := BX.out
      have D : (Hid (z ≠ 4 ∧ z ≠ 8) ∧ (z != 4) = true ∧ (z != 8) = true) ∨ (Hid (zB z = true) ∧ ((z != 4) = false ∨ (z != 4) = true ∧ (z != 8) = false)) := by
        by_cases a : z = 4
        · exact .inr ⟨by unfold Hid; simp [zB, a], .inl (by simp [a])⟩
        · by_cases b : z = 8
          · exact .inr ⟨by unfold Hid; simp [zB, b], .inr ⟨by simp [a], by simp [b]⟩⟩
          · exact .inl ⟨⟨a, b⟩, by simp [a], by simp [b]⟩
      rcases D with ⟨a, a1, a2⟩ | ⟨a, a1 | ⟨a1, a2⟩⟩
      · have T : Hid (tst0 z q0 q1 q2 q3 q4 = false) := by unfold Hid tst0 zB; simp [a.out.1, a.out.2]
        generalize tst0 z q0 q1 q2 q3 q4 = t at *
        go_wp2_with fail
        go_meet
        case rel => exact ⟨rfl, by rw [T.out]; rfl, rfl⟩
      all_goals
        have T0 : Hid (tst0 z q0 q1 q2 q3 q4 = (decide (1 ≤ q0) && decide (q0 ≤ 256) && decide (q1 ≤ 5000) && decide (q2 ≤ 5000) && (decide (q3 = 0) || decide (q3 = q0)) && (decide (q4 = 0) || decide (q4 = q0)))) := by unfold Hid tst0; rw [a.out, Bool.true_and]
        generalize tst0 z q0 q1 q2 q3 q4 = t at *
        by_cases p1 : q0 < 1
        · go_wp2_with fail
          go_meet
          case rel => exact ⟨rfl, by rw [T0.out]; simp; omega, rfl⟩
        by_cases p2 : 256 < q0
        · go_wp2_with fail
          go_meet
          case rel => exact ⟨rfl, by rw [T0.out]; simp; omega, rfl⟩
        by_cases p3 : 5000 < q1
        · go_wp2_with fail
          go_meet
          case rel => exact ⟨rfl, by rw [T0.out]; simp; omega, rfl⟩
        by_cases p4 : 5000 < q2
        · go_wp2_with fail
          go_meet
          case rel => exact ⟨rfl, by rw [T0.out]; simp; omega, rfl⟩
        have T1 : Hid (t = ((decide (q3 = 0) || decide (q3 = q0)) && (decide (q4 = 0) || decide (q4 = q0)))) := by
          unfold Hid; rw [T0.out]; simp [show 1 ≤ q0 by omega, show q0 ≤ 256 by omega, show q1 ≤ 5000 by omega, show q2 ≤ 5000 by omega]
        generalize (decide (q3 = 0) || decide (q3 = q0)) = t3 at *
        generalize (decide (q4 = 0) || decide (q4 = q0)) = t4 at *
        cases t3
        · go_wp2_with (go_at_call 26; refine (K3 _).mono ?_; rintro e w' ⟨rfl, rfl⟩)
          go_meet
          case rel => exact ⟨rfl, by rw [T1.out]; simp, rfl⟩
        · go_wp2_with fail
          refine (K3 _).mono ?_; rintro e w' ⟨rfl, rfl⟩
          go_wp2_with fail
          refine (K4 _).mono ?_; rintro e w' ⟨rfl, rfl⟩
          go_wp2_with fail
          go_meet
          case rel => exact ⟨rfl, by rw [T1.out]; cases t4 <;> (simp <;> omega), rfl⟩
  case rest =>
    obtain ⟨rfl, rfl, rfl⟩ := hcut
    cases ht : tst0 z q0 q1 q2 q3 q4
    · have hf : Hid (r = false) := by unfold Hid; rw [E.out, ht]; rfl
      clear E K3 K4 ht
      go_wp2_with fail
      go_ret
      exact ⟨ret_b hf.out.symm, U0.out⟩
    · obtain ⟨p1, p2, p3, p4, p5, p6⟩ := tst0_parts ht
      replace E : Hid (r = (allB q0 (kOne x) && decide ((layN (x.ks.map Knd.name) q0).length ≤ 256) && allB q1 (rjOne x.js q0 z) && allB q2 (rlOne x.ls z ver))) := by unfold Hid; rw [E.out, ht, Bool.true_and]
      clear K3 K4 ht
      go_wp2_with fail
      go_loopw [8] (fun i wr => ∃ k : Nat, k ≤ q0 ∧ i = .int .i64 k ∧ Up wc wr ∧ ∀ j, j < k → kOne x j = true) (fun i _ => q0 - (intOf i).toNat)
      case atStart => exact ⟨0, Nat.zero_le _, rfl, Up.refl _, fun j hj => absurd hj (Nat.not_lt_zero j)⟩
      case round =>
        obtain ⟨k, hk, rfl, hu, hall⟩ := hrel
        have HA := Lib.hid hall
        have HU := Lib.hid hu
        clear hall hu
        by_cases hlt : k < q0
        · skip
          obtain ⟨b, o, rfl, c1, c2, c3⟩ := (R0.out.up (U0.out.trans HU.out)).knd (i := k) (by rw [H0.out]; exact hlt)
          obtain ⟨ko, e1⟩ : ∃ x', Hid ((x.ks.getD k k0).off = x') := ⟨_, rfl⟩
          obtain ⟨kd, e2⟩ : ∃ x', Hid ((x.ks.getD k k0).dst = x') := ⟨_, rfl⟩
          obtain ⟨kn, e3⟩ : ∃ x', Hid ((x.ks.getD k k0).name = x') := ⟨_, rfl⟩
          have RO : Hid (kOne x k = (decide (-2147483647 ≤ ko) && decide (ko ≤ 2147483647) && decide (kn.size < 256) && noz kn && (!x.ut.getD k false || x.sd.getD k false))) := by
            unfold Hid kOne rkOne; rw [e1.out, e3.out]
          rw [e1.out] at c1
          rw [e2.out] at c2
          rw [e3.out] at c3
          obtain ⟨b0, b1, b2, b3, b4⟩ := BX.out.up HU.out
          have x0 := cell_lt b0
          have x1 := cell_lt c1
          go_upto_region 8 with (fail)
          have UV : Hid (Up wr (wr.alloc (.cells #[.int .i64 ko, .bool kd, .string kn] 51))) := Up.alloc _ _
          have d0 : (wr.alloc (.cells #[.int .i64 ko, .bool kd, .string kn] 51)).cell? ⟨wr.heap.size, 0, none⟩ = some (.int .i64 ko) := by simp
          have d2 : (wr.alloc (.cells #[.int .i64 ko, .bool kd, .string kn] 51)).cell? ⟨wr.heap.size, 2, none⟩ = some (.string kn) := by simp
          have B5 := Lib.hid ((BX.out.up HU.out).up UV.out)
          have UW := Lib.hid (HU.out.trans UV.out)
          have lv : wr.heap.size < (wr.alloc (.cells #[.int .i64 ko, .bool kd, .string kn] 51)).heap.size := by simp
          clear c1 c2 c3 b0 b1 b2 b3 b4 x0 x1
          generalize wr.alloc (.cells #[.int .i64 ko, .bool kd, .string kn] 51) = V at *
          generalize wr.heap.size = g at *
          clear UV HU
          by_cases s1 : ko < -2147483647
          · as_aux_lemma =>
              have hf : Hid (r = false) := by
                unfold Hid; rw [E.out, allB_no (k := k) hlt (by rw [RO.out]; simp; omega)]; rfl
              clear HA RO
              go_wp2_with fail
              go_ret
              exact ⟨ret_b hf.out.symm, U0.out.trans UW.out⟩
          by_cases s2 : 2147483647 < ko
          · as_aux_lemma =>
              have hf : Hid (r = false) := by
                unfold Hid; rw [E.out, allB_no (k := k) hlt (by rw [RO.out]; simp; omega)]; rfl
              clear HA RO
              go_wp2_with fail
              go_ret
              exact ⟨ret_b hf.out.symm, U0.out.trans UW.out⟩
          by_cases s3 : 255 < kn.size
          · as_aux_lemma =>
              have hf : Hid (r = false) := by
                unfold Hid; rw [E.out, allB_no (k := k) hlt (by rw [RO.out]; simp; omega)]; rfl
              clear HA RO
              go_wp2_with fail
              go_ret
              exact ⟨ret_b hf.out.symm, U0.out.trans UW.out⟩
          have sz : kn.size ≤ 255 := by omega
          replace RO : Hid (kOne x k = (noz kn && (!x.ut.getD k false || x.sd.getD k false))) := by
            unfold Hid; rw [RO.out]; simp [show -2147483647 ≤ ko by omega, show ko ≤ 2147483647 by omega, show kn.size < 256 by omega]
          go_wp2_with fail
          clear s1 s2 s3 d0
          go_loopw [10] (fun i wi => ∃ m : Nat, m ≤ kn.size ∧ i = .int .i64 m ∧ wi = V ∧ ∀ j, j < m → (tx kn).getD j 0 ≠ 0) (fun i _ => kn.size - (intOf i).toNat)
          case atStart => exact ⟨0, Nat.zero_le _, rfl, rfl, fun j hj => absurd hj (Nat.not_lt_zero j)⟩
          case round =>
            obtain ⟨m, hm, rfl, rfl, hz⟩ := hrel
            have HZ := Lib.hid hz
            clear hz
            by_cases hl2 : m < kn.size
            · by_cases hx : (tx kn).getD m 0 = 0
              · as_aux_lemma =>
                  have hf : Hid (r = false) := by
                    unfold Hid; rw [E.out, allB_no (k := k) hlt (by rw [RO.out, noz_no hl2 hx]; rfl)]; rfl
                  have hx2 : ((kn[m].toNat : Int) == 0) = true := by rw [← tx_at hl2, hx]; rfl
                  clear HA RO HZ
                  go_wp2_with fail
                  go_ret
                  exact ⟨ret_b hf.out.symm, U0.out.trans UW.out⟩
              · have hx2 : ((kn[m].toNat : Int) == 0) = false := by
                  rw [← tx_at hl2, beq_eq_false_iff_ne]
                  intro h
                  exact hx (UInt8.toNat_inj.1 (by simpa using h))
                have HX := Lib.hid hx
                clear hx
                go_wp2_with fail
                go_roundw
                case rel => exact ⟨m + 1, by omega, by go_num, by trivial, fun j hj => by
                  rcases Nat.lt_or_ge j m with h | h
                  · exact HZ.out j h
                  · have : j = m := by omega
                    rw [this]; exact HX.out⟩
                case measure => simp [intOf]; omega
            · have hms : kn.size = m := by omega
              have hz1 : noz kn = true := noz_yes (fun j hj => HZ.out j (by omega))
              replace RO : Hid (kOne x k = (!x.ut.getD k false || x.sd.getD k false)) := by unfold Hid; rw [RO.out, hz1, Bool.true_and]
              clear hz1 HZ hl2
              obtain ⟨b0, b1, b2, b3, b4⟩ := B5.out
              have x0 := cell_lt b0
              have x4 : (k : Int) < (q0 : Int) := by omega
              have D4 : (Hid (x.ut.getD k false = false) ∧ q4 = 0) ∨ (q4 = q0 ∧ 0 < q4 ∧ ∃ b o, A4 = some ⟨b, o, none⟩ ∧ wr.cell? ⟨b, o + k, none⟩ = some (.bool (x.ut.getD k false))) := by
                rcases Nat.eq_zero_or_pos q4 with h | h
                · exact .inl ⟨getD_out (by rw [H4.out]; omega), h⟩
                · exact .inr ⟨by omega, h, (R4.out.up (U0.out.trans UW.out)).bol (i := k) (by rw [H4.out]; omega)⟩
              have D3 : (Hid (x.sd.getD k false = false) ∧ q3 = 0) ∨ (q3 = q0 ∧ 0 < q3 ∧ ∃ b o, A3 = some ⟨b, o, none⟩ ∧ wr.cell? ⟨b, o + k, none⟩ = some (.bool (x.sd.getD k false))) := by
                rcases Nat.eq_zero_or_pos q3 with h | h
                · exact .inl ⟨getD_out (by rw [H3.out]; omega), h⟩
                · exact .inr ⟨by omega, h, (R3.out.up (U0.out.trans UW.out)).bol (i := k) (by rw [H3.out]; omega)⟩
              rcases D4 with ⟨hu, rfl⟩ | ⟨h4q, h4p, bu, ou, rfl, cu⟩
              · as_aux_lemma =>
                  have HA' : Hid (∀ j, j < k + 1 → kOne x j = true) := snoc_all HA.out (by rw [RO.out, hu.out]; rfl)
                  clear HA D3 RO
                  go_wp2_with fail
                  go_roundw
                  case rel => exact ⟨k + 1, by omega, by go_num, UW.out, HA'.out⟩
                  case measure => simp [intOf]; omega
              · subst h4q
                have y4 := cell_lt cu
                cases hu : x.ut.getD k false
                · as_aux_lemma =>
                    have HA' : Hid (∀ j, j < k + 1 → kOne x j = true) := snoc_all HA.out (by rw [RO.out, hu]; rfl)
                    rw [hu] at cu
                    clear HA D3 RO hu
                    go_wp2_with fail
                    go_roundw
                    case rel => exact ⟨k + 1, by omega, by go_num, UW.out, HA'.out⟩
                    case measure => simp [intOf]; omega
                · rw [hu] at cu
                  rcases D3 with ⟨hs, rfl⟩ | ⟨h3q, h3p, bs, os, rfl, cs⟩
                  · as_aux_lemma =>
                      have hf : Hid (r = false) := by
                        unfold Hid; rw [E.out, allB_no (k := k) hlt (by rw [RO.out, hu, hs.out]; rfl)]; rfl
                      clear HA RO hu
                      go_wp2_with fail
                      go_ret
                      exact ⟨ret_b hf.out.symm, U0.out.trans UW.out⟩
                  · have y3 := cell_lt cs
                    cases hs : x.sd.getD k false
                    · as_aux_lemma =>
                        have hf : Hid (r = false) := by
                          unfold Hid; rw [E.out, allB_no (k := k) hlt (by rw [RO.out, hu, hs]; rfl)]; rfl
                        rw [hs] at cs
                        clear HA RO hu hs
                        go_wp2_with fail
                        go_ret
                        exact ⟨ret_b hf.out.symm, U0.out.trans UW.out⟩
                    · as_aux_lemma =>
                        have HA' : Hid (∀ j, j < k + 1 → kOne x j = true) := snoc_all HA.out (by rw [RO.out, hs]; simp)
                        rw [hs] at cs
                        clear HA RO hu hs
                        go_wp2_with fail
                        go_roundw
                        case rel => exact ⟨k + 1, by omega, by go_num, UW.out, HA'.out⟩
                        case measure => simp [intOf]; omega
        · have KA : Hid (allB q0 (kOne x) = true) := allB_true.2 fun j hj => HA.out j (by omega)
          obtain ⟨b0, b1, b2, b3, b4⟩ := BX.out.up HU.out
          have x0 := cell_lt b0
          have NS : Hid (∀ i, i < x.ks.length → (x.ks.getD i k0).name.size ≤ 255) := fun i hi => by
            have h := HA.out i (by rw [H0.out] at hi; omega)
            unfold kOne rkOne at h
            simp only [Bool.and_eq_true, decide_eq_true_eq] at h
            omega
          have DN := Lib.hid (fun w1 (u : Up w w1) => dnames_any A0 x.ks c0 w1 (by rw [H0.out]; exact p2) NS.out (R0.out.up u))
          rw [H0.out] at DN
          have UW := Lib.hid (U0.out.trans HU.out)
          have LB : Hid ((layN (x.ks.map Knd.name) q0).length ≤ 65536) := by
            have h := layN_le (x.ks.map Knd.name) q0 255 (fun i hi => by rw [getD_name (by rw [H0.out]; exact hi)]; exact NS.out i (by rw [H0.out]; exact hi))
            unfold Hid; omega
          clear HA NS
          go_wp2_with fail
          refine (DN.out _ UW.out).mono ?_; rintro e w2 ⟨v2, u2, rfl, ho2, hp2, hu2⟩
          obtain ⟨A', c', rfl, _, hcm, _, _⟩ := ho2.form
          have U2 := Lib.hid (UW.out.trans hu2)
          have B2 := Lib.hid ((BX.out.up HU.out).up hu2)
          obtain ⟨nl, hnl⟩ : ∃ n, (layN (x.ks.map Knd.name) q0).length = n := ⟨_, rfl⟩
          rw [hnl] at LB ⊢
          replace E : Hid (r = (decide (nl ≤ 256) && allB q1 (rjOne x.js q0 z) && allB q2 (rlOne x.ls z ver))) := by unfold Hid; rw [E.out, KA.out, Bool.true_and, hnl]
          have lb := LB.out
          clear hnl KA LB DN UW ho2 hp2
          by_cases h256 : 256 < nl
          · as_aux_lemma =>
              have hf : Hid (r = false) := by
                unfold Hid; rw [E.out, show decide (nl ≤ 256) = false by simp; omega]; rfl
              go_wp2_with fail
              go_ret
              exact ⟨ret_b hf.out.symm, U2.out⟩
          replace E : Hid (r = (allB q1 (rjOne x.js q0 z) && allB q2 (rlOne x.ls z ver))) := by
            unfold Hid; rw [E.out, show decide (nl ≤ 256) = true by simp; omega, Bool.true_and]
          clear b0 b1 b2 b3 b4 x0 HU BX U0 hu2
          go_wp2_with fail
          go_loopw [13] (fun i wr => ∃ k : Nat, k ≤ q1 ∧ i = .int .i64 k ∧ Up w2 wr ∧ ∀ j, j < k → rjOne x.js q0 z j = true) (fun i _ => q1 - (intOf i).toNat)
          case atStart => exact ⟨0, Nat.zero_le _, rfl, Up.refl _, fun j hj => absurd hj (Nat.not_lt_zero j)⟩
          case round =>
            obtain ⟨k, hk, rfl, hu, hall⟩ := hrel
            have HA := Lib.hid hall
            have HU := Lib.hid hu
            have BW := Lib.hid (B2.out.up hu)
            clear hall hu
            by_cases hlt : k < q1
            · skip
              obtain ⟨b, o, rfl, hcell⟩ := (R1.out.up (U2.out.trans HU.out)).jmp (i := k) (by rw [H1.out]; exact hlt)
              have HC := Lib.hid hcell
              obtain ⟨c1, c2⟩ := HC.out k (by rw [H1.out]; exact hlt)
              obtain ⟨jt, e1⟩ : ∃ x', Hid ((x.js.getD k j0).t = x') := ⟨_, rfl⟩
              obtain ⟨jk, e2⟩ : ∃ x', Hid ((x.js.getD k j0).k = x') := ⟨_, rfl⟩
              rw [e1.out] at c1
              rw [e2.out] at c2
              clear hcell
              obtain ⟨b0, b1, b2, b3, b4⟩ := BW.out
              have x0 := cell_lt b0
              have x1 := cell_lt c1
              have i1 : (k : Int) < (q1 : Int) := by omega
              go_upto_region 24 with (fail)
              have UA : Hid (Up wr (wr.alloc (.cells #[.int .i64 jt, .int .i64 jk] 70))) := Up.alloc _ _
              have d0 : (wr.alloc (.cells #[.int .i64 jt, .int .i64 jk] 70)).cell? ⟨wr.heap.size, 0, none⟩ = some (.int .i64 jt) := by simp
              have d1 : (wr.alloc (.cells #[.int .i64 jt, .int .i64 jk] 70)).cell? ⟨wr.heap.size, 1, none⟩ = some (.int .i64 jk) := by simp
              have lv : wr.heap.size < (wr.alloc (.cells #[.int .i64 jt, .int .i64 jk] 70)).heap.size := by simp
              replace BW := Lib.hid (BW.out.up UA.out)
              have UW := Lib.hid (HU.out.trans UA.out)
              have UV := Lib.hid (U2.out.trans UW.out)
              have PC : Hid (∀ m, k = m + 1 → (wr.alloc (.cells #[.int .i64 jt, .int .i64 jk] 70)).cell? ⟨b, o + m * 2, none⟩ = some (.int .i64 (x.js.getD m j0).t)) := fun m hm => UA.out.cell (HC.out m (by rw [H1.out]; omega)).1
              clear c1 c2 b0 b1 b2 b3 b4 x0 x1 HC HU
              generalize wr.alloc (.cells #[.int .i64 jt, .int .i64 jk] 70) = V at *
              generalize wr.heap.size = g at *
              clear UA
              obtain ⟨_, b1, _, _, _⟩ := BW.out
              have x0 := cell_lt b1
              have FZ := fun w => dfits_any jt z w
              by_cases h0 : k = 0
              · have RO : Hid (rjOne x.js q0 z k = (fitZ jt z && decide (0 ≤ jk) && decide (jk < q0))) := by
                  unfold Hid rjOne; rw [e1.out, e2.out, h0]; simp
                have hd : decide ((0 : Int) < (k : Int)) = false := by simp [h0]
                have hd2 : decide (0 < k) = false := by simp [h0]
                clear h0 PC
                by_cases s1 : jk < 0
                · as_aux_lemma =>
                    have g3 : decide (jk < 0) = true := decide_eq_true s1
                    have hf : Hid (r = false) := by
                      unfold Hid; rw [E.out, allB_no (k := k) hlt (by rw [RO.out]; simp; omega)]; rfl
                    clear HA RO
                    go_wp2_with fail
                    go_quiet ((exact Calls.quiet_of_same (flip_same (FZ _))))
                    go_wp2_with fail
                    go_ret
                    exact ⟨ret_b hf.out.symm, UV.out.drewN' _⟩
                have g3 : decide (jk < 0) = false := decide_eq_false s1
                by_cases s2 : (q0 : Int) ≤ jk
                · as_aux_lemma =>
                    have g4 : decide ((q0 : Int) ≤ jk) = true := decide_eq_true s2
                    have hf : Hid (r = false) := by
                      unfold Hid; rw [E.out, allB_no (k := k) hlt (by rw [RO.out]; simp; omega)]; rfl
                    clear HA RO
                    go_wp2_with fail
                    go_quiet ((exact Calls.quiet_of_same (flip_same (FZ _))))
                    go_wp2_with fail
                    go_ret
                    exact ⟨ret_b hf.out.symm, UV.out.drewN' _⟩
                have g4 : decide ((q0 : Int) ≤ jk) = false := decide_eq_false s2
                cases hz : fitZ jt z
                · as_aux_lemma =>
                    rw [hz] at FZ
                    have hf : Hid (r = false) := by
                      unfold Hid; rw [E.out, allB_no (k := k) hlt (by rw [RO.out]; rw [hz]; simp)]; rfl
                    clear HA RO hz
                    go_wp2_with fail
                    go_quiet ((exact Calls.quiet_of_same (flip_same (FZ _))))
                    go_wp2_with fail
                    go_ret
                    exact ⟨ret_b hf.out.symm, UV.out.drewN' _⟩
                · as_aux_lemma =>
                    rw [hz] at FZ
                    have HA' : Hid (∀ j, j < k + 1 → rjOne x.js q0 z j = true) := snoc_all HA.out (by rw [RO.out, hz]; simp; omega)
                    clear HA RO hz
                    go_wp2_with fail
                    go_quiet ((exact Calls.quiet_of_same (flip_same (FZ _))))
                    go_wp2_with fail
                    go_roundw
                    case rel => exact ⟨k + 1, by omega, by go_num, UW.out.drewN' _, HA'.out⟩
                    case measure => simp [intOf]; omega
              · obtain ⟨m, rfl⟩ : ∃ m, k = m + 1 := ⟨k - 1, by omega⟩
                have cp := PC.out m rfl
                obtain ⟨jp, e0⟩ : ∃ x', Hid ((x.js.getD m j0).t = x') := ⟨_, rfl⟩
                rw [e0.out] at cp
                have RO : Hid (rjOne x.js q0 z (m + 1) = (decide (jp < jt) && fitZ jt z && decide (0 ≤ jk) && decide (jk < q0))) := by
                  unfold Hid; rw [rjOne_succ, e0.out, e1.out, e2.out]
                have hd : decide ((0 : Int) < (m : Int) + 1) = true := by simp
                have y0 := cell_lt cp
                have y1 : (0 : Int) ≤ (m : Int) := by omega
                have y2 : (m : Int) < (q1 : Int) := by omega
                have y3 : IntKind.i64.wrap (m : Int) = (m : Int) := IntWalk.i64_in _ (by omega)
                clear h0 PC
                by_cases ho : jt ≤ jp
                · as_aux_lemma =>
                    have g2 : decide (jt ≤ jp) = true := decide_eq_true ho
                    have hf : Hid (r = false) := by
                      unfold Hid; rw [E.out, allB_no (k := m + 1) hlt (by rw [RO.out]; simp; omega)]; rfl
                    clear HA RO
                    go_wp2_with fail
                    go_quiet ((exact Calls.quiet_of_same (flip_same (FZ _))))
                    go_wp2_with fail
                    go_ret
                    exact ⟨ret_b hf.out.symm, UV.out.drewN' _⟩
                have g2 : decide (jt ≤ jp) = false := decide_eq_false ho
                by_cases s1 : jk < 0
                · as_aux_lemma =>
                    have g3 : decide (jk < 0) = true := decide_eq_true s1
                    have hf : Hid (r = false) := by
                      unfold Hid; rw [E.out, allB_no (k := m + 1) hlt (by rw [RO.out]; simp; omega)]; rfl
                    clear HA RO
                    go_wp2_with fail
                    go_quiet ((exact Calls.quiet_of_same (flip_same (FZ _))))
                    go_wp2_with fail
                    go_ret
                    exact ⟨ret_b hf.out.symm, UV.out.drewN' _⟩
                have g3 : decide (jk < 0) = false := decide_eq_false s1
                by_cases s2 : (q0 : Int) ≤ jk
                · as_aux_lemma =>
                    have g4 : decide ((q0 : Int) ≤ jk) = true := decide_eq_true s2
                    have hf : Hid (r = false) := by
                      unfold Hid; rw [E.out, allB_no (k := m + 1) hlt (by rw [RO.out]; simp; omega)]; rfl
                    clear HA RO
                    go_wp2_with fail
                    go_quiet ((exact Calls.quiet_of_same (flip_same (FZ _))))
                    go_wp2_with fail
                    go_ret
                    exact ⟨ret_b hf.out.symm, UV.out.drewN' _⟩
                have g4 : decide ((q0 : Int) ≤ jk) = false := decide_eq_false s2
                cases hz : fitZ jt z
                · as_aux_lemma =>
                    rw [hz] at FZ
                    have hf : Hid (r = false) := by
                      unfold Hid; rw [E.out, allB_no (k := m + 1) hlt (by rw [RO.out]; rw [hz]; simp)]; rfl
                    clear HA RO hz
                    go_wp2_with fail
                    go_quiet ((exact Calls.quiet_of_same (flip_same (FZ _))))
                    go_wp2_with fail
                    go_ret
                    exact ⟨ret_b hf.out.symm, UV.out.drewN' _⟩
                · as_aux_lemma =>
                    rw [hz] at FZ
                    have HA' : Hid (∀ j, j < m + 1 + 1 → rjOne x.js q0 z j = true) := snoc_all HA.out (by rw [RO.out, hz]; simp; omega)
                    clear HA RO hz
                    go_wp2_with fail
                    go_quiet ((exact Calls.quiet_of_same (flip_same (FZ _))))
                    go_wp2_with fail
                    go_roundw
                    case rel => exact ⟨m + 1 + 1, by omega, by go_num, UW.out.drewN' _, HA'.out⟩
                    case measure => simp [intOf]; omega
            · replace E : Hid (r = allB q2 (rlOne x.ls z ver)) := by
                unfold Hid; rw [E.out, allB_true.2 (fun j hj => HA.out j (by omega)), Bool.true_and]
              have U3 := Lib.hid (U2.out.trans HU.out)
              have B3 := BW
              obtain ⟨_, b1, _, _, _⟩ := BW.out
              have x0 := cell_lt b1
              go_wp2_with fail
              clear HA HU BW b1 x0 B2 U2
              generalize wr = w3 at *
              go_loopw [15, 16] (fun s i wr => ∃ k : Nat, k ≤ q2 ∧ i = .int .i64 k ∧ s = .int .i64 (pvC x.ls k) ∧ Up w3 wr ∧ ∀ j, j < k → rlOne x.ls z ver j = true) (fun _ i _ => q2 - (intOf i).toNat)
              case atStart => exact ⟨0, Nat.zero_le _, rfl, rfl, Up.refl _, fun j hj => absurd hj (Nat.not_lt_zero j)⟩
              case round =>
                obtain ⟨k, hk, rfl, rfl, hu, hall⟩ := hrel
                have HA := Lib.hid hall
                have HU := Lib.hid hu
                have BW := Lib.hid (B3.out.up hu)
                clear hall hu
                by_cases hlt : k < q2
                · skip
                  obtain ⟨b, o, eA, c1, c2⟩ := (R2.out.up (U3.out.trans HU.out)).lep (i := k) (by rw [H2.out]; exact hlt)
                  have PC : Hid (∀ m, k = m + 1 → wr.cell? ⟨b, o + m * 2, none⟩ = some (.int .i64 (x.ls.getD m l0).t)) := fun m hm => by
                    obtain ⟨b', o', eA', c1', _⟩ := (R2.out.up (U3.out.trans HU.out)).lep (i := m) (by rw [H2.out]; omega)
                    rw [eA] at eA'
                    injection eA' with eA'
                    injection eA' with h1 h2
                    subst h1 h2
                    exact c1'
                  subst eA
                  obtain ⟨lt, e1⟩ : ∃ x', Hid ((x.ls.getD k l0).t = x') := ⟨_, rfl⟩
                  obtain ⟨lk, e2⟩ : ∃ x', Hid ((x.ls.getD k l0).c = x') := ⟨_, rfl⟩
                  obtain ⟨pt, e3⟩ : ∃ x', Hid (pvT x.ls k = x') := ⟨_, rfl⟩
                  obtain ⟨pc, e4⟩ : ∃ x', Hid (pvC x.ls k = x') := ⟨_, rfl⟩
                  rw [e1.out] at c1
                  rw [e2.out] at c2
                  have q1' : -5000 ≤ pc ∧ pc ≤ 5000 := by have := pv_bd HA.out; rw [e4.out] at this; omega
                  obtain ⟨pc1, pc2⟩ := q1'
                  have RA := Lib.hid (rlOne_eq (z := z) (ver := ver) H2.out e1.out e2.out e3.out e4.out)
                  have NX : Hid (pvC x.ls (k + 1) = lk) := by unfold Hid; rw [pvC_succ, e2.out]
                  rw [e4.out]
                  obtain ⟨_, _, b2, _, _⟩ := BW.out
                  have x0 := cell_lt b2
                  have x1 := cell_lt c1
                  have i1 : (k : Int) < (q2 : Int) := by omega
                  go_upto_region 31 with (fail)
                  have UA : Hid (Up wr (wr.alloc (.cells #[.int .i64 lt, .int .i64 lk] 73))) := Up.alloc _ _
                  have d0 : (wr.alloc (.cells #[.int .i64 lt, .int .i64 lk] 73)).cell? ⟨wr.heap.size, 0, none⟩ = some (.int .i64 lt) := by simp
                  have d1 : (wr.alloc (.cells #[.int .i64 lt, .int .i64 lk] 73)).cell? ⟨wr.heap.size, 1, none⟩ = some (.int .i64 lk) := by simp
                  have lv : wr.heap.size < (wr.alloc (.cells #[.int .i64 lt, .int .i64 lk] 73)).heap.size := by simp
                  replace BW := Lib.hid (BW.out.up UA.out)
                  have UW := Lib.hid (HU.out.trans UA.out)
                  have UV := Lib.hid (U3.out.trans UW.out)
                  replace PC : Hid (∀ m, k = m + 1 → (wr.alloc (.cells #[.int .i64 lt, .int .i64 lk] 73)).cell? ⟨b, o + m * 2, none⟩ = some (.int .i64 (x.ls.getD m l0).t)) := fun m hm => UA.out.cell (PC.out m hm)
                  clear c1 c2 b2 x0 x1 HU
                  generalize wr.alloc (.cells #[.int .i64 lt, .int .i64 lk] 73) = V at *
                  generalize wr.heap.size = g at *
                  clear UA
                  obtain ⟨one, ho⟩ : ∃ t, Hid ((decide (lk = pc + 1) || decide (lk = pc - 1)) = t) := ⟨_, rfl⟩
                  obtain ⟨same, hs⟩ : ∃ t, Hid ((decide (ver = 4) && decide (0 < k) && decide (k + 1 = q2) && decide (lk = pc)) = t) := ⟨_, rfl⟩
                  have RO : Hid (rlOne x.ls z ver k = (decide (pt < lt) && fitZ lt z && (one || same))) := by unfold Hid; rw [RA.out, ho.out, hs.out]
                  clear RA
                  go_cut [18] from 177 to 260 (fun s18 wc => s18 = .bool one ∧ wc = V)
                  case first => as_aux_lemma =>
                      by_cases p : lk = pc + 1
                      · have p' : (lk == pc + 1) = true := by simp [p]
                        have p2 : Hid (one = true) := by unfold Hid; rw [← ho.out]; simp [p]
                        clear ho p
                        go_wp2_with fail
                        go_meet
                        case rel => exact ⟨by rw [p2.out], rfl⟩
                      · have p' : (lk == pc + 1) = false := by simp [p]
                        by_cases m : lk = pc - 1
                        · have m' : (lk == pc - 1) = true := by simp [m]
                          have p2 : Hid (one = true) := by unfold Hid; rw [← ho.out]; simp [m]
                          clear ho p m
                          go_wp2_with fail
                          go_meet
                          case rel => exact ⟨by rw [p2.out], rfl⟩
                        · have m' : (lk == pc - 1) = false := by simp [m]
                          have p2 : Hid (one = false) := by unfold Hid; rw [← ho.out]; simp [m, p]
                          clear ho p m
                          go_wp2_with fail
                          go_meet
                          case rel => exact ⟨by rw [p2.out], rfl⟩
                  case rest =>
                    obtain ⟨rfl, rfl⟩ := hcut
                    obtain ⟨_, _, b2, _, _⟩ := BW.out
                    have x0 := cell_lt b2
                    go_upto_region 32 with (fail)
                    go_cut [19] from 177 to 260 (fun s19 wd => s19 = .bool same ∧ wd = wc)
                    case first => as_aux_lemma =>
                        have D1 : (Hid (same = false) ∧ (ver == 4) = false) ∨ (ver == 4) = true ∧ ((Hid (same = false) ∧ decide (0 < k) = false ∧ decide ((0 : Int) < (k : Int)) = false) ∨ (decide (0 < k) = true ∧ decide ((0 : Int) < (k : Int)) = true) ∧ ((Hid (same = false) ∧ ((k : Int) == (q2 : Int) - 1) = false) ∨ ((k : Int) == (q2 : Int) - 1) = true ∧ ((Hid (same = false) ∧ (lk == pc) = false) ∨ (Hid (same = true) ∧ (lk == pc) = true)))) := by
                          rw [← hs.out]
                          by_cases v : ver = 4
                          · refine .inr ⟨by simp [v], ?_⟩
                            by_cases a : 0 < k
                            · refine .inr ⟨⟨by simp [a], by simp [a]⟩, ?_⟩
                              by_cases l : k + 1 = q2
                              · refine .inr ⟨by rw [beq_iff_eq]; omega, ?_⟩
                                by_cases s : lk = pc
                                · exact .inr ⟨by unfold Hid; simp [v, a, l, s], by simp [s]⟩
                                · exact .inl ⟨by unfold Hid; simp [s], by simp [s]⟩
                              · exact .inl ⟨by unfold Hid; simp [l], by rw [beq_eq_false_iff_ne]; omega⟩
                            · exact .inl ⟨by unfold Hid; simp [a], by simp [a], by simp; omega⟩
                          · exact .inl ⟨by unfold Hid; simp [v], by simp [v]⟩
                        rcases D1 with ⟨t, v'⟩ | ⟨v', ⟨t, a', a''⟩ | ⟨⟨a', a''⟩, ⟨t, l'⟩ | ⟨l', ⟨t, s'⟩ | ⟨t, s'⟩⟩⟩⟩
                        all_goals
                          go_wp2_with fail
                          go_meet
                          case rel => exact ⟨by rw [t.out], rfl⟩
                    case rest =>
                      obtain ⟨rfl, rfl⟩ := hcut
                      clear ho hs
                      have FZ := fun w => dfits_any lt z w
                      go_upto_region 33 with (fail)
                      by_cases h0 : k = 0
                      · replace RO : Hid (rlOne x.ls z ver k = (decide (-1 < lt) && fitZ lt z && (one || same))) := by
                          have : pt = -1 := by rw [← e3.out, h0]; rfl
                          unfold Hid; rw [RO.out, this]
                        have hd : decide ((0 : Int) < (k : Int)) = false := by simp [h0]
                        have hd2 : decide (0 < k) = false := by simp [h0]
                        have hd3 : ((k : Int) == 0) = true := by simp [h0]
                        clear h0 PC
                        by_cases ho : lt < 0
                        · as_aux_lemma =>
                            have g2 : decide (lt < 0) = true := decide_eq_true ho
                            have hf : Hid (r = false) := by
                              unfold Hid; rw [E.out]; exact allB_no (k := k) hlt (by rw [RO.out]; simp; omega)
                            clear HA RO NX
                            go_wp2_with fail
                            go_quiet ((exact Calls.quiet_of_same (flip_same (FZ _))))
                            go_wp2_with fail
                            go_ret
                            exact ⟨ret_b hf.out.symm, UV.out.drewN' _⟩
                        have g2 : decide (lt < 0) = false := decide_eq_false ho
                        have RO2 : Hid (rlOne x.ls z ver (k) = (fitZ lt z && (one || same))) := by
                          unfold Hid; rw [RO.out, show decide (-1 < lt) = true by simp; omega, Bool.true_and]
                        clear RO
                        cases one
                        · cases same
                          · as_aux_lemma =>
                              have hf : Hid (r = false) := by
                                unfold Hid; rw [E.out]; exact allB_no (k := k) hlt (by rw [RO2.out]; simp)
                              clear HA RO2 NX
                              go_wp2_with fail
                              go_quiet ((exact Calls.quiet_of_same (flip_same (FZ _))))
                              go_wp2_with fail
                              go_ret
                              exact ⟨ret_b hf.out.symm, UV.out.drewN' _⟩
                          · cases hz : fitZ lt z
                            · as_aux_lemma =>
                                rw [hz] at FZ
                                have hf : Hid (r = false) := by
                                  unfold Hid; rw [E.out]; exact allB_no (k := k) hlt (by rw [RO2.out, hz]; rfl)
                                clear HA RO2 hz NX
                                go_wp2_with fail
                                go_quiet ((exact Calls.quiet_of_same (flip_same (FZ _))))
                                go_wp2_with fail
                                go_ret
                                exact ⟨ret_b hf.out.symm, UV.out.drewN' _⟩
                            · as_aux_lemma =>
                                rw [hz] at FZ
                                have HA' : Hid (∀ j, j < k + 1 → rlOne x.ls z ver j = true) := snoc_all HA.out (by rw [RO2.out, hz]; simp)
                                clear HA RO2 hz
                                go_wp2_with fail
                                go_quiet ((exact Calls.quiet_of_same (flip_same (FZ _))))
                                go_wp2_with fail
                                go_roundw
                                case rel => exact ⟨k + 1, by omega, by go_num, by rw [NX.out], UW.out.drewN' _, HA'.out⟩
                                case measure => simp [intOf]; omega
                        · cases hz : fitZ lt z
                          · as_aux_lemma =>
                              rw [hz] at FZ
                              have hf : Hid (r = false) := by
                                unfold Hid; rw [E.out]; exact allB_no (k := k) hlt (by rw [RO2.out, hz]; rfl)
                              clear HA RO2 hz NX
                              go_wp2_with fail
                              go_quiet ((exact Calls.quiet_of_same (flip_same (FZ _))))
                              go_wp2_with fail
                              go_ret
                              exact ⟨ret_b hf.out.symm, UV.out.drewN' _⟩
                          · as_aux_lemma =>
                              rw [hz] at FZ
                              have HA' : Hid (∀ j, j < k + 1 → rlOne x.ls z ver j = true) := snoc_all HA.out (by rw [RO2.out, hz]; simp)
                              clear HA RO2 hz
                              go_wp2_with fail
                              go_quiet ((exact Calls.quiet_of_same (flip_same (FZ _))))
                              go_wp2_with fail
                              go_roundw
                              case rel => exact ⟨k + 1, by omega, by go_num, by rw [NX.out], UW.out.drewN' _, HA'.out⟩
                              case measure => simp [intOf]; omega
                      · obtain ⟨m, rfl⟩ : ∃ m, k = m + 1 := ⟨k - 1, by omega⟩
                        have cp := PC.out m rfl
                        have ep : (x.ls.getD m l0).t = pt := by rw [← pvT_succ, e3.out]
                        rw [ep] at cp
                        have hd : decide ((0 : Int) < (m : Int) + 1) = true := by simp
                        have hd3 : ((m : Int) + 1 == 0) = false := by simp; omega
                        have y0 := cell_lt cp
                        have y1 : (0 : Int) ≤ (m : Int) := by omega
                        have y2 : (m : Int) < (q2 : Int) := by omega
                        have y3 : IntKind.i64.wrap (m : Int) = (m : Int) := IntWalk.i64_in _ (by omega)
                        clear h0 PC ep
                        by_cases ho : lt ≤ pt
                        · as_aux_lemma =>
                            have g2 : decide (lt ≤ pt) = true := decide_eq_true ho
                            have hf : Hid (r = false) := by
                              unfold Hid; rw [E.out]; exact allB_no (k := m + 1) hlt (by rw [RO.out]; simp; omega)
                            clear HA RO NX
                            go_wp2_with fail
                            go_quiet ((exact Calls.quiet_of_same (flip_same (FZ _))))
                            go_wp2_with fail
                            go_ret
                            exact ⟨ret_b hf.out.symm, UV.out.drewN' _⟩
                        have g2 : decide (lt ≤ pt) = false := decide_eq_false ho
                        have RO2 : Hid (rlOne x.ls z ver (m + 1) = (fitZ lt z && (one || same))) := by
                          unfold Hid; rw [RO.out, show decide (pt < lt) = true by simp; omega, Bool.true_and]
                        clear RO
                        cases one
                        · cases same
                          · as_aux_lemma =>
                              have hf : Hid (r = false) := by
                                unfold Hid; rw [E.out]; exact allB_no (k := m + 1) hlt (by rw [RO2.out]; simp)
                              clear HA RO2 NX
                              go_wp2_with fail
                              go_quiet ((exact Calls.quiet_of_same (flip_same (FZ _))))
                              go_wp2_with fail
                              go_ret
                              exact ⟨ret_b hf.out.symm, UV.out.drewN' _⟩
                          · cases hz : fitZ lt z
                            · as_aux_lemma =>
                                rw [hz] at FZ
                                have hf : Hid (r = false) := by
                                  unfold Hid; rw [E.out]; exact allB_no (k := m + 1) hlt (by rw [RO2.out, hz]; rfl)
                                clear HA RO2 hz NX
                                go_wp2_with fail
                                go_quiet ((exact Calls.quiet_of_same (flip_same (FZ _))))
                                go_wp2_with fail
                                go_ret
                                exact ⟨ret_b hf.out.symm, UV.out.drewN' _⟩
                            · as_aux_lemma =>
                                rw [hz] at FZ
                                have HA' : Hid (∀ j, j < m + 1 + 1 → rlOne x.ls z ver j = true) := snoc_all HA.out (by rw [RO2.out, hz]; simp)
                                clear HA RO2 hz
                                go_wp2_with fail
                                go_quiet ((exact Calls.quiet_of_same (flip_same (FZ _))))
                                go_wp2_with fail
                                go_roundw
                                case rel => exact ⟨m + 1 + 1, by omega, by go_num, by rw [NX.out], UW.out.drewN' _, HA'.out⟩
                                case measure => simp [intOf]; omega
                        · cases hz : fitZ lt z
                          · as_aux_lemma =>
                              rw [hz] at FZ
                              have hf : Hid (r = false) := by
                                unfold Hid; rw [E.out]; exact allB_no (k := m + 1) hlt (by rw [RO2.out, hz]; rfl)
                              clear HA RO2 hz NX
                              go_wp2_with fail
                              go_quiet ((exact Calls.quiet_of_same (flip_same (FZ _))))
                              go_wp2_with fail
                              go_ret
                              exact ⟨ret_b hf.out.symm, UV.out.drewN' _⟩
                          · as_aux_lemma =>
                              rw [hz] at FZ
                              have HA' : Hid (∀ j, j < m + 1 + 1 → rlOne x.ls z ver j = true) := snoc_all HA.out (by rw [RO2.out, hz]; simp)
                              clear HA RO2 hz
                              go_wp2_with fail
                              go_quiet ((exact Calls.quiet_of_same (flip_same (FZ _))))
                              go_wp2_with fail
                              go_roundw
                              case rel => exact ⟨m + 1 + 1, by omega, by go_num, by rw [NX.out], UW.out.drewN' _, HA'.out⟩
                              case measure => simp [intOf]; omega
                · have hf : Hid (r = true) := by unfold Hid; rw [E.out]; exact allB_true.2 (fun j hj => HA.out j (by omega))
                  obtain ⟨_, _, b2, _, _⟩ := BW.out
                  have x0 := cell_lt b2
                  go_wp2_with fail
                  go_ret
                  exact ⟨ret_b hf.out.symm, U3.out.trans HU.out⟩
end Go.Proofs.YtaljddoenjgbfaaGreat
