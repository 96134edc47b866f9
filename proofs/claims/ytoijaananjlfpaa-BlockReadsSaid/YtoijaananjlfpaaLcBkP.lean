/-
  The program's block: cut, split.
-/
import Derived.Test.YtoijaananjlfpaaLcBkD1
import Derived.Test.YtoijaananjlfpaaLcOctN
import Derived.Test.YtoijaananjlfpaaLcHdrA
namespace Go.Proofs.Ytoijaananjlfpaa
open Go.ChangeShapes Go.WideShapes Go.ChangeAt Go.RowKit Lc

/-- The slice v reads as these bytes. -/
def Sb (w : World) (v : Value) (l : List UInt8) : Prop := ∃ A c, v = .slice A l.length c ∧ l.length ≤ c ∧ c ≤ maxLen ∧ Rd w A l
theorem Sb.up {w w' : World} {v : Value} {l : List UInt8} (h : Sb w v l) (u : Up w w') : Sb w' v l := by
  obtain ⟨A, c, e, h1, h2, r⟩ := h
  exact ⟨A, c, e, h1, h2, r.up u⟩

theorem Sb.form {w : World} {v : Value} {l : List UInt8} (h : Sb w v l) : ∃ A n c, v = .slice A n c := by
  obtain ⟨A, c, e, _⟩ := h
  exact ⟨A, _, c, e⟩
set_option maxHeartbeats 1000000 in
theorem cut_any (w0 : World) (v : Value) (l : List UInt8) (k : Nat) (w : World) (h : k ≤ l.length) (hv : Sb w0 v l) :
    Calls Try.prog 55 #[v, .int .i64 k] w fun e w' => ∃ v1 v2, e = .returned (.tuple #[v1, v2]) ∧ Sb w0 v1 (l.take k) ∧ Sb w0 v2 (l.drop k) ∧ Dr w w' := by
  obtain ⟨A, c, rfl, hc, hcm, hr⟩ := hv
  have S1 : Hid (Sb w0 (.slice A k c) (l.take k)) := Lib.hid ⟨A, c, by rw [List.length_take, Nat.min_eq_left h], by rw [List.length_take]; omega, hcm, hr.take k⟩
  have hcm' := hcm
  unfold maxLen at hcm
  have x1 : (0 : Int) ≤ (k : Int) := by omega
  have x2 : (k : Int) ≤ (c : Int) := by omega
  have x3 : (k : Int) ≤ (l.length : Int) := by omega
  by_cases hca : c = k
  · have hl : l.length = k := by omega
    have S2 : Hid (Sb w0 (.slice A 0 0) (l.drop k)) := Lib.hid ⟨A, 0, by rw [List.length_drop, hl, Nat.sub_self], by rw [List.length_drop]; omega, by unfold maxLen; omega, by rw [List.drop_eq_nil_of_le (by omega)]; exact Rd.nil _ _⟩
    rw [hl]
    subst hca
    clear hr hcm' hl hc h
    go_enter Try.func55, Try.ntmps55
    go_wp2
    go_quiet (fail)
    go_wp2
    go_ret2
    exact ⟨_, _, rfl, S1.out, by simpa using S2.out, Dr.drewN _ _⟩
  · have S2 : Hid (Sb w0 (.slice (Option.map (fun x => x.add k) A) (l.length - k) (c - k)) (l.drop k)) := Lib.hid ⟨_, c - k, by rw [List.length_drop], by rw [List.length_drop]; omega, by unfold maxLen at hcm' ⊢; omega, hr.cut k⟩
    generalize l.length = n at *
    clear hr hcm'
    go_enter Try.func55, Try.ntmps55
    go_wp2
    go_quiet (fail)
    go_wp2
    go_ret2
    exact ⟨_, _, rfl, S1.out, by simpa [hca] using S2.out, Dr.drewN _ _⟩

theorem cut_at (w0 : World) (v : Value) (l : List UInt8) (k : Nat) (K : Int) (w : World) (hK : K = (k : Int)) (h : k ≤ l.length) (hv : Sb w0 v l) :
    Calls Try.prog 55 #[v, .int .i64 K] w fun e w' => ∃ v1 v2, e = .returned (.tuple #[v1, v2]) ∧ Sb w0 v1 (l.take k) ∧ Sb w0 v2 (l.drop k) ∧ Dr w w' := by
  subst hK
  exact cut_any w0 v l k w h hv

set_option maxRecDepth 100000 in
set_option maxHeartbeats 4000000 in
theorem split_any (v : Value) (b : List UInt8) (ver : Int) (u s l t y c z : Nat) (hz : z = 4 ∨ z = 8) (w : World) (hu : u ≤ 256) (hs : s ≤ 256) (hl : l ≤ 5000) (ht : t ≤ 5000) (hy : y ≤ 256) (hc : c ≤ 256) (hb : t * z + t + y * 6 + c + l * (z + 4) + s + u ≤ b.length) (hvb : Sb w v b) :
    Calls Try.prog 42 #[v, hv ver u s l t y c, .int .i64 z] w fun e w' => ∃ v0 v1 v2 v3 v4 v5 v6, e = .returned (.agg #[v0, v1, v2, v3, v4, v5, v6]) ∧ Sb w v0 (pMo b t z) ∧ Sb w v1 (pJu b t z) ∧ Sb w v2 (pKi b t y z) ∧ Sb w v3 (pNa b t y c z) ∧ Sb w v4 (pLe b t y c l z) ∧ Sb w v5 (pSd b t y c l s z) ∧ Sb w v6 (pUt b t y c l s u z) ∧ Up w w' := by
  have SV := Lib.hid hvb
  have HB := Lib.hid hb
  clear hvb hb
  have q1 : ((t : Int) * (z : Int)) = ((t * z : Nat) : Int) := by simp
  have q2 : t * z ≤ 5000 * 8 := Nat.mul_le_mul ht (by omega)
  have q3 : (0 : Int) ≤ (t : Int) * (z : Int) := by rw [q1]; omega
  have q4 : (t : Int) * (z : Int) ≤ 200000 := by rw [q1]; omega
  have r1 : ((l : Int) * ((z : Int) + 4)) = ((l * (z + 4) : Nat) : Int) := by simp
  have r2 : l * (z + 4) ≤ 5000 * 12 := Nat.mul_le_mul hl (by omega)
  have r3 : (0 : Int) ≤ (l : Int) * ((z : Int) + 4) := by rw [r1]; omega
  have r4 : (l : Int) * ((z : Int) + 4) ≤ 200000 := by rw [r1]; omega
  have Q1 := Lib.hid q1
  have R1 := Lib.hid r1
  have hz8 : z ≤ 8 := by omega
  clear q1 r1 q2 r2 hz
  go_enter Try.func42, Try.ntmps42
  go_wp2_with fail
  refine (cut_at w _ (b) (t * z) _ _ (Q1.out) ?h0 SV.out).mono ?_
  case h0 => have := HB.out; (try simp only [List.length_drop]); omega
  rintro e w' ⟨a0, b0, rfl, s0, t0, n0, rfl⟩
  have S0 := Lib.hid s0
  have T0 := Lib.hid t0
  obtain ⟨A0, m0, c0, rfl⟩ := s0.form
  clear s0 t0
  go_wp2_with fail
  refine (cut_at w _ ((b).drop (t * z)) (t) _ _ (rfl) ?h1 T0.out).mono ?_
  case h1 => have := HB.out; (try simp only [List.length_drop]); omega
  rintro e w' ⟨a1, b1, rfl, s1, t1, n1, rfl⟩
  have S1 := Lib.hid s1
  have T1 := Lib.hid t1
  obtain ⟨A1, m1, c1, rfl⟩ := s1.form
  clear s1 t1
  go_wp2_with fail
  refine (cut_at w _ (((b).drop (t * z)).drop (t)) (y * 6) _ _ (by simp) ?h2 T1.out).mono ?_
  case h2 => have := HB.out; (try simp only [List.length_drop]); omega
  rintro e w' ⟨a2, b2, rfl, s2, t2, n2, rfl⟩
  have S2 := Lib.hid s2
  have T2 := Lib.hid t2
  obtain ⟨A2, m2, c2, rfl⟩ := s2.form
  clear s2 t2
  go_wp2_with fail
  refine (cut_at w _ ((((b).drop (t * z)).drop (t)).drop (y * 6)) (c) _ _ (rfl) ?h3 T2.out).mono ?_
  case h3 => have := HB.out; (try simp only [List.length_drop]); omega
  rintro e w' ⟨a3, b3, rfl, s3, t3, n3, rfl⟩
  have S3 := Lib.hid s3
  have T3 := Lib.hid t3
  obtain ⟨A3, m3, c3, rfl⟩ := s3.form
  clear s3 t3
  go_wp2_with fail
  refine (cut_at w _ (((((b).drop (t * z)).drop (t)).drop (y * 6)).drop (c)) (l * (z + 4)) _ _ (R1.out) ?h4 T3.out).mono ?_
  case h4 => have := HB.out; (try simp only [List.length_drop]); omega
  rintro e w' ⟨a4, b4, rfl, s4, t4, n4, rfl⟩
  have S4 := Lib.hid s4
  have T4 := Lib.hid t4
  obtain ⟨A4, m4, c4, rfl⟩ := s4.form
  clear s4 t4
  go_wp2_with fail
  refine (cut_at w _ ((((((b).drop (t * z)).drop (t)).drop (y * 6)).drop (c)).drop (l * (z + 4))) (s) _ _ (rfl) ?h5 T4.out).mono ?_
  case h5 => have := HB.out; (try simp only [List.length_drop]); omega
  rintro e w' ⟨a5, b5, rfl, s5, t5, n5, rfl⟩
  have S5 := Lib.hid s5
  have T5 := Lib.hid t5
  obtain ⟨A5, m5, c5, rfl⟩ := s5.form
  clear s5 t5
  go_wp2_with fail
  refine (cut_at w _ (((((((b).drop (t * z)).drop (t)).drop (y * 6)).drop (c)).drop (l * (z + 4))).drop (s)) (u) _ _ (rfl) ?h6 T5.out).mono ?_
  case h6 => have := HB.out; (try simp only [List.length_drop]); omega
  rintro e w' ⟨a6, b6, rfl, s6, t6, n6, rfl⟩
  have S6 := Lib.hid s6
  have T6 := Lib.hid t6
  obtain ⟨A6, m6, c6, rfl⟩ := s6.form
  clear s6 t6
  go_wp2_with fail
  refine bodyPost_ret (v := .agg #[.slice A0 m0 c0, .slice A1 m1 c1, .slice A2 m2 c2, .slice A3 m3 c3, .slice A4 m4 c4, .slice A5 m5 c5, .slice A6 m6 c6]) (by simp [results, Try.results42, go_sem]) rfl ?_
  refine ⟨_, _, _, _, _, _, _, rfl, ?_, ?_, ?_, ?_, ?_, ?_, ?_, ?_⟩
  · simpa only [pMo, slcB, List.drop_zero] using S0.out
  · simpa only [pJu, slcB, List.drop_drop] using S1.out
  · simpa only [pKi, slcB, List.drop_drop] using S2.out
  · simpa only [pNa, slcB, List.drop_drop] using S3.out
  · simpa only [pLe, slcB, List.drop_drop] using S4.out
  · simpa only [pSd, slcB, List.drop_drop] using S5.out
  · simpa only [pUt, slcB, List.drop_drop] using S6.out
  · clear S0 S1 S2 S3 S4 S5 S6 T0 T1 T2 T3 T4 T5 T6 SV HB
    repeat' (first | (with_reducible exact Up.refl _) | (with_reducible apply Up.drewN') | (with_reducible apply Up.setCell') | (with_reducible apply Up.alloc') | (simp only []; omega))
end Go.Proofs.Ytoijaananjlfpaa
