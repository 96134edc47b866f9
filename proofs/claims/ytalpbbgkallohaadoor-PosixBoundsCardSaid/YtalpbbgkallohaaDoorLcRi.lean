/-
  What is right, in the program: letters, digits, names, days, changes, kinds, rules.
-/
import Derived.Test.YtalpbbgkallohaaDoorLcLib8
import Derived.Test.YtalpbbgkallohaaDoorLcItoa8
import Derived.Test.YtalpbbgkallohaaDoorLcQui
import Derived.RegionTactic
namespace Go.Proofs.YtalpbbgkallohaaDoor
open Go.ChangeShapes Go.WideShapes Go.ChangeAt Go.RowKit Lc

theorem u8_le (a c : UInt8) : decide (a ≤ c) = decide ((a.toNat : Int) ≤ (c.toNat : Int)) := by
  rw [decide_eq_decide, UInt8.le_iff_toNat_le]; omega
theorem isL_i (c : UInt8) : isL c = ((decide ((97 : Int) ≤ (c.toNat : Int)) && decide ((c.toNat : Int) ≤ 122)) || (decide ((65 : Int) ≤ (c.toNat : Int)) && decide ((c.toNat : Int) ≤ 90))) := by
  unfold isL; rw [u8_le, u8_le, u8_le, u8_le]; rfl
theorem isD_i (c : UInt8) : isDg c = (decide ((48 : Int) ≤ (c.toNat : Int)) && decide ((c.toNat : Int) ≤ 57)) := by
  unfold isDg; rw [u8_le, u8_le]; rfl
set_option maxRecDepth 100000 in
theorem isD_any (c : UInt8) (w : World) : Calls Tryd.prog 57 #[.int .u8 c.toNat] w fun e w' => e = .returned (.bool (isDg c)) ∧ w = w' := by
  rw [isD_i]
  generalize (c.toNat : Int) = n
  go_enter Tryd.func57, Tryd.ntmps57
  go_wp2_with fail
  all_goals go_ret
  all_goals exact ⟨ret_b (by first | rfl | (rw [Bool.eq_iff_iff]; simp; try omega)), rfl⟩
set_option maxRecDepth 100000 in
theorem isL_any (c : UInt8) (w : World) : Calls Tryd.prog 56 #[.int .u8 c.toNat] w fun e w' => e = .returned (.bool (isL c)) ∧ w = w' := by
  rw [isL_i]
  generalize (c.toNat : Int) = n
  go_enter Tryd.func56, Tryd.ntmps56
  go_wp2_with fail
  all_goals go_ret
  all_goals exact ⟨ret_b (by first | rfl | (rw [Bool.eq_iff_iff]; simp; try omega)), rfl⟩
set_option maxRecDepth 100000 in
theorem within_any (n a b : Int) (w : World) : Calls Tryd.prog 43 #[.int .i64 n, .int .i64 a, .int .i64 b] w fun e w' => e = .returned (.bool (inB n a b)) ∧ w = w' := by
  unfold inB
  go_enter Tryd.func43, Tryd.ntmps43
  go_wp2_with fail
  all_goals go_ret
  all_goals exact ⟨ret_b (by first | rfl | (rw [Bool.eq_iff_iff]; simp; try omega)), rfl⟩

theorem tx_get (l : List UInt8) (k : Nat) (h : k < (tx l).size) : (tx l)[k]'h = l.getD k 0 := by
  have h2 : k < l.length := by rw [tx_size] at h; exact h
  show (tx l).data[k]'_ = _
  simp [tx, List.getD, h2]
theorem tw_in {p : UInt8 → Bool} : ∀ (l : List UInt8) (k : Nat), k < (l.takeWhile p).length → k < l.length ∧ p (l.getD k 0) = true
  | [], k, h => by simp at h
  | x :: l, k, h => by
    by_cases c : p x = true
    · simp only [List.takeWhile, c, List.length_cons] at h
      rcases k with _ | k
      · exact ⟨by simp, by simpa using c⟩
      · have := tw_in (p := p) l k (by omega)
        exact ⟨by simp; omega, by simpa using this.2⟩
    · simp [List.takeWhile, c] at h
theorem tw_out {p : UInt8 → Bool} : ∀ (l : List UInt8), (l.takeWhile p).length < l.length → p (l.getD (l.takeWhile p).length 0) = false
  | [], h => by simp at h
  | x :: l, h => by
    by_cases c : p x = true
    · simp only [List.takeWhile, c, List.length_cons] at h ⊢
      have := tw_out (p := p) l (by omega)
      simpa using this
    · simp [List.takeWhile, c]
theorem tw_le {p : UInt8 → Bool} (l : List UInt8) : (l.takeWhile p).length ≤ l.length := by
  have := congrArg List.length (tw_split (p := p) l)
  rw [List.length_append] at this; omega

set_option maxRecDepth 100000 in
set_option maxHeartbeats 1000000 in
theorem letters_any (l : List UInt8) (w : World) (hl : l.length ≤ maxLen) : Calls Tryd.prog 52 #[.string (tx l)] w fun e w' => e = .returned (.int .i64 ((ltr l).length : Nat)) ∧ w = w' := by
  have hin := Lib.hid (tw_in (p := isL) l)
  have hout := Lib.hid (tw_out (p := isL) l)
  have hle : (ltr l).length ≤ l.length := tw_le l
  have hsz := tx_size l
  have hg := Lib.hid (tx_get l)
  unfold maxLen at hl
  have e1 : (l.takeWhile isL).length = (ltr l).length := rfl
  rw [e1] at hin hout
  generalize (ltr l).length = m at *
  generalize tx l = s at *
  clear e1
  go_enter Tryd.func52, Tryd.ntmps52
  go_wp2_with fail
  go_loop [3] (fun i => ∃ k : Nat, k ≤ m ∧ i = .int .i64 k) (fun i => m - (intOf i).toNat)
  case atStart => exact ⟨0, Nat.zero_le _, rfl⟩
  case round =>
    obtain ⟨k, hk, rfl⟩ := hrel
    go_wp2_with (go_at_call 56; refine (isL_any _ _).mono ?_; rintro e w' ⟨rfl, rfl⟩)
    · have h1 : isL (s[k]'(by omega)) = true := by assumption
      have h0 : k < l.length := by assumption
      rw [hg.out] at h1
      have h2 : k < m := by
        rcases Nat.lt_or_ge k m with h | h
        · exact h
        · have e : k = m := by omega
          subst e
          rw [hout.out h0] at h1; cases h1
      go_round
      case rel => exact ⟨k + 1, by omega, by go_num⟩
      case measure => simp [intOf]; omega
    · have h1 : isL (s[k]'(by omega)) = false := by assumption
      rw [hg.out] at h1
      have e : k = m := by
        rcases Nat.lt_or_ge k m with h | h
        · rw [(hin.out k h).2] at h1; cases h1
        · omega
      subst e
      go_ret
      exact ⟨rfl, rfl⟩
    · have h0 : ¬ k < l.length := by omega
      have e : k = m := by omega
      subst e
      go_ret
      exact ⟨rfl, rfl⟩

/-! ### Values -/
def kA (k : Kd) : Array Value := #[.int .i64 k.off, .bool k.dst, .string (tx k.name)]
def cA (c : Ch) : Array Value := #[.int .i64 c.how, .int .i64 c.n, .int .i64 c.wk, .int .i64 c.wd, .int .i64 c.tm]
def rA (r : Ru) : Array Value := #[.int .i64 r.std.off, .bool r.std.dst, .string (tx r.std.name), .int .i64 r.dst.off, .bool r.dst.dst, .string (tx r.dst.name), .bool r.both,
  .int .i64 r.st.how, .int .i64 r.st.n, .int .i64 r.st.wk, .int .i64 r.st.wd, .int .i64 r.st.tm, .int .i64 r.en.how, .int .i64 r.en.n, .int .i64 r.en.wk, .int .i64 r.en.wd, .int .i64 r.en.tm]
theorem tx_toList (l : List UInt8) : (tx l).toList = l := by rw [ByteArray.toList_eq]; rfl
theorem kd_ext {k j : Kd} (h1 : k.off = j.off) (h2 : k.dst = j.dst) (h3 : k.name = j.name) : k = j := by
  cases k; cases j; simp_all
theorem ch_ext {c d : Ch} (h1 : c.how = d.how) (h2 : c.n = d.n) (h3 : c.wk = d.wk) (h4 : c.wd = d.wd) (h5 : c.tm = d.tm) : c = d := by
  cases c; cases d; simp_all
theorem ru_ext {r s : Ru} (h1 : r.std = s.std) (h2 : r.dst = s.dst) (h3 : r.both = s.both) (h4 : r.st = s.st) (h5 : r.en = s.en) : r = s := by
  cases r; cases s; simp_all
set_option maxHeartbeats 1000000 in
theorem ru_eql (r s : Ru) (w : World) : (binOp .eql 27 (.agg (rA r)) (.agg (rA s))).run Tryd.prog w = .ok (.bool (decide (r = s))) w := by
  by_cases h : r = s
  · subst h
    rw [decide_eq_true rfl]
    unfold rA
    go_simp
  · rw [decide_eq_false h]
    unfold rA
    go_simp
    rw [tx_toList, tx_toList, tx_toList, tx_toList]
    intro a1 a2 a3 b1 b2 b3 c d1 d2 d3 d4 d5 e1 e2 e3 e4 e5
    exact h (ru_ext (kd_ext a1 a2 a3) (kd_ext b1 b2 b3) c (ch_ext d1 d2 d3 d4 d5) (ch_ext e1 e2 e3 e4 e5))
theorem ru_neq (r s : Ru) (w : World) : (binOp .neq 27 (.agg (rA r)) (.agg (rA s))).run Tryd.prog w = .ok (.bool (!decide (r = s))) w := by
  have h := ru_eql r s w
  rw [run_eql_struct] at h
  rw [run_neq_struct]
  generalize (Op.equalIn 10000 27 (.agg (rA r)) (.agg (rA s))).run Tryd.prog w = x at h
  cases x with
  | ok b w1 =>
    simp only [Result.andThen_ok] at h ⊢
    injection h with h1 h2
    injection h1 with h1
    rw [h1, h2]
  | halt x w1 => cases h

theorem all_no {p : UInt8 → Bool} {l : List UInt8} {k : Nat} (h : k < l.length) (hp : p (l.getD k 0) = false) : l.all p = false := by
  rw [List.all_eq_false]
  refine ⟨l.getD k 0, ?_, by rw [hp]; decide⟩
  rw [List.getD_eq_getElem?_getD, List.getElem?_eq_getElem h]; exact List.getElem_mem _
theorem all_yes {p : UInt8 → Bool} {l : List UInt8} (h : ∀ j, j < l.length → p (l.getD j 0) = true) : l.all p = true := by
  rw [List.all_eq_true]
  intro x hx
  obtain ⟨j, hj, rfl⟩ := List.getElem_of_mem hx
  have := h j hj
  rw [List.getD_eq_getElem?_getD, List.getElem?_eq_getElem hj] at this; exact this

theorem u8_eq (c n : UInt8) : (c == n) = decide ((c.toNat : Int) = (n.toNat : Int)) := by
  rw [Bool.eq_iff_iff]
  simp only [beq_iff_eq, decide_eq_true_eq]
  rw [← UInt8.toNat_inj]; omega
theorem okS_i (c : UInt8) : okS c = (isL c || isDg c || decide ((c.toNat : Int) = 43) || decide ((c.toNat : Int) = 45)) := by
  unfold okS; rw [u8_eq, u8_eq]; rfl
set_option maxRecDepth 100000 in
set_option maxHeartbeats 2000000 in
theorem rightName_any (l : List UInt8) (w : World) (hl : l.length ≤ maxLen) : Calls Tryd.prog 42 #[.string (tx l)] w fun e w' => e = .returned (.bool (nameB l)) ∧ w = w' := by
  have hsz := tx_size l
  have hg := Lib.hid (tx_get l)
  have hno := Lib.hid (fun k => @all_no okS l k)
  have hyes := Lib.hid (@all_yes okS l)
  have hn : Hid (nameB l = (inB (l.length : Int) 3 20 && l.all okS)) := Lib.hid (by
    unfold nameB inB
    rw [show decide ((3 : Int) ≤ (l.length : Int)) = decide (3 ≤ l.length) by rw [decide_eq_decide]; omega, show decide ((l.length : Int) ≤ 20) = decide (l.length ≤ 20) by rw [decide_eq_decide]; omega])
  unfold maxLen at hl
  have W : ∀ w, _ := fun w => within_any (l.length : Int) 3 20 w
  cases hb : inB (l.length : Int) 3 20
  · have E : nameB l = false := by rw [hn.out, hb]; rfl
    rw [E]
    rw [hb] at W
    clear hn hb hno hyes hg
    generalize tx l = s at *
    go_enter Tryd.func42, Tryd.ntmps42
    go_wp2_with (go_at_call 43; refine (W _).mono ?_; rintro e w' ⟨rfl, rfl⟩)
    go_ret
    exact ⟨rfl, rfl⟩
  · have E : nameB l = l.all okS := by rw [hn.out, hb]; rfl
    rw [E]
    rw [hb] at W
    clear hn hb E
    generalize tx l = s at *
    have okD := Lib.hid okS_i
    go_enter Tryd.func42, Tryd.ntmps42
    go_wp2_with (go_at_call 43; refine (W _).mono ?_; rintro e w' ⟨rfl, rfl⟩)
    go_loop [10] (fun i => ∃ k : Nat, k ≤ l.length ∧ i = .int .i64 k ∧ ∀ j, j < k → okS (l.getD j 0) = true) (fun i => l.length - (intOf i).toNat)
    case atStart => exact ⟨0, Nat.zero_le _, rfl, fun j hj => absurd hj (Nat.not_lt_zero j)⟩
    case round =>
      obtain ⟨k, hk, rfl, hall⟩ := hrel
      have HA := Lib.hid hall
      clear hall W
      go_wp2_with (first | (go_at_call 56; refine (isL_any _ _).mono ?_; rintro e w' ⟨rfl, rfl⟩) | (go_at_call 57; refine (isD_any _ _).mono ?_; rintro e w' ⟨rfl, rfl⟩))
      all_goals first
        | (have hlt : k < l.length := by assumption
           have h1 : okS (s[k]'(by omega)) = true := by rw [okD.out]; simp_all
           rw [hg.out] at h1
           go_round
           case rel => exact ⟨k + 1, by omega, by go_num, fun j hj => by
             rcases Nat.lt_or_ge j k with h | h
             · exact HA.out j h
             · have : j = k := by omega
               subst this; exact h1⟩
           case measure => simp [intOf]; omega)
        | (have hlt : k < l.length := by assumption
           have h1 : okS (s[k]'(by omega)) = false := by rw [okD.out]; simp_all
           rw [hg.out] at h1
           rw [hno.out k hlt h1]
           go_ret
           exact ⟨rfl, rfl⟩)
        | (have e : k = l.length := by omega
           subst e
           rw [hyes.out HA.out]
           go_ret
           exact ⟨rfl, rfl⟩)

end Go.Proofs.YtalpbbgkallohaaDoor
