/-
  What is right, in the program: letters, digits, names, days, changes, kinds, rules.
-/
import Derived.Test.YtbneokgeochinaaDoorLcTx8
import Derived.Test.YtbneokgeochinaaDoorLcQui
import Derived.RegionTactic
namespace Go.Proofs.YtbneokgeochinaaDoor
open Go.ChangeShapes Go.WideShapes Go.ChangeAt Go.RowKit Lc

theorem u8_le (a c : UInt8) : decide (a ≤ c) = decide ((a.toNat : Int) ≤ (c.toNat : Int)) := by
  rw [decide_eq_decide, UInt8.le_iff_toNat_le]; omega
theorem isL_i (c : UInt8) : isL c = ((decide ((97 : Int) ≤ (c.toNat : Int)) && decide ((c.toNat : Int) ≤ 122)) || (decide ((65 : Int) ≤ (c.toNat : Int)) && decide ((c.toNat : Int) ≤ 90))) := by
  unfold isL; rw [u8_le, u8_le, u8_le, u8_le]; rfl
theorem isD_i (c : UInt8) : isDg c = (decide ((48 : Int) ≤ (c.toNat : Int)) && decide ((c.toNat : Int) ≤ 57)) := by
  unfold isDg; rw [u8_le, u8_le]; rfl
theorem tx_get (l : List UInt8) (k : Nat) (h : k < (tx l).size) : (tx l)[k]'h = l.getD k 0 := by
  have h2 : k < l.length := by rw [tx_size] at h; exact h
  show (tx l).data[k]'_ = _
  simp [tx, List.getD, h2]
theorem tw_in {p : UInt8 → Bool} : ∀ (l : List UInt8) (k : Nat), k < (l.takeWhile p).length → k < l.length ∧ p (l.getD k 0) = true
  | [], k, h => by simp at h
  | x :: l, k, h => by
    by_cases c : p x = true
    · simp only [List.takeWhile, c, List.length_cons] at h
      rcases k with _ | k
      · exact ⟨by simp, by simpa using c⟩
      · have := tw_in (p := p) l k (by omega)
        exact ⟨by simp; omega, by simpa using this.2⟩
    · simp [List.takeWhile, c] at h
theorem tw_out {p : UInt8 → Bool} : ∀ (l : List UInt8), (l.takeWhile p).length < l.length → p (l.getD (l.takeWhile p).length 0) = false
  | [], h => by simp at h
  | x :: l, h => by
    by_cases c : p x = true
    · simp only [List.takeWhile, c, List.length_cons] at h ⊢
      have := tw_out (p := p) l (by omega)
      simpa using this
    · simp [List.takeWhile, c]
theorem tw_le {p : UInt8 → Bool} (l : List UInt8) : (l.takeWhile p).length ≤ l.length := by
  have := congrArg List.length (tw_split (p := p) l)
  rw [List.length_append] at this; omega
def kA (k : Kd) : Array Value := #[.int .i64 k.off, .bool k.dst, .string (tx k.name)]
def cA (c : Ch) : Array Value := #[.int .i64 c.how, .int .i64 c.n, .int .i64 c.wk, .int .i64 c.wd, .int .i64 c.tm]
def rA (r : Ru) : Array Value := #[.int .i64 r.std.off, .bool r.std.dst, .string (tx r.std.name), .int .i64 r.dst.off, .bool r.dst.dst, .string (tx r.dst.name), .bool r.both,
  .int .i64 r.st.how, .int .i64 r.st.n, .int .i64 r.st.wk, .int .i64 r.st.wd, .int .i64 r.st.tm, .int .i64 r.en.how, .int .i64 r.en.n, .int .i64 r.en.wk, .int .i64 r.en.wd, .int .i64 r.en.tm]
theorem tx_toList (l : List UInt8) : (tx l).toList = l := by rw [ByteArray.toList_eq]; rfl
theorem kd_ext {k j : Kd} (h1 : k.off = j.off) (h2 : k.dst = j.dst) (h3 : k.name = j.name) : k = j := by
  cases k; cases j; simp_all
theorem ch_ext {c d : Ch} (h1 : c.how = d.how) (h2 : c.n = d.n) (h3 : c.wk = d.wk) (h4 : c.wd = d.wd) (h5 : c.tm = d.tm) : c = d := by
  cases c; cases d; simp_all
theorem ru_ext {r s : Ru} (h1 : r.std = s.std) (h2 : r.dst = s.dst) (h3 : r.both = s.both) (h4 : r.st = s.st) (h5 : r.en = s.en) : r = s := by
  cases r; cases s; simp_all
set_option maxHeartbeats 1000000 in
theorem ru_eql (r s : Ru) (w : World) : (binOp .eql 27 (.agg (rA r)) (.agg (rA s))).run Tryd.prog w = .ok (.bool (decide (r = s))) w := by
  by_cases h : r = s
  · subst h
    rw [decide_eq_true rfl]
    unfold rA
    go_simp
  · rw [decide_eq_false h]
    unfold rA
    go_simp
    rw [tx_toList, tx_toList, tx_toList, tx_toList]
    intro a1 a2 a3 b1 b2 b3 c d1 d2 d3 d4 d5 e1 e2 e3 e4 e5
    exact h (ru_ext (kd_ext a1 a2 a3) (kd_ext b1 b2 b3) c (ch_ext d1 d2 d3 d4 d5) (ch_ext e1 e2 e3 e4 e5))
theorem ru_neq (r s : Ru) (w : World) : (binOp .neq 27 (.agg (rA r)) (.agg (rA s))).run Tryd.prog w = .ok (.bool (!decide (r = s))) w := by
  have h := ru_eql r s w
  rw [run_eql_struct] at h
  rw [run_neq_struct]
  generalize (Op.equalIn 10000 27 (.agg (rA r)) (.agg (rA s))).run Tryd.prog w = x at h
  cases x with
  | ok b w1 =>
    simp only [Result.andThen_ok] at h ⊢
    injection h with h1 h2
    injection h1 with h1
    rw [h1, h2]
  | halt x w1 => cases h
theorem all_no {p : UInt8 → Bool} {l : List UInt8} {k : Nat} (h : k < l.length) (hp : p (l.getD k 0) = false) : l.all p = false := by
  rw [List.all_eq_false]
  refine ⟨l.getD k 0, ?_, by rw [hp]; decide⟩
  rw [List.getD_eq_getElem?_getD, List.getElem?_eq_getElem h]; exact List.getElem_mem _
theorem all_yes {p : UInt8 → Bool} {l : List UInt8} (h : ∀ j, j < l.length → p (l.getD j 0) = true) : l.all p = true := by
  rw [List.all_eq_true]
  intro x hx
  obtain ⟨j, hj, rfl⟩ := List.getElem_of_mem hx
  have := h j hj
  rw [List.getD_eq_getElem?_getD, List.getElem?_eq_getElem hj] at this; exact this
theorem u8_eq (c n : UInt8) : (c == n) = decide ((c.toNat : Int) = (n.toNat : Int)) := by
  rw [Bool.eq_iff_iff]
  simp only [beq_iff_eq, decide_eq_true_eq]
  rw [← UInt8.toNat_inj]; omega
theorem okS_i (c : UInt8) : okS c = (isL c || isDg c || decide ((c.toNat : Int) = 43) || decide ((c.toNat : Int) = 45)) := by
  unfold okS; rw [u8_eq, u8_eq]; rfl
end Go.Proofs.YtbneokgeochinaaDoor
