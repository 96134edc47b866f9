/-
  The program's way to what is in force: the last start and the last end not behind a moment, of the years that there are (layer 9, plain, of no program).
-/
import Derived.Test.YtbneokgeochinaaDoorLcRy3
namespace Go.Proofs.YtbneokgeochinaaDoor
open Go Lc

/-- The years that are asked. -/
def yrs (y : Int) : List Int := [y - 1, y, y + 1].filter yrB
/-- The last one that is not behind t. -/
def lastP (l : List Int) (t : Int) : Option Int := l.reverse.find? fun x => decide (x ≤ t)
/-- What the program finds. -/
def pIn (r : Ru) (t y : Int) : Bool :=
  match lastP ((yrs y).map (tnS r)) t, lastP ((yrs y).map (tnE r)) t with
  | none, none => decide (((yrs y).map (tnE r)).getD 0 0 < ((yrs y).map (tnS r)).getD 0 0)
  | none, some _ => false
  | some _, none => true
  | some a, some b => decide (b ≤ a)

/-- What is found among the f n of P. -/
structure LastOf (P : Int → Prop) (f : Int → Int) (t : Int) (o : Option Int) : Prop where
  no : o = none → ∀ n, P n → t < f n
  le : ∀ x, o = some x → x ≤ t
  hit : ∀ x, o = some x → ∃ n, P n ∧ f n = x
  all : ∀ x, o = some x → ∀ n, P n → f n ≤ t → f n ≤ x
theorem lastP_of {l : List Int} {f : Int → Int} (h : (l.map f).Pairwise (· < ·)) (t : Int) : LastOf (· ∈ l) f t (lastP (l.map f) t) := by
  unfold lastP
  refine ⟨fun hn n hm => ?_, fun x hx => ?_, fun x hx => ?_, fun x hx n hm hle => ?_⟩
  · have := List.find?_eq_none.1 hn (f n) (List.mem_reverse.2 (List.mem_map_of_mem hm))
    simpa using this
  · have := List.find?_some hx
    simpa using this
  · have := List.mem_of_find?_eq_some hx
    rw [List.mem_reverse, List.mem_map] at this
    exact this
  · obtain ⟨_, as, bs, e, hq⟩ := List.find?_eq_some_iff_append.1 hx
    have e2 : l.map f = bs.reverse ++ x :: as.reverse := by
      have := congrArg List.reverse e
      simpa using this
    have hm2 : f n ∈ l.map f := List.mem_map_of_mem hm
    rw [e2] at hm2 h
    rw [List.pairwise_append] at h
    rcases List.mem_append.1 hm2 with c | c
    · exact Int.le_of_lt (h.2.2 _ c _ (List.mem_cons_self ..))
    · rcases List.mem_cons.1 c with c | c
      · exact Int.le_of_eq c
      · have := hq _ (List.mem_reverse.1 c)
        simp at this
        omega
theorem Inv3.iff {r : Ru} {t : Int} {P Q : Int → Prop} {z : As} (h : Inv3 r t P z) (e : ∀ m, P m ↔ Q m) : Inv3 r t Q z := by
  have : P = Q := funext fun m => propext (e m)
  rw [← this]; exact h
theorem stY_none {r : Ru} {t n : Int} {s : As} (h : okT r n = false) : stY r t n s = s := by unfold stY; rw [h]; rfl
/-- The document's state behind the years. -/
theorem in_yrs {r : Ru} {t y : Int} (hr : rightB r true = true) (hb : r.both = true) (hy : yrB y = true) :
    ∃ z : As, inDst r t y = ends3 z ∧ Inv3 r t (· ∈ yrs y) z ∧ z.some = true := by
  have ok : ∀ n, okT r n = yrB n := fun n => by unfold okT; rw [hr, hb]; rfl
  have step : ∀ (n : Int) (P : Int → Prop) (z : As), Inv3 r t P z → Inv3 r t (fun m => P m ∨ (m = n ∧ yrB n = true)) (stY r t n z) := fun n P z h => by
    cases c : yrB n
    · rw [stY_none (by rw [ok, c])]
      exact h.iff fun m => by simp
    · exact (h.step (by rw [ok, c])).1.iff fun m => by simp
  have a := step (y - 1) _ _ (Inv3.start r t)
  have b := (a.step (n := y) (by rw [ok, hy]))
  have s1 : (stY r t (y + 1) (stY r t y (stY r t (y - 1) as0))).some = true := by
    cases c : yrB (y + 1)
    · rw [stY_none (by rw [ok, c])]; exact b.2
    · exact (b.1.step (by rw [ok, c])).2
  have c := step (y + 1) _ _ b.1
  refine ⟨_, rfl, c.iff fun m => ?_, s1⟩
  unfold yrs
  rw [List.mem_filter]
  simp only [List.mem_cons, List.not_mem_nil, or_false, false_or]
  constructor
  · rintro ((⟨rfl, h⟩ | rfl) | ⟨rfl, h⟩)
    · exact ⟨.inl rfl, h⟩
    · exact ⟨.inr (.inl rfl), hy⟩
    · exact ⟨.inr (.inr rfl), h⟩
  · rintro ⟨rfl | rfl | rfl, h⟩
    · exact .inl (.inl ⟨rfl, h⟩)
    · exact .inl (.inr rfl)
    · exact .inr ⟨rfl, h⟩
/-- The years' moments rise. -/
theorem yrs_rise {f : Int → Int} (h : ∀ n, f n < f (n + 1)) (y : Int) : ((yrs y).map f).Pairwise (· < ·) := by
  have h1 := h (y - 1)
  have h2 := h y
  rw [show y - 1 + 1 = y by omega] at h1
  unfold yrs
  cases a : yrB (y - 1) <;> cases b : yrB y <;> cases c : yrB (y + 1) <;> simp [List.filter, a, b, c] <;> omega
/-- The first of them is the least one. -/
theorem yrs_first {f : Int → Int} (h : ∀ n, f n < f (n + 1)) {y : Int} (hy : yrB y = true) : (∃ n, n ∈ yrs y ∧ f n = ((yrs y).map f).getD 0 0) ∧ ∀ n, n ∈ yrs y → ((yrs y).map f).getD 0 0 ≤ f n := by
  have R := yrs_rise h y
  have ne : yrs y ≠ [] := by
    have : y ∈ yrs y := by unfold yrs; rw [List.mem_filter]; exact ⟨by simp, hy⟩
    intro e; rw [e] at this; cases this
  cases hl : yrs y with
  | nil => exact absurd hl ne
  | cons a l =>
    rw [hl] at R
    simp only [List.map_cons, List.pairwise_cons] at R
    simp only [List.map_cons, List.getD_cons_zero]
    refine ⟨⟨a, List.mem_cons_self .., rfl⟩, fun n hn => ?_⟩
    rcases List.mem_cons.1 hn with rfl | hn
    · exact Int.le_refl _
    · exact Int.le_of_lt (R.1 _ (List.mem_map_of_mem hn))
theorem pIn_eq {r : Ru} {t y : Int} (hr : rightB r true = true) (hb : r.both = true) (hy : yrB y = true) : pIn r t y = inDst r t y := by
  have rs : ∀ n, tnS r n < tnS r (n + 1) := fun n => by have := (tn_step n hr hb).1; omega
  have re : ∀ n, tnE r n < tnE r (n + 1) := fun n => by have := (tn_step n hr hb).2; omega
  obtain ⟨z, e, iv, hs⟩ := in_yrs (t := t) hr hb hy
  have ls := lastP_of (yrs_rise rs y) t
  have le := lastP_of (yrs_rise re y) t
  have fs := yrs_first rs hy
  have fe := yrs_first re hy
  rw [e]
  unfold pIn ends3
  obtain ⟨il, jf⟩ := iv
  generalize ((yrs y).map (tnS r)).getD 0 0 = S0 at *
  generalize ((yrs y).map (tnE r)).getD 0 0 = E0 at *
  generalize tnS r = S at *
  generalize tnE r = E at *
  generalize lastP ((yrs y).map S) t = os at *
  generalize lastP ((yrs y).map E) t = oe at *
  obtain ⟨any, last, dst, som, first, std⟩ := z
  simp only at il jf hs ⊢
  subst hs
  have H : any = true → (dst = true ∧ ∃ n, n ∈ yrs y ∧ S n = last) ∨ (dst = false ∧ ∃ n, n ∈ yrs y ∧ E n = last) := il.hit
  cases os with
  | none =>
    have n1 := ls.no rfl
    cases oe with
    | none =>
      have n2 := le.no rfl
      cases any with
      | true =>
        exfalso
        have l := il.le rfl
        rcases H rfl with ⟨_, n, p, q⟩ | ⟨_, n, p, q⟩
        · have := n1 n p; omega
        · have := n2 n p; omega
      | false =>
        obtain ⟨⟨a, pa, ea⟩, la⟩ := fs
        obtain ⟨⟨b, pb, eb⟩, lb⟩ := fe
        have s1 := jf.s rfl a pa
        have e1 := jf.e rfl b pb
        have hit := jf.hit rfl
        show decide (E0 < S0) = ((false && dst) || (!false && !std))
        cases std with
        | true =>
          rcases hit with ⟨_, n, p, q⟩ | ⟨q, _⟩
          · have := la n p
            have : ¬ E0 < S0 := by omega
            simp [this]
          · cases q
        | false =>
          rcases hit with ⟨q, _⟩ | ⟨_, n, p, q⟩
          · cases q
          · have l2 := lb n p
            have l3 := s1.1
            have l4 : S a ≠ first := fun c => by have := s1.2 c; cases this
            have : E0 < S0 := by omega
            simp [this]
    | some b =>
      obtain ⟨nb, pb, eb⟩ := le.hit b rfl
      have lb := le.le b rfl
      cases any with
      | false => exfalso; have := (il.no rfl).2 nb pb; omega
      | true =>
        rcases H rfl with ⟨_, n, p, q⟩ | ⟨q, _⟩
        · exfalso; have := n1 n p; have := il.le rfl; omega
        · rw [q]; rfl
  | some a =>
    obtain ⟨na, pa, ea⟩ := ls.hit a rfl
    have la := ls.le a rfl
    have aa := ls.all a rfl
    cases any with
    | false => exfalso; have := (il.no rfl).1 na pa; omega
    | true =>
      have ll := il.le rfl
      have sa := il.s rfl na pa (by omega)
      cases oe with
      | none =>
        have n2 := le.no rfl
        rcases H rfl with ⟨q, _⟩ | ⟨_, n, p, q⟩
        · rw [q]; rfl
        · exfalso; have := n2 n p; omega
      | some b =>
        obtain ⟨nb, pb, eb⟩ := le.hit b rfl
        have lb := le.le b rfl
        have ab := le.all b rfl
        have sb := il.e rfl nb pb (by omega)
        show decide (b ≤ a) = ((true && dst) || (!true && !std))
        rcases H rfl with ⟨q, n, p, g⟩ | ⟨q, n, p, g⟩
        · have := aa n p (by omega)
          rw [q]
          have : b ≤ a := by omega
          simp [this]
        · have := ab n p (by omega)
          have : S na ≠ last := fun c => by have := sa.2 c; rw [q] at this; cases this
          rw [q]
          have : ¬ b ≤ a := by omega
          simp [this]
end Go.Proofs.YtbneokgeochinaaDoor
