/-
  What is in force, by the last turn that is not behind a moment: plain, of no program (layer 9).
-/
import Derived.Test.YtbneokgeochinaaDoorLcRy1
namespace Go.Proofs.YtbneokgeochinaaDoor
open Go Lc

theorem ff {P : Prop} (h : false = true) : P := by cases h
theorem tf {P : Prop} (h : true = false) : P := by cases h
/-- Of the starts S n with PS n, and the ends E n with PE n, the last one that is not behind t (of two at one moment the start). -/
structure InvL (S E : Int → Int) (t : Int) (PS PE : Int → Prop) (any : Bool) (last : Int) (dst : Bool) : Prop where
  no : any = false → (∀ n, PS n → t < S n) ∧ (∀ n, PE n → t < E n)
  le : any = true → last ≤ t
  s : any = true → ∀ n, PS n → S n ≤ t → S n ≤ last ∧ (S n = last → dst = true)
  e : any = true → ∀ n, PE n → E n ≤ t → E n ≤ last
  hit : any = true → (dst = true ∧ ∃ n, PS n ∧ S n = last) ∨ (dst = false ∧ ∃ n, PE n ∧ E n = last)
/-- The first one of all. -/
structure InvF (S E : Int → Int) (PS PE : Int → Prop) (som : Bool) (first : Int) (std : Bool) : Prop where
  no : som = false → (∀ n, ¬ PS n) ∧ (∀ n, ¬ PE n)
  s : som = true → ∀ n, PS n → first ≤ S n ∧ (S n = first → std = true)
  e : som = true → ∀ n, PE n → first ≤ E n
  hit : som = true → (std = true ∧ ∃ n, PS n ∧ S n = first) ∨ (std = false ∧ ∃ n, PE n ∧ E n = first)

theorem InvL.stE {S E : Int → Int} {t : Int} {PS PE : Int → Prop} {z : As} (h : InvL S E t PS PE z.any z.last z.dst) (n : Int) :
    InvL S E t PS (fun m => PE m ∨ m = n) (stE t (E n) z).any (stE t (E n) z).last (stE t (E n) z).dst := by
  obtain ⟨any, last, dst, som, first, std⟩ := z
  simp only at h
  unfold Go.Proofs.YtbneokgeochinaaDoor.stE
  simp only
  by_cases p : E n ≤ t
  · cases any
    · simp only [p, decide_true, Bool.not_false, Bool.true_or, Bool.and_self, if_true]
      obtain ⟨n1, n2⟩ := h.no rfl
      exact ⟨fun q => tf q, fun _ => p, fun _ m hm hs => (by have := n1 m hm; omega), fun _ m hm he => by
        rcases hm with hm | rfl
        · have := n2 m hm; omega
        · omega, fun _ => .inr ⟨rfl, n, .inr rfl, rfl⟩⟩
    · by_cases q : last < E n
      · simp only [p, q, decide_true, Bool.not_true, Bool.false_or, Bool.and_self, if_true]
        exact ⟨fun q => tf q, fun _ => p, fun _ m hm hs => (by have := h.s rfl m hm hs; omega), fun _ m hm he => by
          rcases hm with hm | rfl
          · have := h.e rfl m hm he; omega
          · omega, fun _ => .inr ⟨rfl, n, .inr rfl, rfl⟩⟩
      · simp only [p, q, decide_true, decide_false, Bool.not_true, Bool.false_or, Bool.and_false, Bool.false_eq_true, if_false]
        exact ⟨fun q => tf q, h.le, h.s, fun _ m hm he => by
          rcases hm with hm | rfl
          · exact h.e rfl m hm he
          · omega, fun _ => (h.hit rfl).imp id (fun ⟨a, m, b, c⟩ => ⟨a, m, .inl b, c⟩)⟩
  · simp only [p, decide_false, Bool.false_and, Bool.false_eq_true, if_false]
    exact ⟨fun q => ⟨(h.no q).1, fun m hm => by
      rcases hm with hm | rfl
      · exact (h.no q).2 m hm
      · omega⟩, h.le, h.s, fun q m hm he => by
      rcases hm with hm | rfl
      · exact h.e q m hm he
      · omega, fun q => (h.hit q).imp id (fun ⟨a, m, b, c⟩ => ⟨a, m, .inl b, c⟩)⟩
theorem InvL.stS {S E : Int → Int} {t : Int} {PS PE : Int → Prop} {z : As} (h : InvL S E t PS PE z.any z.last z.dst) (n : Int) :
    InvL S E t (fun m => PS m ∨ m = n) PE (stS t (S n) z).any (stS t (S n) z).last (stS t (S n) z).dst := by
  obtain ⟨any, last, dst, som, first, std⟩ := z
  simp only at h
  unfold Go.Proofs.YtbneokgeochinaaDoor.stS
  simp only
  by_cases p : S n ≤ t
  · cases any
    · simp only [p, decide_true, Bool.not_false, Bool.true_or, Bool.and_self, if_true]
      obtain ⟨n1, n2⟩ := h.no rfl
      exact ⟨fun q => tf q, fun _ => p, fun _ m hm hs => by
        rcases hm with hm | rfl
        · have := n1 m hm; omega
        · exact ⟨by omega, fun _ => rfl⟩, fun _ m hm he => (by have := n2 m hm; omega), fun _ => .inl ⟨rfl, n, .inr rfl, rfl⟩⟩
    · by_cases q : last ≤ S n
      · simp only [p, q, decide_true, Bool.not_true, Bool.false_or, Bool.and_self, if_true]
        exact ⟨fun q => tf q, fun _ => p, fun _ m hm hs => by
          rcases hm with hm | rfl
          · have := h.s rfl m hm hs; exact ⟨by omega, fun _ => rfl⟩
          · exact ⟨by omega, fun _ => rfl⟩, fun _ m hm he => (by have := h.e rfl m hm he; omega), fun _ => .inl ⟨rfl, n, .inr rfl, rfl⟩⟩
      · simp only [p, q, decide_true, decide_false, Bool.not_true, Bool.false_or, Bool.and_false, Bool.false_eq_true, if_false]
        exact ⟨fun q => tf q, h.le, fun _ m hm hs => by
          rcases hm with hm | rfl
          · exact h.s rfl m hm hs
          · exact ⟨by omega, fun e => by omega⟩, h.e, fun _ => (h.hit rfl).imp (fun ⟨a, m, b, c⟩ => ⟨a, m, .inl b, c⟩) id⟩
  · simp only [p, decide_false, Bool.false_and, Bool.false_eq_true, if_false]
    exact ⟨fun q => ⟨fun m hm => by
      rcases hm with hm | rfl
      · exact (h.no q).1 m hm
      · omega, (h.no q).2⟩, h.le, fun q m hm hs => by
      rcases hm with hm | rfl
      · exact h.s q m hm hs
      · omega, h.e, fun q => (h.hit q).imp (fun ⟨a, m, b, c⟩ => ⟨a, m, .inl b, c⟩) id⟩
theorem InvF.stB {S E : Int → Int} {PS PE : Int → Prop} {z : As} (h : InvF S E PS PE z.some z.first z.std) (n : Int) :
    InvF S E PS (fun m => PE m ∨ m = n) (stB (E n) z).some (stB (E n) z).first (stB (E n) z).std := by
  obtain ⟨any, last, dst, som, first, std⟩ := z
  simp only at h
  unfold Go.Proofs.YtbneokgeochinaaDoor.stB
  simp only
  cases som
  · simp only [Bool.not_false, Bool.true_or, if_true]
    obtain ⟨n1, n2⟩ := h.no rfl
    exact ⟨fun q => tf q, fun _ m hm => absurd hm (n1 m), fun _ m hm => by
      rcases hm with hm | rfl
      · exact absurd hm (n2 m)
      · omega, fun _ => .inr ⟨rfl, n, .inr rfl, rfl⟩⟩
  · by_cases q : E n < first
    · simp only [q, decide_true, Bool.or_true, if_true]
      exact ⟨fun q => tf q, fun _ m hm => by have := h.s rfl m hm; exact ⟨by omega, fun e => by omega⟩, fun _ m hm => by
        rcases hm with hm | rfl
        · have := h.e rfl m hm; omega
        · omega, fun _ => .inr ⟨rfl, n, .inr rfl, rfl⟩⟩
    · simp only [q, decide_false, Bool.not_true, Bool.or_false, Bool.false_eq_true, if_false]
      exact ⟨fun q => tf q, h.s, fun _ m hm => by
        rcases hm with hm | rfl
        · exact h.e rfl m hm
        · omega, fun _ => (h.hit rfl).imp id (fun ⟨a, m, b, c⟩ => ⟨a, m, .inl b, c⟩)⟩
theorem InvF.stA {S E : Int → Int} {PS PE : Int → Prop} {z : As} (h : InvF S E PS PE z.some z.first z.std) (hz : z.some = true) (n : Int) :
    InvF S E (fun m => PS m ∨ m = n) PE (stA (S n) z).some (stA (S n) z).first (stA (S n) z).std := by
  obtain ⟨any, last, dst, som, first, std⟩ := z
  simp only at h hz
  subst hz
  unfold Go.Proofs.YtbneokgeochinaaDoor.stA
  simp only
  by_cases q : S n ≤ first
  · simp only [q, decide_true, if_true]
    exact ⟨fun q => tf q, fun _ m hm => by
      rcases hm with hm | rfl
      · have := h.s rfl m hm; exact ⟨by omega, fun _ => rfl⟩
      · exact ⟨by omega, fun _ => rfl⟩, fun _ m hm => (by have := h.e rfl m hm; omega), fun _ => .inl ⟨rfl, n, .inr rfl, rfl⟩⟩
  · simp only [q, decide_false, Bool.false_eq_true, if_false]
    exact ⟨fun q => tf q, fun _ m hm => by
      rcases hm with hm | rfl
      · exact h.s rfl m hm
      · exact ⟨by omega, fun e => by omega⟩, h.e, fun _ => (h.hit rfl).imp (fun ⟨a, m, b, c⟩ => ⟨a, m, .inl b, c⟩) id⟩
theorem stE_keep (t b : Int) (z : As) : (Go.Proofs.YtbneokgeochinaaDoor.stE t b z).some = z.some ∧ (Go.Proofs.YtbneokgeochinaaDoor.stE t b z).first = z.first ∧ (Go.Proofs.YtbneokgeochinaaDoor.stE t b z).std = z.std := by
  unfold Go.Proofs.YtbneokgeochinaaDoor.stE; split <;> exact ⟨rfl, rfl, rfl⟩
theorem stS_keep (t a : Int) (z : As) : (Go.Proofs.YtbneokgeochinaaDoor.stS t a z).some = z.some ∧ (Go.Proofs.YtbneokgeochinaaDoor.stS t a z).first = z.first ∧ (Go.Proofs.YtbneokgeochinaaDoor.stS t a z).std = z.std := by
  unfold Go.Proofs.YtbneokgeochinaaDoor.stS; split <;> exact ⟨rfl, rfl, rfl⟩
theorem stB_keep (b : Int) (z : As) : (Go.Proofs.YtbneokgeochinaaDoor.stB b z).any = z.any ∧ (Go.Proofs.YtbneokgeochinaaDoor.stB b z).last = z.last ∧ (Go.Proofs.YtbneokgeochinaaDoor.stB b z).dst = z.dst := by
  unfold Go.Proofs.YtbneokgeochinaaDoor.stB; split <;> exact ⟨rfl, rfl, rfl⟩
theorem stA_keep (a : Int) (z : As) : (Go.Proofs.YtbneokgeochinaaDoor.stA a z).any = z.any ∧ (Go.Proofs.YtbneokgeochinaaDoor.stA a z).last = z.last ∧ (Go.Proofs.YtbneokgeochinaaDoor.stA a z).dst = z.dst := by
  unfold Go.Proofs.YtbneokgeochinaaDoor.stA; split <;> exact ⟨rfl, rfl, rfl⟩
theorem stB_some (b : Int) (z : As) : (Go.Proofs.YtbneokgeochinaaDoor.stB b z).some = true := by
  unfold Go.Proofs.YtbneokgeochinaaDoor.stB
  by_cases c : (!z.some || decide (b < z.first)) = true
  · rw [if_pos c]
  · rw [if_neg c]
    cases h : z.some
    · exfalso; exact c (by rw [h]; rfl)
    · rfl
structure Inv3 (r : Ru) (t : Int) (P : Int → Prop) (z : As) : Prop where
  l : InvL (tnS r) (tnE r) t P P z.any z.last z.dst
  f : InvF (tnS r) (tnE r) P P z.some z.first z.std
theorem Inv3.start (r : Ru) (t : Int) : Inv3 r t (fun _ => False) as0 :=
  ⟨⟨fun _ => ⟨fun _ h => h.elim, fun _ h => h.elim⟩, fun h => ff h, fun h => ff h, fun h => ff h, fun h => ff h⟩, ⟨fun _ => ⟨fun _ h => h, fun _ h => h⟩, fun h => ff h, fun h => ff h, fun h => ff h⟩⟩
theorem Inv3.step {r : Ru} {t n : Int} {P : Int → Prop} {z : As} (h : Inv3 r t P z) (ok : okT r n = true) : Inv3 r t (fun m => P m ∨ m = n) (stY r t n z) ∧ (stY r t n z).some = true := by
  unfold stY
  rw [ok, if_pos rfl]
  have l1 := h.l.stE n
  have l2 := InvL.stS l1 n
  obtain ⟨a1, a2, a3⟩ := stE_keep t (tnE r n) z
  obtain ⟨b1, b2, b3⟩ := stS_keep t (tnS r n) (Go.Proofs.YtbneokgeochinaaDoor.stE t (tnE r n) z)
  have f0 : InvF (tnS r) (tnE r) P P (Go.Proofs.YtbneokgeochinaaDoor.stS t (tnS r n) (Go.Proofs.YtbneokgeochinaaDoor.stE t (tnE r n) z)).some (Go.Proofs.YtbneokgeochinaaDoor.stS t (tnS r n) (Go.Proofs.YtbneokgeochinaaDoor.stE t (tnE r n) z)).first (Go.Proofs.YtbneokgeochinaaDoor.stS t (tnS r n) (Go.Proofs.YtbneokgeochinaaDoor.stE t (tnE r n) z)).std := by
    rw [b1, b2, b3, a1, a2, a3]; exact h.f
  have f1 := InvF.stB f0 n
  have f2 := InvF.stA f1 (stB_some _ _) n
  generalize Go.Proofs.YtbneokgeochinaaDoor.stS t (tnS r n) (Go.Proofs.YtbneokgeochinaaDoor.stE t (tnE r n) z) = u at *
  obtain ⟨c1, c2, c3⟩ := stB_keep (tnE r n) u
  obtain ⟨d1, d2, d3⟩ := stA_keep (tnS r n) (Go.Proofs.YtbneokgeochinaaDoor.stB (tnE r n) u)
  refine ⟨⟨?_, f2⟩, ?_⟩
  · rw [d1, d2, d3, c1, c2, c3]; exact l2
  · have := stB_some (tnE r n) u
    unfold Go.Proofs.YtbneokgeochinaaDoor.stA
    split
    · exact this
    · exact this
/-- Of three years' turns the last one that is not behind a moment tells; if all are behind it, the first one. -/
theorem inDst_spec {r : Ru} {t y : Int} (h1 : okT r (y - 1) = true) (h2 : okT r y = true) (h3 : okT r (y + 1) = true) :
    ∃ z : As, inDst r t y = ends3 z ∧ Inv3 r t (fun m => ((False ∨ m = y - 1) ∨ m = y) ∨ m = y + 1) z ∧ z.some = true := by
  have a := (Inv3.start r t).step h1
  have b := a.1.step h2
  have c := b.1.step h3
  exact ⟨_, rfl, c.1, c.2⟩
end Go.Proofs.YtbneokgeochinaaDoor
