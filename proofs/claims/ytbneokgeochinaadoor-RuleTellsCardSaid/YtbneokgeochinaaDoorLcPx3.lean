/-
  How the document reads a rule's text, plain, of no program: it reads what the program reads.
-/
import Derived.Test.YtbneokgeochinaaDoorLcPx2
namespace Go.Proofs.YtbneokgeochinaaDoor
open Go

/-- Up to so many digits. -/
def numD (most : Nat) (l : List UInt8) : Option (Int × List UInt8) :=
  if (dgs l).take most = [] then none else some (val ((dgs l).take most), l.drop ((dgs l).take most).length)
def pairD (l : List UInt8) : Option (Int × List UInt8) :=
  match numD 2 l with
  | none => none
  | some (n, t) => if l.length - t.length = 2 ∧ n ≤ 59 then some (n, t) else none
def clockD (dg : Nat) (most : Int) (l : List UInt8) : Option (Int × List UInt8) :=
  match numD dg l with
  | none => none
  | some (h, t) =>
    if most < h then none
    else
      match takeP 58 t with
      | none => some (h * 3600, t)
      | some t1 =>
        match pairD t1 with
        | none => none
        | some (m, t2) =>
          match takeP 58 t2 with
          | none => some (h * 3600 + 60 * m, t2)
          | some t3 =>
            match pairD t3 with
            | none => none
            | some (s, t4) => some (h * 3600 + 60 * m + s, t4)
def signedD (dg : Nat) (most : Int) (l : List UInt8) : Option (Int × List UInt8) :=
  match takeP 45 l with
  | some t =>
    match clockD dg most t with
    | none => none
    | some (x, t1) => some (-x, t1)
  | none =>
    match takeP 43 l with
    | some t => clockD dg most t
    | none => clockD dg most l
def anyD (sign wide : Bool) (l : List UInt8) : Option (Int × List UInt8) :=
  if sign then (if wide then signedD 3 167 l else signedD 2 24 l) else (if wide then clockD 3 167 l else clockD 2 24 l)
def offD (l : List UInt8) : Option (Int × List UInt8) :=
  match anyD true false l with
  | none => none
  | some (x, t) => some (-x, t)
def dayD (l : List UInt8) : Option ((Int × Int × Int × Int) × List UInt8) :=
  match takeP 74 l with
  | some t =>
    match numD 3 t with
    | none => none
    | some (n, t1) => some ((1, n, 0, 0), t1)
  | none =>
    match takeP 77 l with
    | some t =>
      match numD 3 t with
      | none => none
      | some (n, t1) =>
        match takeP 46 t1 with
        | none => none
        | some t2 =>
          match numD 3 t2 with
          | none => none
          | some (k, t3) =>
            match takeP 46 t3 with
            | none => none
            | some t4 =>
              match numD 3 t4 with
              | none => none
              | some (d, t5) => some ((3, n, k, d), t5)
    | none =>
      match numD 3 l with
      | none => none
      | some (n, t1) => some ((2, n, 0, 0), t1)
def timedD (wide : Bool) (l : List UInt8) : Option (Int × List UInt8) :=
  match takeP 47 l with
  | none => some (7200, l)
  | some t1 => anyD wide wide t1
def changeD (wide : Bool) (l : List UInt8) : Option (Ch × List UInt8) :=
  match dayD l with
  | none => none
  | some ((h, n, k, d), t) =>
    match timedD wide t with
    | none => none
    | some (x, t2) => if changeB ⟨h, n, k, d, x⟩ wide then some (⟨h, n, k, d, x⟩, t2) else none
def whenD (wide : Bool) (l : List UInt8) : Option (Ch × List UInt8) :=
  match takeP 44 l with
  | none => none
  | some t => changeD wide t
def nameD (l : List UInt8) : Option (List UInt8 × List UInt8) :=
  match nameP l with
  | none => none
  | some (m, t) => if nameB m then some (m, t) else none
def offD' (usual : Int) (l : List UInt8) : Option (Int × List UInt8) :=
  match takeP 44 l with
  | some _ => some (usual, l)
  | none => offD l
def wholeD (wide : Bool) (l : List UInt8) : Option Ru :=
  match nameD l with
  | none => none
  | some (m, t) =>
    match offD t with
    | none => none
    | some (o, t1) =>
      if t1 = [] then some ⟨⟨o, false, m⟩, kd0, false, ch0, ch0⟩
      else
        match nameD t1 with
        | none => none
        | some (m2, t2) =>
          if t2 = [] then none
          else
            match offD' (o + 3600) t2 with
            | none => none
            | some (o2, t3) =>
              match whenD wide t3 with
              | none => none
              | some (a, t4) =>
                match whenD wide t4 with
                | none => none
                | some (b, t5) => if t5 = [] ∧ rightB ⟨⟨o, false, m⟩, ⟨o2, true, m2⟩, true, a, b⟩ wide = true then some ⟨⟨o, false, m⟩, ⟨o2, true, m2⟩, true, a, b⟩ else none

/-! ### What the program reads, the document reads -/
theorem numD_of {most : Nat} {l t : List UInt8} {n : Int} (h : numP most l = some (n, t)) : numD most l = some (n, t) := by
  unfold numP at h
  unfold numD
  split at h
  · cases h
  · rename_i c
    rw [List.take_of_length_le (by omega), if_neg (fun e => c (.inl e))]
    exact h
theorem pairD_of {l t : List UInt8} {n : Int} (h : pairP l = some (n, t)) : pairD l = some (n, t) := by
  unfold pairP at h
  unfold pairD
  split at h
  · cases h
  · rename_i e
    rw [numD_of e]; exact h
/-- A clock's hours are no more than told, if it is no later than told. -/
theorem clockD_of {dg : Nat} {most : Int} {l t : List UInt8} {x : Int} (h : clockP dg l = some (x, t)) (hx : x ≤ most * 3600 + 3599) : clockD dg most l = some (x, t) := by
  unfold clockP at h
  unfold clockD
  split at h
  · cases h
  · rename_i n t0 e0
    simp only [numD_of e0]
    split at h
    · rename_i e1
      simp only [Option.some.injEq, Prod.mk.injEq] at h
      obtain ⟨rfl, rfl⟩ := h
      rw [if_neg (by omega)]
      simp only [e1]
    · rename_i t1 e1
      simp only [e1]
      split at h
      · cases h
      · rename_i m t2 e2
        obtain ⟨_, _, _, _, _, _, m0, m1⟩ := pairP_some e2
        simp only [pairD_of e2]
        split at h
        · rename_i e3
          simp only [Option.some.injEq, Prod.mk.injEq] at h
          obtain ⟨rfl, rfl⟩ := h
          rw [if_neg (by omega)]
          simp only [e3, Int.mul_comm 60]
        · rename_i t3 e3
          split at h
          · cases h
          · rename_i s t4 e4
            obtain ⟨_, _, _, _, _, _, s0, s1⟩ := pairP_some e4
            simp only [Option.some.injEq, Prod.mk.injEq] at h
            obtain ⟨rfl, rfl⟩ := h
            simp only [e3, pairD_of e4]
            rw [if_neg (by omega)]
            simp only [Int.mul_comm 60]
theorem signedD_of {dg : Nat} {most : Int} {l t : List UInt8} {x : Int} (h : signedP dg l = some (x, t)) (hx : x ≤ most * 3600 + 3599) (hy : -x ≤ most * 3600 + 3599) : signedD dg most l = some (x, t) := by
  unfold signedP at h
  unfold signedD
  split at h
  · rename_i u0 q0
    simp only [q0]
    split at h
    · cases h
    · rename_i y t1 e1
      simp only [Option.some.injEq, Prod.mk.injEq] at h
      obtain ⟨rfl, rfl⟩ := h
      simp only [clockD_of (most := most) e1 (by omega)]
  · rename_i q0
    simp only [q0]
    split at h
    · rename_i u1 q1
      simp only [q1]
      exact clockD_of h hx
    · rename_i q1
      simp only [q1]
      exact clockD_of h hx
theorem offD_of {l t : List UInt8} {x : Int} (h : offP l = some (x, t)) (h1 : -89999 ≤ x) (h2 : x ≤ 89999) : offD l = some (x, t) := by
  unfold offP at h
  unfold offD anyD
  simp only [if_true, Bool.false_eq_true, if_false]
  split at h
  · cases h
  · rename_i y t1 e1
    simp only [Option.some.injEq, Prod.mk.injEq] at h
    obtain ⟨rfl, rfl⟩ := h
    simp only [signedD_of e1 (most := 24) (by omega) (by omega)]
theorem timeD_of {wide : Bool} {l t : List UInt8} {x : Int} (h : timeP wide l = some (x, t)) (hb : timeB x wide = true) : anyD wide wide l = some (x, t) := by
  unfold timeP at h
  unfold timeB at hb
  unfold anyD
  cases wide
  · simp only [Bool.false_eq_true, if_false] at *
    have := inB_iff.1 hb
    exact clockD_of h (by omega)
  · simp only [if_true] at *
    have := inB_iff.1 hb
    exact signedD_of h (by omega) (by omega)
theorem dayD_of {l t : List UInt8} {q : Int × Int × Int × Int} (h : dayP l = some (q, t)) : dayD l = some (q, t) := by
  unfold dayP at h
  unfold dayD
  split at h
  · rename_i q0
    simp only [q0]
    split at h
    · cases h
    · rename_i e; simp only [numD_of e]; exact h
  · rename_i q0
    simp only [q0]
    split at h
    · rename_i q1
      simp only [q1]
      split at h
      · cases h
      · rename_i e
        simp only [numD_of e]
        split at h
        · cases h
        · rename_i q2
          simp only [q2]
          split at h
          · cases h
          · rename_i e3
            simp only [numD_of e3]
            split at h
            · cases h
            · rename_i q3
              simp only [q3]
              split at h
              · cases h
              · rename_i e5
                simp only [numD_of e5]; exact h
    · rename_i q1
      simp only [q1]
      split at h
      · cases h
      · rename_i e; simp only [numD_of e]; exact h
theorem changeD_of {wide : Bool} {l t : List UInt8} {c : Ch} (h : changeP wide l = some (c, t)) (hb : changeB c wide = true) : changeD wide l = some (c, t) := by
  have hb2 := hb
  unfold changeB at hb2
  rw [Bool.and_eq_true] at hb2
  unfold changeP at h
  unfold changeD timedD
  split at h
  · cases h
  · rename_i a n k d t0 e0
    simp only [dayD_of e0]
    split at h
    · rename_i q1
      simp only [Option.some.injEq, Prod.mk.injEq] at h
      obtain ⟨rfl, rfl⟩ := h
      simp only [q1, hb, if_true]
    · rename_i q1
      simp only [q1]
      split at h
      · cases h
      · rename_i x t2 e2
        simp only [Option.some.injEq, Prod.mk.injEq] at h
        obtain ⟨rfl, rfl⟩ := h
        simp only [timeD_of e2 hb2.2, hb, if_true]
theorem nameD_of {l m t : List UInt8} (h : nameP l = some (m, t)) (hb : nameB m = true) : nameD l = some (m, t) := by
  unfold nameD; simp only [h, hb, if_true]
theorem endsD_of {wide : Bool} {l t : List UInt8} {a b : Ch} (h : endsP wide l = some ((a, b), t)) (ha : changeB a wide = true) (hb : changeB b wide = true) :
    ∃ u, whenD wide l = some (a, u) ∧ whenD wide u = some (b, t) := by
  unfold endsP at h
  unfold whenD
  split at h
  · cases h
  · rename_i t1 e1
    split at h
    · cases h
    · rename_i x t2 e2
      split at h
      · cases h
      · rename_i t3 e3
        split at h
        · cases h
        · rename_i y t4 e4
          simp only [Option.some.injEq, Prod.mk.injEq] at h
          obtain ⟨⟨rfl, rfl⟩, rfl⟩ := h
          exact ⟨t2, by simp only [e1]; exact changeD_of e2 ha, by simp only [e3]; exact changeD_of e4 hb⟩
theorem wholeD_of {wide : Bool} {l : List UInt8} {r : Ru} (h : wholeP wide l = some r) : wholeD wide l = some r := by
  have hr := whole_right h
  unfold wholeP at h
  split at h
  · cases h
  · rename_i r' t e
    split at h
    · rename_i c
      cases h
      obtain ⟨rfl, _⟩ := c
      unfold ruleP at e
      unfold wholeD
      split at e
      · cases e
      · rename_i m t0 e0
        split at e
        · cases e
        · rename_i o t1 e1
          split at e
          · rename_i c
            simp only [Option.some.injEq, Prod.mk.injEq] at e
            obtain ⟨rfl, _⟩ := e
            unfold rightB at hr
            rw [Bool.and_eq_true] at hr
            obtain ⟨_, hn, o1, o2⟩ := kindB_parts hr.1
            simp only [nameD_of e0 hn, offD_of e1 o1 o2, if_pos c]
          · rename_i c
            split at e
            · cases e
            · rename_i m2 t2 e2
              split at e
              · cases e
              · rename_i o2 t3 e3
                split at e
                · cases e
                · rename_i a b t4 e4
                  simp only [Option.some.injEq, Prod.mk.injEq] at e
                  obtain ⟨rfl, rfl⟩ := e
                  have hr' := hr
                  unfold rightB at hr
                  simp only [if_true, Bool.and_eq_true] at hr
                  obtain ⟨hk, ⟨hd, ha⟩, hb⟩ := hr
                  obtain ⟨_, hn, p1, p2⟩ := kindB_parts hk
                  obtain ⟨_, hm, p3, p4⟩ := kindB_parts hd
                  obtain ⟨u, q1, q2⟩ := endsD_of e4 ha hb
                  have ne : t2 ≠ [] := fun z => by
                    subst z
                    unfold offP' at e3
                    simp only [takeP] at e3
                    have : offP [] = none := by decide
                    rw [this] at e3; cases e3
                  have eo : offD' (o + 3600) t2 = some (o2, t3) := by
                    unfold offP' at e3
                    unfold offD'
                    split at e3
                    · rename_i z; simp only [z]; exact e3
                    · rename_i z; simp only [z]; exact offD_of e3 p3 p4
                  simp only [nameD_of e0 hn, offD_of e1 p1 p2, if_neg c, nameD_of e2 hm, if_neg ne, eo, q1, q2]
                  rw [if_pos ⟨trivial, hr'⟩]
    · cases h

/-! ### What the document reads, the program reads -/
theorem numP_of {most : Nat} {l t : List UInt8} {n : Int} (h : numD most l = some (n, t)) (k : NoH isDg t) : numP most l = some (n, t) := by
  unfold numD at h
  split at h
  · cases h
  · rename_i c
    simp only [Option.some.injEq, Prod.mk.injEq] at h
    obtain ⟨rfl, rfl⟩ := h
    have e := tw_split (p := isDg) l
    have hl : (dgs l).length ≤ most := by
      rcases Nat.lt_or_ge most (dgs l).length with q | q
      · exfalso
        have ha := dgs_all l
        rw [List.all_eq_true] at ha
        have e2 : l.drop ((dgs l).take most).length = (dgs l).drop most ++ l.drop (dgs l).length := by
          rw [List.length_take, Nat.min_eq_left (by omega)]
          conv => lhs; rw [e]
          rw [List.drop_append_of_le_length (by show most ≤ (dgs l).length; omega)]
          rfl
        rw [e2] at k
        generalize hd : (dgs l).drop most = d at k
        rcases d with _ | ⟨c0, d⟩
        · have := congrArg List.length hd
          rw [List.length_drop] at this
          simp only [List.length_nil] at this
          omega
        · rw [List.cons_append] at k
          have k2 : isDg c0 = false := k.head
          have : c0 ∈ dgs l := List.mem_of_mem_drop (by rw [hd]; exact List.mem_cons_self ..)
          rw [ha c0 this] at k2; cases k2
      · exact q
    rw [List.take_of_length_le hl] at c ⊢
    unfold numP
    rw [if_neg (by intro z; rcases z with z | z; exact c z; omega)]
theorem numD_ge {most : Nat} {l t : List UInt8} {n : Int} (h : numD most l = some (n, t)) : 0 ≤ n := by
  unfold numD at h
  split at h
  · cases h
  · simp only [Option.some.injEq, Prod.mk.injEq] at h
    obtain ⟨rfl, rfl⟩ := h
    refine (val_bd _ _ rfl ?_).1
    have ha := dgs_all l
    rw [List.all_eq_true] at *
    exact fun x hx => ha x (List.mem_of_mem_take hx)
theorem pairP_of {l t : List UInt8} {n : Int} (h : pairD l = some (n, t)) (k : NoH isDg t) : pairP l = some (n, t) := by
  unfold pairD at h
  unfold pairP
  split at h
  · cases h
  · rename_i e
    split at h
    · rename_i c
      simp only [Option.some.injEq, Prod.mk.injEq] at h
      obtain ⟨rfl, rfl⟩ := h
      simp only [numP_of e k, if_pos c]
    · cases h
theorem pairD_bd {l t : List UInt8} {n : Int} (h : pairD l = some (n, t)) : 0 ≤ n ∧ n ≤ 59 := by
  unfold pairD at h
  split at h
  · cases h
  · rename_i e
    split at h
    · rename_i c
      simp only [Option.some.injEq, Prod.mk.injEq] at h
      obtain ⟨rfl, rfl⟩ := h
      exact ⟨numD_ge e, c.2⟩
    · cases h
theorem noD_of_take {c : UInt8} {l t : List UInt8} (hc : isDg c = false) (h : takeP c l = some t) : NoH isDg l := by
  rw [takeP_some h]; exact NoH.cons _ hc
theorem clockP_of {dg : Nat} {most : Int} {l t : List UInt8} {x : Int} (h : clockD dg most l = some (x, t)) (k : NoH isDg t) : clockP dg l = some (x, t) ∧ 0 ≤ x ∧ x ≤ most * 3600 + 3599 := by
  unfold clockD at h
  unfold clockP
  split at h
  · cases h
  · rename_i n t0 e0
    have n0 := numD_ge e0
    split at h
    · cases h
    · rename_i hm
      split at h
      · rename_i e1
        simp only [Option.some.injEq, Prod.mk.injEq] at h
        obtain ⟨rfl, rfl⟩ := h
        simp only [numP_of e0 k, e1]
        exact ⟨trivial, by omega, by omega⟩
      · rename_i t1 e1
        simp only [numP_of e0 (noD_of_take (by decide) e1), e1]
        split at h
        · cases h
        · rename_i m t2 e2
          have m0 := pairD_bd e2
          split at h
          · rename_i e3
            simp only [Option.some.injEq, Prod.mk.injEq] at h
            obtain ⟨rfl, rfl⟩ := h
            simp only [pairP_of e2 k, e3, Int.mul_comm 60]
            exact ⟨trivial, by omega, by omega⟩
          · rename_i t3 e3
            simp only [pairP_of e2 (noD_of_take (by decide) e3), e3]
            split at h
            · cases h
            · rename_i s t4 e4
              have s0 := pairD_bd e4
              simp only [Option.some.injEq, Prod.mk.injEq] at h
              obtain ⟨rfl, rfl⟩ := h
              simp only [pairP_of e4 k, Int.mul_comm 60]
              exact ⟨trivial, by omega, by omega⟩
theorem signedP_of {dg : Nat} {most : Int} {l t : List UInt8} {x : Int} (h : signedD dg most l = some (x, t)) (k : NoH isDg t) : signedP dg l = some (x, t) ∧ -(most * 3600 + 3599) ≤ x ∧ x ≤ most * 3600 + 3599 := by
  unfold signedD at h
  unfold signedP
  split at h
  · rename_i q0
    simp only [q0]
    split at h
    · cases h
    · rename_i y t1 e1
      simp only [Option.some.injEq, Prod.mk.injEq] at h
      obtain ⟨rfl, rfl⟩ := h
      have := clockP_of e1 k
      simp only [this.1]
      exact ⟨trivial, by omega, by omega⟩
  · rename_i q0
    simp only [q0]
    split at h
    · rename_i q1
      simp only [q1]
      have := clockP_of h k
      exact ⟨this.1, by omega, by omega⟩
    · rename_i q1
      simp only [q1]
      have := clockP_of h k
      exact ⟨this.1, by omega, by omega⟩
theorem offP_of {l t : List UInt8} {x : Int} (h : offD l = some (x, t)) (k : NoH isDg t) : offP l = some (x, t) ∧ -89999 ≤ x ∧ x ≤ 89999 := by
  unfold offD anyD at h
  simp only [if_true, Bool.false_eq_true, if_false] at h
  unfold offP
  split at h
  · cases h
  · rename_i y t1 e1
    simp only [Option.some.injEq, Prod.mk.injEq] at h
    obtain ⟨rfl, rfl⟩ := h
    have := signedP_of e1 k
    simp only [this.1]
    exact ⟨trivial, by omega, by omega⟩
theorem timeP_of {wide : Bool} {l t : List UInt8} {x : Int} (h : anyD wide wide l = some (x, t)) (k : NoH isDg t) : timeP wide l = some (x, t) := by
  unfold anyD at h
  unfold timeP
  cases wide
  · simp only [Bool.false_eq_true, if_false] at *
    exact (clockP_of h k).1
  · simp only [if_true] at *
    exact (signedP_of h k).1
theorem dayP_of {l t : List UInt8} {q : Int × Int × Int × Int} (h : dayD l = some (q, t)) (z : NoH isDg t) : dayP l = some (q, t) := by
  unfold dayD at h
  unfold dayP
  split at h
  · rename_i q0
    simp only [q0]
    split at h
    · cases h
    · rename_i e
      simp only [Option.some.injEq, Prod.mk.injEq] at h
      obtain ⟨rfl, rfl⟩ := h
      simp only [numP_of e z]
  · rename_i q0
    simp only [q0]
    split at h
    · rename_i q1
      simp only [q1]
      split at h
      · cases h
      · rename_i e
        split at h
        · cases h
        · rename_i e2
          simp only [numP_of e (noD_of_take (by decide) e2), e2]
          split at h
          · cases h
          · rename_i e3
            split at h
            · cases h
            · rename_i e4
              simp only [numP_of e3 (noD_of_take (by decide) e4), e4]
              split at h
              · cases h
              · rename_i e5
                simp only [Option.some.injEq, Prod.mk.injEq] at h
                obtain ⟨rfl, rfl⟩ := h
                simp only [numP_of e5 z]
    · rename_i q1
      simp only [q1]
      split at h
      · cases h
      · rename_i e
        simp only [Option.some.injEq, Prod.mk.injEq] at h
        obtain ⟨rfl, rfl⟩ := h
        simp only [numP_of e z]
theorem changeP_of {wide : Bool} {l t : List UInt8} {c : Ch} (h : changeD wide l = some (c, t)) (k : NoH isDg t) : changeP wide l = some (c, t) ∧ changeB c wide = true := by
  unfold changeD timedD at h
  unfold changeP
  split at h
  · cases h
  · rename_i a n j d t0 e0
    split at h
    · cases h
    · rename_i x t2 e2
      split at h
      · rename_i hb
        simp only [Option.some.injEq, Prod.mk.injEq] at h
        obtain ⟨rfl, rfl⟩ := h
        refine ⟨?_, hb⟩
        split at e2
        · rename_i e1
          simp only [Option.some.injEq, Prod.mk.injEq] at e2
          obtain ⟨rfl, rfl⟩ := e2
          simp only [dayP_of e0 k, e1]
        · rename_i t1 e1
          simp only [dayP_of e0 (noD_of_take (by decide) e1), e1, timeP_of e2 k]
      · cases h
theorem whenP_of {wide : Bool} {l t : List UInt8} {c : Ch} (h : whenD wide l = some (c, t)) (k : NoH isDg t) : NoH isDg l ∧ ∃ u, takeP 44 l = some u ∧ changeP wide u = some (c, t) ∧ changeB c wide = true := by
  unfold whenD at h
  split at h
  · cases h
  · rename_i u e
    exact ⟨noD_of_take (by decide) e, u, e, changeP_of h k⟩
theorem nameD_head {l m t : List UInt8} (h : nameD l = some (m, t)) : NoH isDg l ∧ nameP l = some (m, t) ∧ nameB m = true := by
  unfold nameD at h
  split at h
  · cases h
  · rename_i m' t' e
    split at h
    · rename_i c
      simp only [Option.some.injEq, Prod.mk.injEq] at h
      obtain ⟨rfl, rfl⟩ := h
      refine ⟨?_, e, c⟩
      unfold nameP at e
      split at e
      · rename_i e0
        exact noD_of_take (by decide) e0
      · simp only [Option.some.injEq, Prod.mk.injEq] at e
        obtain ⟨rfl, rfl⟩ := e
        have := (nameB_parts c).1
        rcases l with _ | ⟨x, l⟩
        · exact NoH.nil _
        · refine NoH.cons _ ?_
          cases q : isL x
          · have : ltr (x :: l) = [] := by simp [ltr, q]
            rw [this] at c; cases c
          · exact L_noD q
    · cases h
theorem whole_of_D {wide : Bool} {l : List UInt8} {r : Ru} (h : wholeD wide l = some r) : wholeP wide l = some r := by
  unfold wholeD at h
  split at h
  · cases h
  · rename_i m t e0
    obtain ⟨_, n0, b0⟩ := nameD_head e0
    split at h
    · cases h
    · rename_i o t1 e1
      split at h
      · rename_i c
        subst c
        cases h
        obtain ⟨f1, o1, o2⟩ := offP_of e1 (NoH.nil _)
        unfold wholeP ruleP
        simp only [n0, f1, if_true]
        rw [if_pos]
        refine ⟨trivial, ?_⟩
        unfold rightB kindB
        simp only [b0, inB_iff.2 ⟨o1, o2⟩, Bool.false_eq_true, if_false]
        decide
      · rename_i c
        split at h
        · cases h
        · rename_i m2 t2 e2
          obtain ⟨d1, n2, b2⟩ := nameD_head e2
          obtain ⟨f1, o1, o2⟩ := offP_of e1 d1
          split at h
          · cases h
          · rename_i c2
            split at h
            · cases h
            · rename_i p t3 e3
              split at h
              · cases h
              · rename_i a t4 e4
                split at h
                · cases h
                · rename_i b t5 e5
                  split at h
                  · rename_i c5
                    obtain ⟨rfl, hr⟩ := c5
                    cases h
                    obtain ⟨d4, u4, x4, y4, _⟩ := whenP_of e5 (NoH.nil _)
                    obtain ⟨d3, u3, x3, y3, _⟩ := whenP_of e4 d4
                    have eo : offP' (o + 3600) t2 = some (p, t3) := by
                      unfold offD' at e3
                      unfold offP'
                      split at e3
                      · rename_i z; simp only [z]; exact e3
                      · rename_i z; simp only [z]; exact (offP_of e3 d3).1
                    unfold wholeP ruleP endsP
                    simp only [n0, f1, if_neg c, n2, eo, x3, y3, x4, y4]
                    rw [if_pos ⟨trivial, hr⟩]
                  · cases h
theorem whole_D (wide : Bool) (l : List UInt8) : wholeD wide l = wholeP wide l := by
  cases h : wholeD wide l with
  | some r => rw [whole_of_D h]
  | none =>
    cases k : wholeP wide l with
    | none => rfl
    | some r => rw [wholeD_of k] at h; cases h
end Go.Proofs.YtbneokgeochinaaDoor
