/-
  A region that draws its order, whose operations and calls make memory, each its own, with one store that waits for all of them, and with late ones that only hand values on.
-/
import Derived.Test.YtalpbbgkallohaaDoorLcMid
namespace Go.Proofs.YtalpbbgkallohaaDoor
open Lc

def cBak (ops : Array Oper) : Bool := (List.range ops.size).all fun i => match ops[i]? with | some o => o.guard.isNone && o.after.all (fun e => !Region.binds .any e || decide (e.on < i)) | none => true
def cLate (ops : Array Oper) (s : Nat) (late : Nat → Bool) : Bool := (List.range ops.size).all fun j => match ops[j]? with
  | some o => late j || ((decide (j = s) && o.dst.isNone) || (List.range ops.size).any (fun k => decide (j < k) && !late k && (match ops[k]? with | some p => p.after.any (fun e => Region.binds .any e && decide (e.on = j)) | none => false))) && o.after.all (fun e => !Region.binds .any e || !late e.on)
  | none => true

section
variable {P : Program} {ops : Array Oper} {Q : Exit → Act → World → Prop}
theorem lt_of_get {i : Nat} {o : Oper} (ho : ops[i]? = some o) : i < ops.size := by
  rcases Nat.lt_or_ge i ops.size with g | g
  · exact g
  · rw [Array.getElem?_eq_none g] at ho; cases ho
theorem cBak_get (h : cBak ops = true) {i : Nat} {o : Oper} (ho : ops[i]? = some o) : o.guard = none ∧ ∀ e ∈ o.after, Region.binds .any e = true → e.on < i := by
  unfold cBak at h
  have h := List.all_eq_true.1 h i (List.mem_range.2 (lt_of_get ho))
  rw [ho] at h
  simp only [Bool.and_eq_true, Array.all_eq_true', Bool.or_eq_true, Bool.not_eq_true', decide_eq_true_eq, Option.isNone_iff_eq_none] at h
  refine ⟨h.1, fun e he hb => ?_⟩
  rcases h.2 e he with g | g
  · rw [hb] at g; cases g
  · exact g
theorem cLate_get {s : Nat} {late : Nat → Bool} (h : cLate ops s late = true) {j : Nat} {o : Oper} (ho : ops[j]? = some o) (hl : late j = false) :
    ((j = s ∧ o.dst = none) ∨ ∃ k p e, j < k ∧ late k = false ∧ ops[k]? = some p ∧ e ∈ p.after ∧ Region.binds .any e = true ∧ e.on = j) ∧ ∀ e ∈ o.after, Region.binds .any e = true → late e.on = false := by
  unfold cLate at h
  have h := List.all_eq_true.1 h j (List.mem_range.2 (lt_of_get ho))
  rw [ho] at h
  simp only [hl, Bool.false_or, Bool.and_eq_true, Bool.or_eq_true, decide_eq_true_eq, List.any_eq_true, Bool.not_eq_true', Array.all_eq_true', Option.isNone_iff_eq_none] at h
  refine ⟨?_, fun e he hb => ?_⟩
  rotate_left
  · rcases h.2 e he with g | g
    · rw [hb] at g; cases g
    · exact g
  rcases h.1 with g | ⟨k, _, ⟨hk, hlk⟩, hm⟩
  · exact .inl g
  · cases hp : ops[k]? with
    | none => rw [hp] at hm; cases hm
    | some p =>
      rw [hp] at hm
      simp only [Array.any_eq_true', Bool.and_eq_true, decide_eq_true_eq] at hm
      obtain ⟨e, he, hb, hon⟩ := hm
      exact .inr ⟨k, p, e, hk, hlk, hp, he, hb, hon⟩

/-- What is known in the midst, in any phase. -/
structure Mil (ops : Array Oper) (a0 : Act) (N : Tmp → Value → Prop) (listed : Array Bool) (a : Act) : Prop where
  ls : listed.size = ops.size
  sz : a.tmps.size = a0.tmps.size
  df : a.defers = a0.defers
  old : ∀ t, free' ops t = true → a.tmps[t]? = a0.tmps[t]?
  new : ∀ (i : Nat) (o : Oper) d, listed.getD i false = true → ops[i]? = some o → o.dst = some d → N d (a.tmps.getD d undef)
  cl : ∀ (i : Nat) (o : Oper), listed.getD i false = true → ops[i]? = some o → ∀ e ∈ o.after, Region.binds .any e = true → listed.getD e.on false = true
theorem set_self {l : Array Bool} {i : Nat} (h : i < l.size) : (l.setIfInBounds i true).getD i false = true := by
  simp [Array.getD_eq_getD_getElem?, Array.getElem?_setIfInBounds_self_of_lt h]
theorem set_else {l : Array Bool} {i j : Nat} (h : j ≠ i) : (l.setIfInBounds i true).getD j false = l.getD j false := by
  simp [Array.getD_eq_getD_getElem?, Array.getElem?_setIfInBounds_ne (show i ≠ j from fun g => h g.symm)]
theorem set_on {l : Array Bool} {i j : Nat} (hi : i < l.size) (h : l.getD j false = true) : (l.setIfInBounds i true).getD j false = true := by
  by_cases e : j = i
  · rw [e]; exact set_self hi
  · rw [set_else e]; exact h
theorem put_else {a : Act} {o : Oper} {v : Value} {d : Tmp} (h : o.dst ≠ some d) : (a.put o.dst v).tmps.getD d undef = a.tmps.getD d undef := by
  cases hd : o.dst with
  | none => rfl
  | some d' =>
    have hne : d' ≠ d := fun e => h (by rw [hd, e])
    simp [Act.put, Array.getD_eq_getD_getElem?, Array.getElem?_setIfInBounds_ne hne]
theorem put_self {a : Act} {o : Oper} {v : Value} {d : Tmp} (h : o.dst = some d) (hd : d < a.tmps.size) : (a.put o.dst v).tmps.getD d undef = v := by
  rw [h]; simp [Act.put, Array.getD_eq_getD_getElem?, Array.getElem?_setIfInBounds_self_of_lt hd]
/-- One more is listed. -/
theorem Mil.next {a0 : Act} {N : Tmp → Value → Prop} {listed : Array Bool} {a : Act} (M : Mil ops a0 N listed a) (hD : cDst ops a0.tmps.size = true) {i : Nat} {o : Oper} (ho : ops[i]? = some o)
    (hpre : ∀ e ∈ o.after, Region.binds .any e = true → listed.getD e.on false = true) {v : Value} (hN : ∀ d, o.dst = some d → N d v) : Mil ops a0 N (listed.setIfInBounds i true) (a.put o.dst v) := by
  have lt := lt_of_get ho
  have lts : i < listed.size := by rw [M.ls]; exact lt
  refine ⟨by simp [M.ls], ?_, ?_, ?_, ?_, ?_⟩
  · rw [← M.sz]; cases o.dst <;> simp [Act.put]
  · rw [← M.df]; cases o.dst <;> simp [Act.put]
  · intro t ht
    rw [← M.old t ht]
    cases hd : o.dst with
    | none => rfl
    | some d =>
      have hne : d ≠ t := fun e => by
        unfold free' at ht
        rw [Array.all_eq_true] at ht
        have := ht i lt
        rw [Array.getElem?_eq_getElem lt] at ho
        injection ho with ho
        rw [ho, hd, e] at this
        simp at this
      simp [Act.put, Array.getElem?_setIfInBounds_ne hne]
  · intro j p d hj hp hd
    by_cases e : j = i
    · subst e
      rw [ho] at hp; injection hp with hp; subst hp
      rw [put_self hd (by rw [M.sz]; exact (cDst_get hD ho hd).1)]
      exact hN d hd
    · rw [put_else (fun h => e ((cDst_get hD ho h).2 j p hp hd))]
      exact M.new j p d (by rw [← hj, set_else e]) hp hd
  · intro j p hj hp e he hb
    refine set_on lts ?_
    by_cases h : j = i
    · subst h
      rw [ho] at hp; injection hp with hp; subst hp
      exact hpre e he hb
    · exact M.cl j p (by rw [← hj, set_else h]) hp e he hb

/-- The binding predecessors of an operation. -/
def predL (ops : Array Oper) (i : Nat) : List Nat := match ops[i]? with
  | some o => (o.after.toList.filter fun e => Region.binds .any e).map (·.on)
  | none => []
/-- What an operation's operands come from. -/
def isD : Ground → Bool
  | .data => true
  | _ => false
theorem isD_binds {e : Edge} (h : isD e.ground = true) : Region.binds .any e = true := by
  unfold Region.binds
  cases hg : e.ground <;> rw [hg] at h <;> first | rfl | cases h
def dataL (ops : Array Oper) (i : Nat) : List Nat := match ops[i]? with
  | some o => (o.after.toList.filter fun e => isD e.ground).map (·.on)
  | none => []
/-- All that come before it. -/
def ancL (ops : Array Oper) (i : Nat) : List Nat := (List.range i).reverse.foldl (fun acc k => if acc.contains k then acc ++ (predL ops k).filter (fun x => !acc.contains x) else acc) (predL ops i)
/-- May one still be needed, when this one is carried out? -/
def aliveB (ops : Array Oper) (i j : Nat) : Bool := decide (j ≠ i) && !(ancL ops j).contains i && (List.range ops.size).any (fun k => decide (k ≠ i) && !(ancL ops i).contains k && (dataL ops k).contains j)
theorem predL_mem {i : Nat} {o : Oper} (ho : ops[i]? = some o) {e : Edge} (he : e ∈ o.after) (hb : Region.binds .any e = true) : e.on ∈ predL ops i := by
  unfold predL
  rw [ho]
  exact List.mem_map.2 ⟨e, List.mem_filter.2 ⟨by simpa using he, hb⟩, rfl⟩
theorem dataL_mem {i : Nat} {o : Oper} (ho : ops[i]? = some o) {e : Edge} (he : e ∈ o.after) (hb : isD e.ground = true) : e.on ∈ dataL ops i := by
  unfold dataL
  rw [ho]
  exact List.mem_map.2 ⟨e, List.mem_filter.2 ⟨by simpa using he, hb⟩, rfl⟩
theorem dataL_lt {i x : Nat} (h : x ∈ dataL ops i) : i < ops.size := by
  unfold dataL at h
  cases ho : ops[i]? with
  | none => rw [ho] at h; cases h
  | some o => exact lt_of_get ho
theorem predL_get {i x : Nat} (h : x ∈ predL ops i) : ∃ o e, ops[i]? = some o ∧ e ∈ o.after ∧ Region.binds .any e = true ∧ e.on = x := by
  unfold predL at h
  cases ho : ops[i]? with
  | none => rw [ho] at h; cases h
  | some o =>
    rw [ho] at h
    obtain ⟨e, he, hon⟩ := List.mem_map.1 h
    obtain ⟨h1, h2⟩ := List.mem_filter.1 he
    exact ⟨o, e, rfl, by simpa using h1, h2, hon⟩
theorem anc_all {S : Nat → Prop} (cl : ∀ k x, S k → x ∈ predL ops k → S x) {i : Nat} (h : ∀ x ∈ predL ops i, S x) : ∀ x ∈ ancL ops i, S x := by
  unfold ancL
  generalize (List.range i).reverse = l
  generalize predL ops i = acc at h
  induction l generalizing acc with
  | nil => exact h
  | cons k l ih =>
    rw [List.foldl_cons]
    refine ih _ ?_
    intro x hx
    split at hx
    · rename_i hk
      rcases List.mem_append.1 hx with g | g
      · exact h x g
      · exact cl k x (h k (by simpa using hk)) (List.mem_filter.1 g).1
    · exact h x hx

theorem wp_region_own {id s : Nat} {late : Nat → Bool} {a0 : Act} {w : World} {G : Tmp → Value → World → Prop} {N : Tmp → Value → Prop} {T : Act → World → Prop} (hm : P.follows .mixedOrders = true)
    (hs : s < ops.size) (hls : late s = false) (hB : cBak ops = true) (hE : cLate ops s late = true) (hD : cDst ops a0.tmps.size = true)
    (hS : ∀ t v w w', G t v w → Up w w' → G t v w') (hGN : ∀ t v w, G t v w → N t v)
    (step : ∀ (i : Nat) (o : Oper), i ≠ s → late i = false → ops[i]? = some o → ∀ (a : Act) (w' : World), Up w w' → (∀ t, free' ops t = true → a.tmps[t]? = a0.tmps[t]?) →
      (∀ e ∈ o.after, isD e.ground = true → ∀ (p : Oper) d, ops[e.on]? = some p → p.dst = some d → G d (a.tmps.getD d undef) w') →
      o.wp P a w' (fun a' w'' => ∃ v, a' = a.put o.dst v ∧ (∀ d, o.dst = some d → G d v w'') ∧ Up w w'' ∧ (Up w' w'' ∨ ∀ (j : Nat) (p : Oper) d v', aliveB ops i j = true → ops[j]? = some p → p.dst = some d → G d v' w' → G d v' w'')) Q)
    (pure : ∀ (i : Nat) (o : Oper), late i = true → ops[i]? = some o → ∀ (a : Act) (w' : World), (∀ t, free' ops t = true → a.tmps[t]? = a0.tmps[t]?) →
      (∀ e ∈ o.after, Region.binds .any e = true → ∀ (p : Oper) d, ops[e.on]? = some p → p.dst = some d → N d (a.tmps.getD d undef)) →
      ∃ v, (execOp a.eval o).run P w' = .ok (.value v) w' ∧ ∀ d, o.dst = some d → N d v)
    (store : ∀ o, ops[s]? = some o → ∀ (a : Act) (w' : World), Up w w' → a.tmps.size = a0.tmps.size → (∀ t, free' ops t = true → a.tmps[t]? = a0.tmps[t]?) →
      (∀ e ∈ o.after, isD e.ground = true → ∀ (p : Oper) d, ops[e.on]? = some p → p.dst = some d → G d (a.tmps.getD d undef) w') → o.wp P a w' (fun a' w'' => a' = a ∧ T a w'') Q)
    (keep : ∀ (a : Act) (w' : World) (i : Nat) (p : Oper) d v, late i = true → ops[i]? = some p → p.dst = some d → T a w' → T (a.put (some d) v) w')
    (fin : ∀ (a : Act) (w' : World), a.tmps.size = a0.tmps.size → a.defers = a0.defers → (∀ t, free' ops t = true → a.tmps[t]? = a0.tmps[t]?) → T a w' →
      (∀ (i : Nat) (p : Oper) d, late i = true → ops[i]? = some p → p.dst = some d → N d (a.tmps.getD d undef)) → Q .normal a w') :
    (Code.region id ops true).wp P Q a0 w := by
  refine wp_region_any hm ?_
  have W0 : Up w { w with drawn := w.drawn + 1 } := Up.drewN w 1
  have key : ∀ (fuel : Nat) (listed : Array Bool) (a : Act) (w' : World), Mil ops a0 N listed a →
      ((listed.getD s false = false ∧ Up w w' ∧ ∀ (i : Nat) (o : Oper) d, listed.getD i false = true → late i = false → ops[i]? = some o → o.dst = some d → (∃ k, listed.getD k false = false ∧ i ∈ dataL ops k) → G d (a.tmps.getD d undef) w') ∨ (listed.getD s false = true ∧ T a w')) →
      unl listed ops.size ≤ fuel → wpAny P .any ops Q fuel listed a w' := by
    intro fuel
    induction fuel with
    | zero =>
      intro listed a w' M ph hu
      have al := unl_zero (l := listed) ops.size (by omega)
      rcases ph with ⟨hl, _⟩ | ⟨_, hT⟩
      · rw [al s hs] at hl; cases hl
      · refine ⟨?_, fin a w' M.sz M.df M.old hT fun i p d _ hp hd => M.new i p d (al i (lt_of_get hp)) hp hd⟩
        rw [List.eq_nil_iff_forall_not_mem]
        intro j hj
        obtain ⟨p, hp, hf, _⟩ := ready_get hj
        have q := al j (lt_of_get hp)
        have jl : j < listed.size := by rw [M.ls]; exact lt_of_get hp
        simp [Array.getD, jl] at hf q
        rw [q] at hf; cases hf
    | succ fuel ih =>
      intro listed a w' M ph hu
      refine ⟨fun hr => ?_, fun i hi => ?_⟩
      · have least : ∀ k, k ≤ ops.size → ∀ j, j < k → listed.getD j false = true := by
          intro k
          induction k with
          | zero => intro _ j hj; omega
          | succ k ihk =>
            intro hk j hj
            have h0 := ihk (by omega)
            rcases Nat.lt_or_ge j k with g | g
            · exact h0 j g
            · have : j = k := by omega
              subst this
              cases c : listed.getD j false with
              | true => rfl
              | false =>
                exfalso
                have : j ∈ Region.ready .any ops listed := by
                  unfold Region.ready
                  have lt : j < ops.size := by omega
                  refine List.mem_filter.2 ⟨List.mem_range.2 lt, ?_⟩
                  have c' : listed.getD j true = false := by
                    have ljs : j < listed.size := by rw [M.ls]; exact lt
                    simp [Array.getD, ljs] at c ⊢; exact c
                  rw [c', Array.getElem?_eq_getElem lt]
                  simp only [Bool.not_false, Option.map_some, Option.getD_some, Bool.true_and, Array.all_eq_true', Bool.or_eq_true]
                  intro e he
                  cases hbd : Region.binds .any e with
                  | false => exact .inl rfl
                  | true => exact .inr (h0 _ ((cBak_get hB (Array.getElem?_eq_getElem lt)).2 e he hbd))
                rw [hr] at this; cases this
        have al := least ops.size (Nat.le_refl _)
        rcases ph with ⟨hl, _⟩ | ⟨_, hT⟩
        · rw [al s hs] at hl; cases hl
        · exact fin a w' M.sz M.df M.old hT fun i p d _ hp hd => M.new i p d (al i (lt_of_get hp)) hp hd
      · obtain ⟨o, ho, hli, hpre⟩ := ready_get hi
        have lt := lt_of_get ho
        have lts : i < listed.size := by rw [M.ls]; exact lt
        have hli' : listed.getD i false = false := by simp [Array.getD, lts] at hli ⊢; exact hli
        have hg := (cBak_get hB ho).1
        have hfu : unl (listed.setIfInBounds i true) ops.size ≤ fuel := by
          have := unl_in lts hli' ops.size lt
          omega
        unfold wpOp
        rw [ho]
        simp only []
        have hw : Region.wanted o (yielded ops a.tmps) = true := by simp [Region.wanted, hg]
        rw [if_pos hw]
        refine .inl ?_
        cases hla : late i with
        | true =>
          have his : i ≠ s := fun e => by rw [e, hls] at hla; cases hla
          obtain ⟨v, hrun, hN⟩ := pure i o hla ho a w' M.old (fun e he hb p d hp hd => M.new e.on p d (hpre e he hb) hp hd)
          unfold Oper.wp
          rw [hrun, Oper.upon_value]
          refine ih _ _ _ (M.next hD ho hpre hN) ?_ hfu
          rcases ph with ⟨hl, hU, hG⟩ | ⟨hl, hT⟩
          · refine .inl ⟨by rw [set_else (fun e => his e.symm)]; exact hl, hU, fun j p d hj hlj hp hd ⟨k, hk, hkj⟩ => ?_⟩
            have hji : j ≠ i := fun e => by rw [e, hla] at hlj; cases hlj
            rw [put_else (fun h => hji ((cDst_get hD ho h).2 j p hp hd))]
            refine hG j p d (by rw [← hj, set_else hji]) hlj hp hd ⟨k, ?_, hkj⟩
            cases c : listed.getD k false with
            | false => rfl
            | true => rw [set_on lts c] at hk; cases hk
          · refine .inr ⟨by rw [set_else (fun e => his e.symm)]; exact hl, ?_⟩
            cases hd : o.dst with
            | none => exact hT
            | some d => exact keep a w' i o d v hla ho hd hT
        | false =>
          rcases ph with ⟨hl, hU, hG⟩ | ⟨hl, hT⟩
          · by_cases his : i = s
            · subst his
              -- all that are not late are listed
              have all : ∀ k, ∀ (j : Nat) (p : Oper), j ≠ i → late j = false → ops[j]? = some p → ops.size ≤ j + k → listed.getD j false = true := by
                intro k
                induction k with
                | zero => intro j p _ _ hp h; have := lt_of_get hp; omega
                | succ k ihk =>
                  intro j p hji hlj hp h
                  rcases (cLate_get hE hp hlj).1 with ⟨e, _⟩ | ⟨k', p', e, hk', hlk, hp', he, hb, hon⟩
                  · exact absurd e hji
                  · rw [← hon]
                    by_cases e' : k' = i
                    · subst e'
                      rw [ho] at hp'; injection hp' with hp'; subst hp'
                      exact hpre e he hb
                    · exact M.cl k' p' (ihk k' p' e' hlk hp' (by omega)) hp' e he hb
              have hdn : o.dst = none := by
                rcases (cLate_get hE ho hla).1 with ⟨_, e⟩ | ⟨k', p', e, hk', hlk, hp', he, hb, hon⟩
                · exact e
                · exfalso
                  have q : listed.getD k' false = true := all (ops.size) k' p' (by omega) hlk hp' (by omega)
                  have := M.cl k' p' q hp' e he hb
                  rw [hon, hli'] at this; cases this
              refine Oper.wp_mono ?_ (store o ho a w' hU M.sz M.old fun e he hb p d hp hd => hG e.on p d (hpre e he (isD_binds hb)) ((cLate_get hE ho hla).2 e he (isD_binds hb)) hp hd ⟨_, hli', dataL_mem ho he hb⟩)
              rintro a' w'' ⟨rfl, hT⟩
              have M' := M.next hD ho hpre (v := undef) (fun d hd => by rw [hdn] at hd; cases hd)
              rw [hdn] at M'
              exact ih _ _ _ M' (.inr ⟨set_self lts, hT⟩) hfu
            · refine Oper.wp_mono ?_ (step i o his hla ho a w' hU M.old (fun e he hb p d hp hd => hG e.on p d (hpre e he (isD_binds hb)) ((cLate_get hE ho hla).2 e he (isD_binds hb)) hp hd ⟨_, hli', dataL_mem ho he hb⟩))
              rintro a' w'' ⟨v, rfl, hGv, hU', hK⟩
              refine ih _ _ _ (M.next hD ho hpre (fun d hd => hGN _ _ _ (hGv d hd))) (.inl ⟨by rw [set_else (fun e => his e.symm)]; exact hl, hU', fun j p d hj hlj hp hd hk => ?_⟩) hfu
              by_cases e : j = i
              · subst e
                rw [ho] at hp; injection hp with hp; subst hp
                rw [put_self hd (by rw [M.sz]; exact (cDst_get hD ho hd).1)]
                exact hGv d hd
              · rw [put_else (fun h => e ((cDst_get hD ho h).2 j p hp hd))]
                obtain ⟨k, hk, hkj⟩ := hk
                have hj' : listed.getD j false = true := by rw [← hj, set_else e]
                have hki : k ≠ i := fun c => by rw [c, set_self lts] at hk; cases hk
                have hk' : listed.getD k false = false := (set_else hki).symm.trans hk
                have g := hG j p d hj' hlj hp hd ⟨k, hk', hkj⟩
                rcases hK with hK | hK
                · exact hS _ _ _ _ g hK
                · refine hK j p d _ ?_ hp hd g
                  have cl' : ∀ q x, listed.getD q false = true → x ∈ predL ops q → listed.getD x false = true := fun q x hq hx => by
                    obtain ⟨o', e', ho', he', hb', rfl⟩ := predL_get hx
                    exact M.cl q o' hq ho' e' he' hb'
                  have a1 : ∀ x ∈ ancL ops j, listed.getD x false = true := anc_all cl' (fun x hx => cl' j x hj' hx)
                  have a2 : ∀ x ∈ ancL ops i, listed.getD x false = true := anc_all cl' (fun x hx => by
                    obtain ⟨o', e', ho', he', hb', rfl⟩ := predL_get hx
                    rw [ho] at ho'; injection ho' with ho'; subst ho'
                    exact hpre e' he' hb')
                  have ks : k < ops.size := dataL_lt hkj
                  unfold aliveB
                  simp only [Bool.and_eq_true, decide_eq_true_eq, Bool.not_eq_true', List.any_eq_true, List.mem_range]
                  refine ⟨⟨e, ?_⟩, k, ks, ⟨hki, ?_⟩, by simpa using hkj⟩
                  · cases c : (ancL ops j).contains i with
                    | false => rfl
                    | true => have := a1 i (by simpa using c); rw [hli'] at this; cases this
                  · cases c : (ancL ops i).contains k with
                    | false => rfl
                    | true => have := a2 k (by simpa using c); rw [hk'] at this; cases this
          · exfalso
            -- behind the store only late ones are left
            have all : ∀ k, ∀ (j : Nat) (p : Oper), late j = false → ops[j]? = some p → ops.size ≤ j + k → listed.getD j false = true := by
              intro k
              induction k with
              | zero => intro j p _ hp h; have := lt_of_get hp; omega
              | succ k ihk =>
                intro j p hlj hp h
                rcases (cLate_get hE hp hlj).1 with ⟨e, _⟩ | ⟨k', p', e, hk', hlk, hp', he, hb, hon⟩
                · rw [e]; exact hl
                · rw [← hon]; exact M.cl k' p' (ihk k' p' hlk hp' (by omega)) hp' e he hb
            have := all ops.size i o hla ho (by omega)
            rw [hli'] at this; cases this
  refine key ops.size _ a0 _ ⟨by simp, rfl, rfl, fun _ _ => rfl, ?_, ?_⟩ (.inl ⟨by simp [Array.getD, hs], W0, ?_⟩) (unl_le _ _)
  · intro i o d h
    simp [Array.getD_eq_getD_getElem?, Array.getElem?_replicate] at h
    split at h <;> simp at h
  · intro i o h
    simp [Array.getD_eq_getD_getElem?, Array.getElem?_replicate] at h
    split at h <;> simp at h
  · intro i o d h
    simp [Array.getD_eq_getD_getElem?, Array.getElem?_replicate] at h
    split at h <;> simp at h
end
end Go.Proofs.YtalpbbgkallohaaDoor
