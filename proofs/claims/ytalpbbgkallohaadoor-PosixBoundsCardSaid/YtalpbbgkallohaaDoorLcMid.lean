/-
  A region that draws its order, whose operations make memory, each its own, and whose last one (a store) waits for all others: what each one leaves in its slot stands, whatever the others make meanwhile.
-/
import Derived.Test.YtalpbbgkallohaaDoorLcUp
import Derived.Orders
namespace Go.Proofs.YtalpbbgkallohaaDoor
open Lc

/-- How many of the first k are not listed. -/
def unl (l : Array Bool) : Nat → Nat
  | 0 => 0
  | k + 1 => unl l k + if l.getD k false = true then 0 else 1
theorem unl_out {l : Array Bool} {i : Nat} : ∀ k, k ≤ i → unl (l.setIfInBounds i true) k = unl l k := fun k h => by
  induction k with
  | zero => rfl
  | succ k ih =>
    have e : (l.setIfInBounds i true).getD k false = l.getD k false := by
      simp [Array.getD_eq_getD_getElem?, Array.getElem?_setIfInBounds_ne (show i ≠ k by omega)]
    rw [unl, unl, ih (by omega), e]
theorem unl_in {l : Array Bool} {i : Nat} (hi : i < l.size) (hf : l.getD i false = false) : ∀ k, i < k → unl (l.setIfInBounds i true) k + 1 = unl l k := fun k h => by
  induction k with
  | zero => omega
  | succ k ih =>
    rcases Nat.lt_or_ge i k with g | g
    · have e : (l.setIfInBounds i true).getD k false = l.getD k false := by
        simp [Array.getD_eq_getD_getElem?, Array.getElem?_setIfInBounds_ne (show i ≠ k by omega)]
      rw [unl, unl, e]
      have := ih g
      omega
    · have : i = k := by omega
      subst this
      have e : (l.setIfInBounds i true).getD i false = true := by
        simp [Array.getD_eq_getD_getElem?, Array.getElem?_setIfInBounds_self_of_lt hi]
      rw [unl, unl, unl_out i (Nat.le_refl _), e, hf]
      simp
theorem unl_zero {l : Array Bool} : ∀ k, unl l k = 0 → ∀ i, i < k → l.getD i false = true := fun k h i hi => by
  induction k with
  | zero => omega
  | succ k ih =>
    rw [unl] at h
    rcases Nat.lt_or_ge i k with g | g
    · exact ih (by omega) g
    · have : i = k := by omega
      subst this
      cases c : l.getD i false with
      | true => rfl
      | false => rw [c] at h; simp at h
theorem unl_le (l : Array Bool) : ∀ k, unl l k ≤ k := fun k => by
  induction k with
  | zero => exact Nat.le_refl _
  | succ k ih => rw [unl]; split <;> omega

/-- The slot is none that the region fills. -/
def free' (ops : Array Oper) (t : Tmp) : Bool := ops.all fun o => o.dst != some t
def cBack (ops : Array Oper) : Bool := (List.range ops.size).all fun i => match ops[i]? with | some o => o.guard.isNone && o.after.all (fun e => decide (e.on < i)) | none => true
def cEdge (ops : Array Oper) (n : Nat) : Bool := (List.range n).all fun j => (List.range ops.size).any fun k => decide (j < k) && (match ops[k]? with | some o => o.after.any (fun e => Region.binds .any e && decide (e.on = j)) | none => false)
def cDst (ops : Array Oper) (m : Nat) : Bool := (List.range ops.size).all fun i => match ops[i]? with
  | some o => (match o.dst with | some d => decide (d < m) && (List.range ops.size).all (fun j => decide (j = i) || (match ops[j]? with | some p => p.dst != some d | none => true)) | none => true)
  | none => true

section
variable {P : Program} {ops : Array Oper} {Q : Exit → Act → World → Prop}
/-- What is known in the midst. -/
structure Mid (ops : Array Oper) (a0 : Act) (w0 : World) (G : Tmp → Value → World → Prop) (listed : Array Bool) (a : Act) (w : World) : Prop where
  up : Up w0 w
  ls : listed.size = ops.size
  sz : a.tmps.size = a0.tmps.size
  df : a.defers = a0.defers
  old : ∀ t, free' ops t = true → a.tmps[t]? = a0.tmps[t]?
  new : ∀ (i : Nat) (o : Oper) d, listed.getD i false = true → ops[i]? = some o → o.dst = some d → G d (a.tmps.getD d undef) w
  cl : ∀ (i : Nat) (o : Oper), listed.getD i false = true → ops[i]? = some o → ∀ e ∈ o.after, Region.binds .any e = true → listed.getD e.on false = true

theorem cBack_get (h : cBack ops = true) {i : Nat} {o : Oper} (ho : ops[i]? = some o) : o.guard = none ∧ ∀ e ∈ o.after, e.on < i := by
  have hi : i < ops.size := by
    rcases Nat.lt_or_ge i ops.size with g | g
    · exact g
    · rw [Array.getElem?_eq_none g] at ho; cases ho
  unfold cBack at h
  have h := List.all_eq_true.1 h i (List.mem_range.2 hi)
  rw [ho] at h
  simp only [Bool.and_eq_true, Array.all_eq_true', decide_eq_true_eq, Option.isNone_iff_eq_none] at h
  exact h
theorem cEdge_get {n : Nat} (h : cEdge ops n = true) {j : Nat} (hj : j < n) : ∃ k o e, j < k ∧ ops[k]? = some o ∧ e ∈ o.after ∧ Region.binds .any e = true ∧ e.on = j := by
  unfold cEdge at h
  have h := List.all_eq_true.1 h j (List.mem_range.2 hj)
  obtain ⟨k, _, hk⟩ := List.any_eq_true.1 h
  simp only [Bool.and_eq_true, decide_eq_true_eq] at hk
  obtain ⟨hk, h2⟩ := hk
  cases ho : ops[k]? with
  | none => rw [ho] at h2; cases h2
  | some o =>
    rw [ho] at h2
    simp only [Array.any_eq_true', Bool.and_eq_true, decide_eq_true_eq] at h2
    obtain ⟨e, he, hb, hon⟩ := h2
    exact ⟨k, o, e, hk, ho, he, hb, hon⟩
theorem cDst_get {m : Nat} (h : cDst ops m = true) {i : Nat} {o : Oper} {d : Tmp} (ho : ops[i]? = some o) (hd : o.dst = some d) : d < m ∧ ∀ (j : Nat) (p : Oper), ops[j]? = some p → p.dst = some d → j = i := by
  have lt : ∀ {i : Nat} {o : Oper}, ops[i]? = some o → i < ops.size := fun {i o} ho => by
    rcases Nat.lt_or_ge i ops.size with g | g
    · exact g
    · rw [Array.getElem?_eq_none g] at ho; cases ho
  unfold cDst at h
  have h := List.all_eq_true.1 h i (List.mem_range.2 (lt ho))
  rw [ho] at h
  simp only [hd, Bool.and_eq_true, decide_eq_true_eq] at h
  refine ⟨h.1, fun j p hp hpd => ?_⟩
  have := List.all_eq_true.1 h.2 j (List.mem_range.2 (lt hp))
  rw [hp] at this
  simp only [Bool.or_eq_true, decide_eq_true_eq, bne_iff_ne, ne_eq] at this
  rcases this with g | g
  · exact g
  · exact absurd hpd g
theorem ready_get {listed : Array Bool} {i : Nat} (h : i ∈ Region.ready .any ops listed) : ∃ o, ops[i]? = some o ∧ listed.getD i true = false ∧ ∀ e ∈ o.after, Region.binds .any e = true → listed.getD e.on false = true := by
  unfold Region.ready at h
  obtain ⟨_, h2⟩ := List.mem_filter.1 h
  simp only [Bool.and_eq_true, Bool.not_eq_true'] at h2
  obtain ⟨h1, h2⟩ := h2
  cases ho : ops[i]? with
  | none => rw [ho] at h2; cases h2
  | some o =>
    rw [ho] at h2
    refine ⟨o, rfl, h1, fun e he hb => ?_⟩
    simp only [Option.map_some, Option.getD_some, Array.all_eq_true', Bool.or_eq_true, Bool.not_eq_true'] at h2
    rcases h2 e he with g | g
    · rw [hb] at g; cases g
    · exact g

theorem wp_region_mid {id n : Nat} {a0 : Act} {w : World} {G : Tmp → Value → World → Prop} (hm : P.follows .mixedOrders = true)
    (hn : ops.size = n + 1) (hB : cBack ops = true) (hE : cEdge ops n = true) (hD : cDst ops a0.tmps.size = true)
    (hS : ∀ t v w w', G t v w → Up w w' → G t v w')
    (step : ∀ (i : Nat) (o : Oper), i < n → ops[i]? = some o → ∀ (a : Act) (w' : World), Up w w' → (∀ t, free' ops t = true → a.tmps[t]? = a0.tmps[t]?) →
      (∀ e ∈ o.after, Region.binds .any e = true → ∀ (p : Oper) d, ops[e.on]? = some p → p.dst = some d → G d (a.tmps.getD d undef) w') →
      ∃ v w'', (execOp a.eval o).run P w' = .ok (.value v) w'' ∧ (∀ d, o.dst = some d → G d v w'') ∧ Up w' w'')
    (last : ∀ o, ops[n]? = some o → ∀ (a : Act) (w' : World), Up w w' → a.tmps.size = a0.tmps.size → a.defers = a0.defers → (∀ t, free' ops t = true → a.tmps[t]? = a0.tmps[t]?) →
      (∀ (i : Nat) (p : Oper) d, i < n → ops[i]? = some p → p.dst = some d → G d (a.tmps.getD d undef) w') → o.wp P a w' (fun a' w'' => Q .normal a' w'') Q) :
    (Code.region id ops true).wp P Q a0 w := by
  refine wp_region_any hm ?_
  have W0 : Up w { w with drawn := w.drawn + 1 } := Up.drewN w 1
  have key : ∀ (fuel : Nat) (listed : Array Bool) (a : Act) (w' : World), Mid ops a0 w G listed a w' → listed.getD n false = false → unl listed ops.size ≤ fuel → wpAny P .any ops Q fuel listed a w' := by
    intro fuel
    induction fuel with
    | zero =>
      intro listed a w' M hl hu
      have := unl_zero (l := listed) ops.size (by omega) n (by omega)
      rw [hl] at this; cases this
    | succ fuel ih =>
      intro listed a w' M hl hu
      refine ⟨fun hr => ?_, fun i hi => ?_⟩
      · exfalso
        -- the least that is not listed is ready
        have least : ∀ k, k ≤ n → ∀ j, j < k → listed.getD j false = true := by
          intro k
          induction k with
          | zero => intro _ j hj; omega
          | succ k ihk =>
            intro hk j hj
            have h0 := ihk (by omega)
            rcases Nat.lt_or_ge j k with g | g
            · exact h0 j g
            · have : j = k := by omega
              subst this
              cases c : listed.getD j false with
              | true => rfl
              | false =>
                exfalso
                have : j ∈ Region.ready .any ops listed := by
                  unfold Region.ready
                  have lt : j < ops.size := by omega
                  refine List.mem_filter.2 ⟨List.mem_range.2 lt, ?_⟩
                  have c' : listed.getD j true = false := by
                    have ljs : j < listed.size := by rw [M.ls]; exact lt
                    simp [Array.getD, ljs] at c ⊢; exact c
                  rw [c', Array.getElem?_eq_getElem lt]
                  simp only [Bool.not_false, Option.map_some, Option.getD_some, Bool.true_and, Array.all_eq_true', Bool.or_eq_true]
                  intro e he
                  exact .inr (h0 _ ((cBack_get hB (Array.getElem?_eq_getElem lt)).2 e he))
                rw [hr] at this; cases this
        have : n ∈ Region.ready .any ops listed := by
          unfold Region.ready
          have lt : n < ops.size := by omega
          refine List.mem_filter.2 ⟨List.mem_range.2 lt, ?_⟩
          have c' : listed.getD n true = false := by
            have ljs : n < listed.size := by rw [M.ls]; exact lt
            simp [Array.getD, ljs] at hl ⊢; exact hl
          rw [c', Array.getElem?_eq_getElem lt]
          simp only [Bool.not_false, Option.map_some, Option.getD_some, Bool.true_and, Array.all_eq_true', Bool.or_eq_true]
          intro e he
          exact .inr (least n (Nat.le_refl _) _ ((cBack_get hB (Array.getElem?_eq_getElem lt)).2 e he))
        rw [hr] at this; cases this
      · obtain ⟨o, ho, hli, hpre⟩ := ready_get hi
        have lt : i < ops.size := by
          rcases Nat.lt_or_ge i ops.size with g | g
          · exact g
          · rw [Array.getElem?_eq_none g] at ho; cases ho
        have lts : i < listed.size := by rw [M.ls]; exact lt
        have hli' : listed.getD i false = false := by simp [Array.getD, lts] at hli ⊢; exact hli
        have hg := (cBack_get hB ho).1
        unfold wpOp
        rw [ho]
        simp only []
        have hw : Region.wanted o (yielded ops a.tmps) = true := by simp [Region.wanted, hg]
        rw [if_pos hw]
        refine .inl ?_
        rcases Nat.lt_or_ge i n with hin | hin
        · obtain ⟨v, w'', hrun, hG, hU⟩ := step i o hin ho a w' M.up M.old (fun e he hb p d hp hd => M.new e.on p d (hpre e he hb) hp hd)
          unfold Oper.wp
          rw [hrun, Oper.upon_value]
          refine ih _ _ _ ⟨M.up.trans hU, by simp [M.ls], ?_, ?_, ?_, ?_, ?_⟩ ?_ ?_
          · rw [← M.sz]; cases o.dst <;> simp [Act.put]
          · rw [← M.df]; cases o.dst <;> simp [Act.put]
          · intro t ht
            rw [← M.old t ht]
            cases hd : o.dst with
            | none => rfl
            | some d =>
              have hne : d ≠ t := fun e => by
                unfold free' at ht
                rw [Array.all_eq_true] at ht
                have := ht i lt
                rw [Array.getElem?_eq_getElem lt] at ho
                injection ho with ho
                rw [ho, hd, e] at this
                simp at this
              simp [Act.put, Array.getElem?_setIfInBounds_ne hne]
          · intro j p d hj hp hd
            by_cases e : j = i
            · subst e
              rw [ho] at hp; injection hp with hp; subst hp
              have hdl := (cDst_get hD ho hd).1
              have : (a.put o.dst v).tmps.getD d undef = v := by
                rw [hd]
                simp [Act.put, Array.getD_eq_getD_getElem?, Array.getElem?_setIfInBounds_self_of_lt (show d < a.tmps.size by rw [M.sz]; exact hdl)]
              rw [this]; exact hG d hd
            · have hj' : listed.getD j false = true := by
                rw [← hj]; simp [Array.getD_eq_getD_getElem?, Array.getElem?_setIfInBounds_ne (show i ≠ j from fun h => e h.symm)]
              have g := hS _ _ _ _ (M.new j p d hj' hp hd) hU
              have : (a.put o.dst v).tmps.getD d undef = a.tmps.getD d undef := by
                cases hd' : o.dst with
                | none => rfl
                | some d' =>
                  have hne : d' ≠ d := fun h => e (((cDst_get hD ho hd').2 j p hp (by rw [hd, h])))
                  simp [Act.put, Array.getD_eq_getD_getElem?, Array.getElem?_setIfInBounds_ne hne]
              rw [this]; exact g
          · intro j p hj hp e he hb
            have on : listed.getD e.on false = true := by
              by_cases h : j = i
              · subst h
                rw [ho] at hp; injection hp with hp; subst hp
                exact hpre e he hb
              · exact M.cl j p (by rw [← hj]; simp [Array.getD_eq_getD_getElem?, Array.getElem?_setIfInBounds_ne (show i ≠ j from fun g => h g.symm)]) hp e he hb
            by_cases h : e.on = i
            · rw [h]; simp [Array.getD_eq_getD_getElem?, Array.getElem?_setIfInBounds_self_of_lt lts]
            · rw [← on]; simp [Array.getD_eq_getD_getElem?, Array.getElem?_setIfInBounds_ne (show i ≠ e.on from fun g => h g.symm)]
          · have e : (listed.setIfInBounds i true).getD n false = listed.getD n false := by simp [Array.getD_eq_getD_getElem?, Array.getElem?_setIfInBounds_ne (show i ≠ n by omega)]
            rw [e]; exact hl
          · have := unl_in lts hli' ops.size lt
            omega
        · have : i = n := by omega
          subst this
          -- all others are listed
          have all : ∀ k, k ≤ i → ∀ j, j < i → i ≤ j + k → listed.getD j false = true := by
            intro k
            induction k with
            | zero => intro _ j h1 h2; omega
            | succ k ihk =>
              intro hk j h1 h2
              obtain ⟨q, p, e, hq, hp, he, hb, hon⟩ := cEdge_get hE h1
              rcases Nat.lt_or_ge q i with g | g
              · rw [← hon]; exact M.cl q p (ihk (by omega) q g (by omega)) hp e he hb
              · have hq' : q = i := by
                  have : q < ops.size := by
                    rcases Nat.lt_or_ge q ops.size with g | g
                    · exact g
                    · rw [Array.getElem?_eq_none g] at hp; cases hp
                  omega
                subst hq'
                rw [ho] at hp; injection hp with hp; subst hp
                rw [← hon]; exact hpre e he hb
          have all' : ∀ j, j < i → listed.getD j false = true := fun j hj => all i (Nat.le_refl _) j hj (by omega)
          refine Oper.wp_mono ?_ (last o ho a w' M.up M.sz M.df M.old fun j p d hj hp hd => M.new j p d (all' j hj) hp hd)
          intro a' w'' hQ
          have nil : Region.ready .any ops (listed.setIfInBounds i true) = [] := by
            rw [List.eq_nil_iff_forall_not_mem]
            intro j hj
            obtain ⟨p, hp, hf, _⟩ := ready_get hj
            have jl : j < ops.size := by
              rcases Nat.lt_or_ge j ops.size with g | g
              · exact g
              · rw [Array.getElem?_eq_none g] at hp; cases hp
            have jls : j < (listed.setIfInBounds i true).size := by simp [M.ls]; exact jl
            by_cases h : j = i
            · subst h; simp [Array.getD, lts] at hf
            · have q := all' j (by omega)
              have : j < listed.size := by simpa using jls
              simp [Array.getD, this, Array.getElem_setIfInBounds_ne this (show i ≠ j from fun g => h g.symm)] at hf q
              rw [q] at hf; cases hf
          cases fuel with
          | zero => exact ⟨nil, hQ⟩
          | succ f => exact ⟨fun _ => hQ, fun j hj => by rw [nil] at hj; cases hj⟩
  refine key ops.size _ a0 _ ⟨W0, by simp, rfl, rfl, fun _ _ => rfl, ?_, ?_⟩ (by simp [Array.getD, hn]) (unl_le _ _)
  · intro i o d h
    simp [Array.getD_eq_getD_getElem?, Array.getElem?_replicate] at h
    split at h <;> simp at h
  · intro i o h
    simp [Array.getD_eq_getD_getElem?, Array.getElem?_replicate] at h
    split at h <;> simp at h
end
end Go.Proofs.YtalpbbgkallohaaDoor
