/-
  A rule for drawn regions whose operations make memory, or panic: XLcMid's, each operation by what may come behind it.
-/
import Derived.Test.YtaljddoenjgbfaaGreatLcMm
namespace Go.Proofs.YtaljddoenjgbfaaGreat
open Go.ChangeShapes Go.WideShapes Go.ChangeAt Go.RowKit Lc
section
variable {P : Program} {ops : Array Oper} {Q : Exit → Act → World → Prop}
set_option maxRecDepth 100000 in
theorem wp_region_pan {id n : Nat} {a0 : Act} {w : World} {G : Tmp → Value → World → Prop} (hm : P.follows .mixedOrders = true)
    (hn : ops.size = n + 1) (hB : cBack ops = true) (hE : cEdge ops n = true) (hD : cDst ops a0.tmps.size = true)
    (hS : ∀ t v w w', G t v w → Up w w' → G t v w')
    (step : ∀ (i : Nat) (o : Oper), i < n → ops[i]? = some o → ∀ (a : Act) (w' : World), Up w w' → a.defers = a0.defers → (∀ t, free' ops t = true → a.tmps[t]? = a0.tmps[t]?) →
      (∀ e ∈ o.after, Region.binds .any e = true → ∀ (p : Oper) d, ops[e.on]? = some p → p.dst = some d → G d (a.tmps.getD d undef) w') →
      o.wp P a w' (fun a' w'' => ∃ v, a' = a.put o.dst v ∧ (∀ d, o.dst = some d → G d v w'') ∧ Up w' w'') Q)
    (last : ∀ o, ops[n]? = some o → ∀ (a : Act) (w' : World), Up w w' → a.tmps.size = a0.tmps.size → a.defers = a0.defers → (∀ t, free' ops t = true → a.tmps[t]? = a0.tmps[t]?) →
      (∀ (i : Nat) (p : Oper) d, i < n → ops[i]? = some p → p.dst = some d → G d (a.tmps.getD d undef) w') → o.wp P a w' (fun a' w'' => Q .normal a' w'') Q) :
    (Code.region id ops true).wp P Q a0 w := by
  refine wp_region_any hm ?_
  have W0 : Up w { w with drawn := w.drawn + 1 } := Up.drewN w 1
  have key : ∀ (fuel : Nat) (listed : Array Bool) (a : Act) (w' : World), Mid ops a0 w G listed a w' → listed.getD n false = false → unl listed ops.size ≤ fuel → wpAny P .any ops Q fuel listed a w' := by
    intro fuel
    induction fuel with
    | zero =>
      intro listed a w' M hl hu
      have := unl_zero (l := listed) ops.size (by omega) n (by omega)
      rw [hl] at this; cases this
    | succ fuel ih =>
      intro listed a w' M hl hu
      refine ⟨fun hr => ?_, fun i hi => ?_⟩
      · exfalso
        -- the least that is not listed is ready
        have least : ∀ k, k ≤ n → ∀ j, j < k → listed.getD j false = true := by
          intro k
          induction k with
          | zero => intro _ j hj; omega
          | succ k ihk =>
            intro hk j hj
            have h0 := ihk (by omega)
            rcases Nat.lt_or_ge j k with g | g
            · exact h0 j g
            · have : j = k := by omega
              subst this
              cases c : listed.getD j false with
              | true => rfl
              | false =>
                exfalso
                have : j ∈ Region.ready .any ops listed := by
                  unfold Region.ready
                  have lt : j < ops.size := by omega
                  refine List.mem_filter.2 ⟨List.mem_range.2 lt, ?_⟩
                  have c' : listed.getD j true = false := by
                    have ljs : j < listed.size := by rw [M.ls]; exact lt
                    simp [Array.getD, ljs] at c ⊢; exact c
                  rw [c', Array.getElem?_eq_getElem lt]
                  simp only [Bool.not_false, Option.map_some, Option.getD_some, Bool.true_and, Array.all_eq_true', Bool.or_eq_true]
                  intro e he
                  exact .inr (h0 _ ((cBack_get hB (Array.getElem?_eq_getElem lt)).2 e he))
                rw [hr] at this; cases this
        have : n ∈ Region.ready .any ops listed := by
          unfold Region.ready
          have lt : n < ops.size := by omega
          refine List.mem_filter.2 ⟨List.mem_range.2 lt, ?_⟩
          have c' : listed.getD n true = false := by
            have ljs : n < listed.size := by rw [M.ls]; exact lt
            simp [Array.getD, ljs] at hl ⊢; exact hl
          rw [c', Array.getElem?_eq_getElem lt]
          simp only [Bool.not_false, Option.map_some, Option.getD_some, Bool.true_and, Array.all_eq_true', Bool.or_eq_true]
          intro e he
          exact .inr (least n (Nat.le_refl _) _ ((cBack_get hB (Array.getElem?_eq_getElem lt)).2 e he))
        rw [hr] at this; cases this
      · obtain ⟨o, ho, hli, hpre⟩ := ready_get hi
        have lt : i < ops.size := by
          rcases Nat.lt_or_ge i ops.size with g | g
          · exact g
          · rw [Array.getElem?_eq_none g] at ho; cases ho
        have lts : i < listed.size := by rw [M.ls]; exact lt
        have hli' : listed.getD i false = false := by simp [Array.getD, lts] at hli ⊢; exact hli
        have hg := (cBack_get hB ho).1
        unfold wpOp
        rw [ho]
        simp only []
        have hw : Region.wanted o (yielded ops a.tmps) = true := by simp [Region.wanted, hg]
        rw [if_pos hw]
        refine .inl ?_
        rcases Nat.lt_or_ge i n with hin | hin
        · refine Oper.wp_mono ?_ (step i o hin ho a w' M.up M.df M.old (fun e he hb p d hp hd => M.new e.on p d (hpre e he hb) hp hd))
          rintro a' w'' ⟨v, rfl, hG, hU⟩
          refine ih _ _ _ ⟨M.up.trans hU, by simp [M.ls], ?_, ?_, ?_, ?_, ?_⟩ ?_ ?_
          · rw [← M.sz]; cases o.dst <;> simp [Act.put]
          · rw [← M.df]; cases o.dst <;> simp [Act.put]
          · intro t ht
            rw [← M.old t ht]
            cases hd : o.dst with
            | none => rfl
            | some d =>
              have hne : d ≠ t := fun e => by
                unfold free' at ht
                rw [Array.all_eq_true] at ht
                have := ht i lt
                rw [Array.getElem?_eq_getElem lt] at ho
                injection ho with ho
                rw [ho, hd, e] at this
                simp at this
              simp [Act.put, Array.getElem?_setIfInBounds_ne hne]
          · intro j p d hj hp hd
            by_cases e : j = i
            · subst e
              rw [ho] at hp; injection hp with hp; subst hp
              have hdl := (cDst_get hD ho hd).1
              have : (a.put o.dst v).tmps.getD d undef = v := by
                rw [hd]
                simp [Act.put, Array.getD_eq_getD_getElem?, Array.getElem?_setIfInBounds_self_of_lt (show d < a.tmps.size by rw [M.sz]; exact hdl)]
              rw [this]; exact hG d hd
            · have hj' : listed.getD j false = true := by
                rw [← hj]; simp [Array.getD_eq_getD_getElem?, Array.getElem?_setIfInBounds_ne (show i ≠ j from fun h => e h.symm)]
              have g := hS _ _ _ _ (M.new j p d hj' hp hd) hU
              have : (a.put o.dst v).tmps.getD d undef = a.tmps.getD d undef := by
                cases hd' : o.dst with
                | none => rfl
                | some d' =>
                  have hne : d' ≠ d := fun h => e (((cDst_get hD ho hd').2 j p hp (by rw [hd, h])))
                  simp [Act.put, Array.getD_eq_getD_getElem?, Array.getElem?_setIfInBounds_ne hne]
              rw [this]; exact g
          · intro j p hj hp e he hb
            have on : listed.getD e.on false = true := by
              by_cases h : j = i
              · subst h
                rw [ho] at hp; injection hp with hp; subst hp
                exact hpre e he hb
              · exact M.cl j p (by rw [← hj]; simp [Array.getD_eq_getD_getElem?, Array.getElem?_setIfInBounds_ne (show i ≠ j from fun g => h g.symm)]) hp e he hb
            by_cases h : e.on = i
            · rw [h]; simp [Array.getD_eq_getD_getElem?, Array.getElem?_setIfInBounds_self_of_lt lts]
            · rw [← on]; simp [Array.getD_eq_getD_getElem?, Array.getElem?_setIfInBounds_ne (show i ≠ e.on from fun g => h g.symm)]
          · have e : (listed.setIfInBounds i true).getD n false = listed.getD n false := by simp [Array.getD_eq_getD_getElem?, Array.getElem?_setIfInBounds_ne (show i ≠ n by omega)]
            rw [e]; exact hl
          · have := unl_in lts hli' ops.size lt
            omega
        · have : i = n := by omega
          subst this
          -- all others are listed
          have all : ∀ k, k ≤ i → ∀ j, j < i → i ≤ j + k → listed.getD j false = true := by
            intro k
            induction k with
            | zero => intro _ j h1 h2; omega
            | succ k ihk =>
              intro hk j h1 h2
              obtain ⟨q, p, e, hq, hp, he, hb, hon⟩ := cEdge_get hE h1
              rcases Nat.lt_or_ge q i with g | g
              · rw [← hon]; exact M.cl q p (ihk (by omega) q g (by omega)) hp e he hb
              · have hq' : q = i := by
                  have : q < ops.size := by
                    rcases Nat.lt_or_ge q ops.size with g | g
                    · exact g
                    · rw [Array.getElem?_eq_none g] at hp; cases hp
                  omega
                subst hq'
                rw [ho] at hp; injection hp with hp; subst hp
                rw [← hon]; exact hpre e he hb
          have all' : ∀ j, j < i → listed.getD j false = true := fun j hj => all i (Nat.le_refl _) j hj (by omega)
          refine Oper.wp_mono ?_ (last o ho a w' M.up M.sz M.df M.old fun j p d hj hp hd => M.new j p d (all' j hj) hp hd)
          intro a' w'' hQ
          have nil : Region.ready .any ops (listed.setIfInBounds i true) = [] := by
            rw [List.eq_nil_iff_forall_not_mem]
            intro j hj
            obtain ⟨p, hp, hf, _⟩ := ready_get hj
            have jl : j < ops.size := by
              rcases Nat.lt_or_ge j ops.size with g | g
              · exact g
              · rw [Array.getElem?_eq_none g] at hp; cases hp
            have jls : j < (listed.setIfInBounds i true).size := by simp [M.ls]; exact jl
            by_cases h : j = i
            · subst h; simp [Array.getD, lts] at hf
            · have q := all' j (by omega)
              have : j < listed.size := by simpa using jls
              simp [Array.getD, this, Array.getElem_setIfInBounds_ne this (show i ≠ j from fun g => h g.symm)] at hf q
              rw [q] at hf; cases hf
          cases fuel with
          | zero => exact ⟨nil, hQ⟩
          | succ f => exact ⟨fun _ => hQ, fun j hj => by rw [nil] at hj; cases hj⟩
  refine key ops.size _ a0 _ ⟨W0, by simp, rfl, rfl, fun _ _ => rfl, ?_, ?_⟩ (by simp [Array.getD, hn]) (unl_le _ _)
  · intro i o d h
    simp [Array.getD_eq_getD_getElem?, Array.getElem?_replicate] at h
    split at h <;> simp at h
  · intro i o h
    simp [Array.getD_eq_getD_getElem?, Array.getElem?_replicate] at h
    split at h <;> simp at h
end
end Go.Proofs.YtaljddoenjgbfaaGreat
