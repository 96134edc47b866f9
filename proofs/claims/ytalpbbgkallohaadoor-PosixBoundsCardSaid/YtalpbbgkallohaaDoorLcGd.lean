/-
  A region that draws its order, with guards that are known: whatever the order is, an invariant of the world stands, each operation leaves in its slot a value that is known, and of the world what is known of it; the last one waits for all others.
-/
import Derived.Test.YtalpbbgkallohaaDoorLcLat
namespace Go.Proofs.YtalpbbgkallohaaDoor
open Lc

section
variable {P : Program} {ops : Array Oper} {Q : Exit → Act → World → Prop}
def cBakG (ops : Array Oper) : Bool := (List.range ops.size).all fun i => match ops[i]? with | some o => o.after.all (fun e => !Region.binds .any e || decide (e.on < i)) | none => true
theorem cBakG_get (h : cBakG ops = true) {i : Nat} {o : Oper} (ho : ops[i]? = some o) : ∀ e ∈ o.after, Region.binds .any e = true → e.on < i := by
  unfold cBakG at h
  have h := List.all_eq_true.1 h i (List.mem_range.2 (lt_of_get ho))
  rw [ho] at h
  simp only [Array.all_eq_true', Bool.or_eq_true, Bool.not_eq_true', decide_eq_true_eq] at h
  intro e he hb
  rcases h e he with g | g
  · rw [hb] at g; cases g
  · exact g
structure InvG (Wt : Nat → Bool) (ops : Array Oper) (a0 : Act) (J : World → Prop) (G : Tmp → Value → Prop) (A : Nat → World → Prop) (listed : Array Bool) (a : Act) (w : World) : Prop where
  inv : J w
  ls : listed.size = ops.size
  sz : a.tmps.size = a0.tmps.size
  df : a.defers = a0.defers
  old : ∀ t, free' ops t = true → a.tmps[t]? = a0.tmps[t]?
  new : ∀ (i : Nat) (o : Oper) d, listed.getD i false = true → Wt i = true → ops[i]? = some o → o.dst = some d → G d (a.tmps.getD d undef)
  wld : ∀ (i : Nat), i < ops.size → listed.getD i false = true → Wt i = true → A i w
  cl : ∀ (i : Nat) (o : Oper), listed.getD i false = true → ops[i]? = some o → ∀ e ∈ o.after, Region.binds .any e = true → listed.getD e.on false = true

theorem wp_region_gd {Wt : Nat → Bool} {id n : Nat} {a0 : Act} {w : World} {J : World → Prop} {G : Tmp → Value → Prop} {A : Nat → World → Prop} (hm : P.follows .mixedOrders = true)
    (hn : ops.size = n + 1) (hB : cBakG ops = true) (hE : cEdge ops n = true) (hD : cDst ops a0.tmps.size = true)
    (hJ : J { w with drawn := w.drawn + 1 })
    (hWt : ∀ (i : Nat) (o : Oper), ops[i]? = some o → ∀ (a : Act), (∀ e ∈ o.after, Region.binds .any e = true → Wt e.on = true → ∀ (p : Oper) d, ops[e.on]? = some p → p.dst = some d → G d (a.tmps.getD d undef)) → Region.wanted o (yielded ops a.tmps) = Wt i)
    (hWn : Wt n = true)
    (step : ∀ (i : Nat) (o : Oper), i < n → Wt i = true → ops[i]? = some o → ∀ (a : Act) (w' : World), J w' → (∀ t, free' ops t = true → a.tmps[t]? = a0.tmps[t]?) →
      (∀ e ∈ o.after, Region.binds .any e = true → Wt e.on = true → ∀ (p : Oper) d, ops[e.on]? = some p → p.dst = some d → G d (a.tmps.getD d undef)) →
      o.wp P a w' (fun a' w'' => ∃ v, a' = a.put o.dst v ∧ (∀ d, o.dst = some d → G d v) ∧ J w'' ∧ A i w'' ∧ ∀ j, A j w' → A j w'') Q)
    (last : ∀ o, ops[n]? = some o → ∀ (a : Act) (w' : World), J w' → a.tmps.size = a0.tmps.size → a.defers = a0.defers → (∀ t, free' ops t = true → a.tmps[t]? = a0.tmps[t]?) →
      (∀ (i : Nat) (p : Oper) d, i < n → Wt i = true → ops[i]? = some p → p.dst = some d → G d (a.tmps.getD d undef)) → (∀ i, i < n → Wt i = true → A i w') → o.wp P a w' (fun a' w'' => Q .normal a' w'') Q) :
    (Code.region id ops true).wp P Q a0 w := by
  refine wp_region_any hm ?_
  have key : ∀ (fuel : Nat) (listed : Array Bool) (a : Act) (w' : World), InvG Wt ops a0 J G A listed a w' → listed.getD n false = false → unl listed ops.size ≤ fuel → wpAny P .any ops Q fuel listed a w' := by
    intro fuel
    induction fuel with
    | zero =>
      intro listed a w' M hl hu
      have := unl_zero (l := listed) ops.size (by omega) n (by omega)
      rw [hl] at this; cases this
    | succ fuel ih =>
      intro listed a w' M hl hu
      refine ⟨fun hr => ?_, fun i hi => ?_⟩
      · exfalso
        have least : ∀ k, k ≤ n + 1 → ∀ j, j < k → listed.getD j false = true := by
          intro k
          induction k with
          | zero => intro _ j hj; omega
          | succ k ihk =>
            intro hk j hj
            have h0 := ihk (by omega)
            rcases Nat.lt_or_ge j k with g | g
            · exact h0 j g
            · have : j = k := by omega
              subst this
              cases c : listed.getD j false with
              | true => rfl
              | false =>
                exfalso
                have : j ∈ Region.ready .any ops listed := by
                  unfold Region.ready
                  have lt : j < ops.size := by omega
                  refine List.mem_filter.2 ⟨List.mem_range.2 lt, ?_⟩
                  have c' : listed.getD j true = false := by
                    have ljs : j < listed.size := by rw [M.ls]; exact lt
                    simp [Array.getD, ljs] at c ⊢; exact c
                  rw [c', Array.getElem?_eq_getElem lt]
                  simp only [Bool.not_false, Option.map_some, Option.getD_some, Bool.true_and, Array.all_eq_true', Bool.or_eq_true]
                  intro e he
                  cases hbd : Region.binds .any e with
                  | false => exact .inl rfl
                  | true => exact .inr (h0 _ (cBakG_get hB (Array.getElem?_eq_getElem lt) e he hbd))
                rw [hr] at this; cases this
        have := least (n + 1) (Nat.le_refl _) n (by omega)
        rw [hl] at this; cases this
      · obtain ⟨o, ho, hli, hpre⟩ := ready_get hi
        have lt : i < ops.size := lt_of_get ho
        have lts : i < listed.size := by rw [M.ls]; exact lt
        have hli' : listed.getD i false = false := by simp [Array.getD, lts] at hli ⊢; exact hli
        unfold wpOp
        rw [ho]
        simp only []
        have hw : Region.wanted o (yielded ops a.tmps) = Wt i := hWt i o ho a (fun e he hb hwt p d hp hd => M.new e.on p d (hpre e he hb) hwt hp hd)
        have oldp : ∀ (v : Value) t, free' ops t = true → (a.put o.dst v).tmps[t]? = a0.tmps[t]? := by
          intro v t ht
          rw [← M.old t ht]
          cases hd : o.dst with
          | none => rfl
          | some d =>
            have hne : d ≠ t := fun e => by
              unfold free' at ht
              rw [Array.all_eq_true] at ht
              have := ht i lt
              have ho' := ho
              rw [Array.getElem?_eq_getElem lt] at ho'
              injection ho' with ho'
              rw [ho', hd, e] at this
              simp at this
            simp [Act.put, Array.getElem?_setIfInBounds_ne hne]
        have newp : ∀ (v : Value) (j : Nat) (p : Oper) d, j ≠ i → listed.getD j false = true → Wt j = true → ops[j]? = some p → p.dst = some d → G d ((a.put o.dst v).tmps.getD d undef) := by
          intro v j p d e hj hwj hp hd
          have g := M.new j p d hj hwj hp hd
          have : (a.put o.dst v).tmps.getD d undef = a.tmps.getD d undef := by
            cases hd' : o.dst with
            | none => rfl
            | some d' =>
              have hne : d' ≠ d := fun h => e (((cDst_get hD ho hd').2 j p hp (by rw [hd, h])))
              simp [Act.put, Array.getD_eq_getD_getElem?, Array.getElem?_setIfInBounds_ne hne]
          rw [this]; exact g
        have lsn : ∀ j, j ≠ i → (listed.setIfInBounds i true).getD j false = true → listed.getD j false = true := by
          intro j e hj
          rw [← hj]; simp [Array.getD_eq_getD_getElem?, Array.getElem?_setIfInBounds_ne (show i ≠ j from fun h => e h.symm)]
        have clp : ∀ (j : Nat) (p : Oper), (listed.setIfInBounds i true).getD j false = true → ops[j]? = some p → ∀ e ∈ p.after, Region.binds .any e = true → (listed.setIfInBounds i true).getD e.on false = true := by
          intro j p hj hp e he hb
          have on : listed.getD e.on false = true := by
            by_cases h : j = i
            · subst h
              rw [ho] at hp; injection hp with hp; subst hp
              exact hpre e he hb
            · exact M.cl j p (lsn j h hj) hp e he hb
          by_cases h : e.on = i
          · rw [h]; simp [Array.getD_eq_getD_getElem?, Array.getElem?_setIfInBounds_self_of_lt lts]
          · rw [← on]; simp [Array.getD_eq_getD_getElem?, Array.getElem?_setIfInBounds_ne (show i ≠ e.on from fun g => h g.symm)]
        have szp : ∀ v : Value, (a.put o.dst v).tmps.size = a0.tmps.size := by intro v; rw [← M.sz]; cases o.dst <;> simp [Act.put]
        have dfp : ∀ v : Value, (a.put o.dst v).defers = a0.defers := by intro v; rw [← M.df]; cases o.dst <;> simp [Act.put]
        cases hwi : Wt i with
        | false =>
          rw [hwi] at hw
          rw [if_neg (by rw [hw]; decide)]
          have hin : i ≠ n := fun e => by rw [e, hWn] at hwi; cases hwi
          refine ih _ _ _ ⟨M.inv, by simp [M.ls], szp _, dfp _, oldp _, ?_, ?_, clp⟩ ?_ ?_
          · intro j p d hj hwj hp hd
            have e : j ≠ i := fun e => by rw [e, hwi] at hwj; cases hwj
            exact newp _ j p d e (lsn j e hj) hwj hp hd
          · intro j hjs hj hwj
            have e : j ≠ i := fun e => by rw [e, hwi] at hwj; cases hwj
            exact M.wld j hjs (lsn j e hj) hwj
          · have e : (listed.setIfInBounds i true).getD n false = listed.getD n false := by simp [Array.getD_eq_getD_getElem?, Array.getElem?_setIfInBounds_ne hin]
            rw [e]; exact hl
          · have := unl_in lts hli' ops.size lt
            omega
        | true =>
        rw [hwi] at hw
        rw [if_pos hw]
        refine .inl ?_
        rcases Nat.lt_or_ge i n with hin | hin
        · refine Oper.wp_mono ?_ (step i o hin hwi ho a w' M.inv M.old (fun e he hb hwt p d hp hd => M.new e.on p d (hpre e he hb) hwt hp hd))
          rintro a' w'' ⟨v, rfl, hG, hJ', hA, hAA⟩
          refine ih _ _ _ ⟨hJ', by simp [M.ls], szp _, dfp _, oldp _, ?_, ?_, clp⟩ ?_ ?_
          · intro j p d hj hwj hp hd
            by_cases e : j = i
            · subst e
              rw [ho] at hp; injection hp with hp; subst hp
              have hdl := (cDst_get hD ho hd).1
              have : (a.put o.dst v).tmps.getD d undef = v := by
                rw [hd]
                simp [Act.put, Array.getD_eq_getD_getElem?, Array.getElem?_setIfInBounds_self_of_lt (show d < a.tmps.size by rw [M.sz]; exact hdl)]
              rw [this]; exact hG d hd
            · exact newp _ j p d e (lsn j e hj) hwj hp hd
          · intro j hjs hj hwj
            by_cases e : j = i
            · subst e; exact hA
            · exact hAA j (M.wld j hjs (lsn j e hj) hwj)
          · have e : (listed.setIfInBounds i true).getD n false = listed.getD n false := by simp [Array.getD_eq_getD_getElem?, Array.getElem?_setIfInBounds_ne (show i ≠ n by omega)]
            rw [e]; exact hl
          · have := unl_in lts hli' ops.size lt
            omega
        · have : i = n := by omega
          subst this
          have all : ∀ k, k ≤ i → ∀ j, j < i → i ≤ j + k → listed.getD j false = true := by
            intro k
            induction k with
            | zero => intro _ j h1 h2; omega
            | succ k ihk =>
              intro hk j h1 h2
              obtain ⟨q, p, e, hq, hp, he, hb, hon⟩ := cEdge_get hE h1
              rcases Nat.lt_or_ge q i with g | g
              · rw [← hon]; exact M.cl q p (ihk (by omega) q g (by omega)) hp e he hb
              · have hq' : q = i := by have := lt_of_get hp; omega
                subst hq'
                rw [ho] at hp; injection hp with hp; subst hp
                rw [← hon]; exact hpre e he hb
          have all' : ∀ j, j < i → listed.getD j false = true := fun j hj => all i (Nat.le_refl _) j hj (by omega)
          refine Oper.wp_mono ?_ (last o ho a w' M.inv M.sz M.df M.old (fun j p d hj hwj hp hd => M.new j p d (all' j hj) hwj hp hd) (fun j hj hwj => M.wld j (by omega) (all' j hj) hwj))
          intro a' w'' hQ
          have nil : Region.ready .any ops (listed.setIfInBounds i true) = [] := by
            rw [List.eq_nil_iff_forall_not_mem]
            intro j hj
            obtain ⟨p, hp, hf, _⟩ := ready_get hj
            have jl : j < ops.size := lt_of_get hp
            have jls : j < (listed.setIfInBounds i true).size := by simp [M.ls]; exact jl
            by_cases h : j = i
            · subst h; simp [Array.getD, lts] at hf
            · have q := all' j (by omega)
              have : j < listed.size := by simpa using jls
              simp [Array.getD, this, Array.getElem_setIfInBounds_ne this (show i ≠ j from fun g => h g.symm)] at hf q
              rw [q] at hf; cases hf
          cases fuel with
          | zero => exact ⟨nil, hQ⟩
          | succ f => exact ⟨fun _ => hQ, fun j hj => by rw [nil] at hj; cases hj⟩
  refine key ops.size _ a0 _ ⟨hJ, by simp, rfl, rfl, fun _ _ => rfl, ?_, ?_, ?_⟩ (by simp [Array.getD, hn]) (unl_le _ _)
  · intro i o d h
    simp [Array.getD_eq_getD_getElem?, Array.getElem?_replicate] at h
    split at h <;> simp at h
  · intro i _ h
    simp [Array.getD_eq_getD_getElem?, Array.getElem?_replicate] at h
    split at h <;> simp at h
  · intro i o h
    simp [Array.getD_eq_getD_getElem?, Array.getElem?_replicate] at h
    split at h <;> simp at h
end
end Go.Proofs.YtalpbbgkallohaaDoor
