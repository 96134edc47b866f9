/-
  A rule for drawn regions whose last operation waits for all, and hands a value on: XLcLat's, its last operation no store.
-/
import Derived.Test.YtaljddoenjgbfaaGreatLcMm
namespace Go.Proofs.YtaljddoenjgbfaaGreat
open Go.ChangeShapes Go.WideShapes Go.ChangeAt Go.RowKit Lc
def cFin (ops : Array Oper) (s : Nat) (late : Nat → Bool) : Bool := (List.range ops.size).all fun j => match ops[j]? with
  | some o => late j || (decide (j = s) || (List.range ops.size).any (fun k => decide (j < k) && !late k && (match ops[k]? with | some p => p.after.any (fun e => Region.binds .any e && decide (e.on = j)) | none => false))) && o.after.all (fun e => !Region.binds .any e || !late e.on)
  | none => true
/-- No operation but s writes the slot. -/
def freeS (ops : Array Oper) (s : Nat) (t : Tmp) : Bool := (List.range ops.size).all fun i => decide (i = s) || (match ops[i]? with | some o => o.dst != some t | none => true)
set_option maxRecDepth 100000 in
theorem freeS_ne {ops : Array Oper} {s : Nat} {t : Tmp} (h : freeS ops s t = true) {i : Nat} {o : Oper} (ho : ops[i]? = some o) (hi : i ≠ s) : o.dst ≠ some t := by
  unfold freeS at h
  have h := List.all_eq_true.1 h i (List.mem_range.2 (lt_of_get ho))
  rw [ho] at h
  simpa [hi] using h
set_option maxRecDepth 100000 in
theorem put_old {a : Act} {d : Option Tmp} {v : Value} {t : Tmp} (h : d ≠ some t) : (a.put d v).tmps[t]? = a.tmps[t]? := by
  cases d with
  | none => rfl
  | some d =>
    have hne : d ≠ t := fun e => h (by rw [e])
    simp [Act.put, Array.getElem?_setIfInBounds_ne hne]
section
variable {P : Program} {ops : Array Oper} {Q : Exit → Act → World → Prop}
set_option maxRecDepth 100000 in
theorem cFin_get {s : Nat} {late : Nat → Bool} (h : cFin ops s late = true) {j : Nat} {o : Oper} (ho : ops[j]? = some o) (hl : late j = false) :
    (j = s ∨ ∃ k p e, j < k ∧ late k = false ∧ ops[k]? = some p ∧ e ∈ p.after ∧ Region.binds .any e = true ∧ e.on = j) ∧ ∀ e ∈ o.after, Region.binds .any e = true → late e.on = false := by
  unfold cFin at h
  have h := List.all_eq_true.1 h j (List.mem_range.2 (lt_of_get ho))
  rw [ho] at h
  simp only [hl, Bool.false_or, Bool.and_eq_true, Bool.or_eq_true, decide_eq_true_eq, List.any_eq_true, Bool.not_eq_true', Array.all_eq_true'] at h
  refine ⟨?_, fun e he hb => ?_⟩
  rotate_left
  · rcases h.2 e he with g | g
    · rw [hb] at g; cases g
    · exact g
  rcases h.1 with g | ⟨k, _, ⟨hk, hlk⟩, hm⟩
  · exact .inl g
  · cases hp : ops[k]? with
    | none => rw [hp] at hm; cases hm
    | some p =>
      rw [hp] at hm
      simp only [Array.any_eq_true', Bool.and_eq_true, decide_eq_true_eq] at hm
      obtain ⟨e, he, hb, hon⟩ := hm
      exact .inr ⟨k, p, e, hk, hlk, hp, he, hb, hon⟩

set_option maxRecDepth 100000 in
theorem wp_region_fin {id s : Nat} {late : Nat → Bool} {a0 : Act} {w : World} {G : Tmp → Value → World → Prop} {N : Tmp → Value → Prop} {T : Act → World → Prop} (hm : P.follows .mixedOrders = true)
    (hs : s < ops.size) (hls : late s = false) (hB : cBak ops = true) (hE : cFin ops s late = true) (hD : cDst ops a0.tmps.size = true)
    (hS : ∀ t v w w', G t v w → Up w w' → G t v w') (hGN : ∀ t v w, G t v w → N t v)
    (step : ∀ (i : Nat) (o : Oper), i ≠ s → late i = false → ops[i]? = some o → ∀ (a : Act) (w' : World), Up w w' → (∀ t, freeS ops s t = true → a.tmps[t]? = a0.tmps[t]?) →
      (∀ e ∈ o.after, isD e.ground = true → ∀ (p : Oper) d, ops[e.on]? = some p → p.dst = some d → G d (a.tmps.getD d undef) w') →
      o.wp P a w' (fun a' w'' => ∃ v, a' = a.put o.dst v ∧ (∀ d, o.dst = some d → G d v w'') ∧ Up w w'' ∧ (Up w' w'' ∨ ∀ (j : Nat) (p : Oper) d v', aliveB ops i j = true → ops[j]? = some p → p.dst = some d → G d v' w' → G d v' w'')) Q)
    (pure : ∀ (i : Nat) (o : Oper), late i = true → ops[i]? = some o → ∀ (a : Act) (w' : World), (∀ t, free' ops t = true → a.tmps[t]? = a0.tmps[t]?) →
      (∀ e ∈ o.after, Region.binds .any e = true → ∀ (p : Oper) d, ops[e.on]? = some p → p.dst = some d → N d (a.tmps.getD d undef)) →
      ∃ v, (execOp a.eval o).run P w' = .ok (.value v) w' ∧ ∀ d, o.dst = some d → N d v)
    (store : ∀ o, ops[s]? = some o → ∀ (a : Act) (w' : World), Up w w' → a.tmps.size = a0.tmps.size → (∀ t, free' ops t = true → a.tmps[t]? = a0.tmps[t]?) →
      (∀ e ∈ o.after, isD e.ground = true → ∀ (p : Oper) d, ops[e.on]? = some p → p.dst = some d → G d (a.tmps.getD d undef) w') → o.wp P a w' (fun a' w'' => ∃ v, a' = a.put o.dst v ∧ (∀ d, o.dst = some d → N d v) ∧ T a' w'') Q)
    (keep : ∀ (a : Act) (w' : World) (i : Nat) (p : Oper) d v, late i = true → ops[i]? = some p → p.dst = some d → T a w' → T (a.put (some d) v) w')
    (fin : ∀ (a : Act) (w' : World), a.tmps.size = a0.tmps.size → a.defers = a0.defers → (∀ t, free' ops t = true → a.tmps[t]? = a0.tmps[t]?) → T a w' →
      (∀ (i : Nat) (p : Oper) d, late i = true → ops[i]? = some p → p.dst = some d → N d (a.tmps.getD d undef)) → Q .normal a w') :
    (Code.region id ops true).wp P Q a0 w := by
  refine wp_region_any hm ?_
  have W0 : Up w { w with drawn := w.drawn + 1 } := Up.drewN w 1
  have key : ∀ (fuel : Nat) (listed : Array Bool) (a : Act) (w' : World), Mil ops a0 N listed a →
      ((listed.getD s false = false ∧ Up w w' ∧ (∀ t, freeS ops s t = true → a.tmps[t]? = a0.tmps[t]?) ∧ ∀ (i : Nat) (o : Oper) d, listed.getD i false = true → late i = false → ops[i]? = some o → o.dst = some d → (∃ k, listed.getD k false = false ∧ i ∈ dataL ops k) → G d (a.tmps.getD d undef) w') ∨ (listed.getD s false = true ∧ T a w')) →
      unl listed ops.size ≤ fuel → wpAny P .any ops Q fuel listed a w' := by
    intro fuel
    induction fuel with
    | zero =>
      intro listed a w' M ph hu
      have al := unl_zero (l := listed) ops.size (by omega)
      rcases ph with ⟨hl, _⟩ | ⟨_, hT⟩
      · rw [al s hs] at hl; cases hl
      · refine ⟨?_, fin a w' M.sz M.df M.old hT fun i p d _ hp hd => M.new i p d (al i (lt_of_get hp)) hp hd⟩
        rw [List.eq_nil_iff_forall_not_mem]
        intro j hj
        obtain ⟨p, hp, hf, _⟩ := ready_get hj
        have q := al j (lt_of_get hp)
        have jl : j < listed.size := by rw [M.ls]; exact lt_of_get hp
        simp [Array.getD, jl] at hf q
        rw [q] at hf; cases hf
    | succ fuel ih =>
      intro listed a w' M ph hu
      refine ⟨fun hr => ?_, fun i hi => ?_⟩
      · have least : ∀ k, k ≤ ops.size → ∀ j, j < k → listed.getD j false = true := by
          intro k
          induction k with
          | zero => intro _ j hj; omega
          | succ k ihk =>
            intro hk j hj
            have h0 := ihk (by omega)
            rcases Nat.lt_or_ge j k with g | g
            · exact h0 j g
            · have : j = k := by omega
              subst this
              cases c : listed.getD j false with
              | true => rfl
              | false =>
                exfalso
                have : j ∈ Region.ready .any ops listed := by
                  unfold Region.ready
                  have lt : j < ops.size := by omega
                  refine List.mem_filter.2 ⟨List.mem_range.2 lt, ?_⟩
                  have c' : listed.getD j true = false := by
                    have ljs : j < listed.size := by rw [M.ls]; exact lt
                    simp [Array.getD, ljs] at c ⊢; exact c
                  rw [c', Array.getElem?_eq_getElem lt]
                  simp only [Bool.not_false, Option.map_some, Option.getD_some, Bool.true_and, Array.all_eq_true', Bool.or_eq_true]
                  intro e he
                  cases hbd : Region.binds .any e with
                  | false => exact .inl rfl
                  | true => exact .inr (h0 _ ((cBak_get hB (Array.getElem?_eq_getElem lt)).2 e he hbd))
                rw [hr] at this; cases this
        have al := least ops.size (Nat.le_refl _)
        rcases ph with ⟨hl, _⟩ | ⟨_, hT⟩
        · rw [al s hs] at hl; cases hl
        · exact fin a w' M.sz M.df M.old hT fun i p d _ hp hd => M.new i p d (al i (lt_of_get hp)) hp hd
      · obtain ⟨o, ho, hli, hpre⟩ := ready_get hi
        have lt := lt_of_get ho
        have lts : i < listed.size := by rw [M.ls]; exact lt
        have hli' : listed.getD i false = false := by simp [Array.getD, lts] at hli ⊢; exact hli
        have hg := (cBak_get hB ho).1
        have hfu : unl (listed.setIfInBounds i true) ops.size ≤ fuel := by
          have := unl_in lts hli' ops.size lt
          omega
        unfold wpOp
        rw [ho]
        simp only []
        have hw : Region.wanted o (yielded ops a.tmps) = true := by simp [Region.wanted, hg]
        rw [if_pos hw]
        refine .inl ?_
        cases hla : late i with
        | true =>
          have his : i ≠ s := fun e => by rw [e, hls] at hla; cases hla
          obtain ⟨v, hrun, hN⟩ := pure i o hla ho a w' M.old (fun e he hb p d hp hd => M.new e.on p d (hpre e he hb) hp hd)
          unfold Oper.wp
          rw [hrun, Oper.upon_value]
          refine ih _ _ _ (M.next hD ho hpre hN) ?_ hfu
          rcases ph with ⟨hl, hU, hF, hG⟩ | ⟨hl, hT⟩
          · refine .inl ⟨by rw [set_else (fun e => his e.symm)]; exact hl, hU, (fun t ht => (put_old (freeS_ne ht ho his)).trans (hF t ht)), fun j p d hj hlj hp hd ⟨k, hk, hkj⟩ => ?_⟩
            have hji : j ≠ i := fun e => by rw [e, hla] at hlj; cases hlj
            rw [put_else (fun h => hji ((cDst_get hD ho h).2 j p hp hd))]
            refine hG j p d (by rw [← hj, set_else hji]) hlj hp hd ⟨k, ?_, hkj⟩
            cases c : listed.getD k false with
            | false => rfl
            | true => rw [set_on lts c] at hk; cases hk
          · refine .inr ⟨by rw [set_else (fun e => his e.symm)]; exact hl, ?_⟩
            cases hd : o.dst with
            | none => exact hT
            | some d => exact keep a w' i o d v hla ho hd hT
        | false =>
          rcases ph with ⟨hl, hU, hF, hG⟩ | ⟨hl, hT⟩
          · by_cases his : i = s
            · subst his
              -- all that are not late are listed
              have all : ∀ k, ∀ (j : Nat) (p : Oper), j ≠ i → late j = false → ops[j]? = some p → ops.size ≤ j + k → listed.getD j false = true := by
                intro k
                induction k with
                | zero => intro j p _ _ hp h; have := lt_of_get hp; omega
                | succ k ihk =>
                  intro j p hji hlj hp h
                  rcases (cFin_get hE hp hlj).1 with e | ⟨k', p', e, hk', hlk, hp', he, hb, hon⟩
                  · exact absurd e hji
                  · rw [← hon]
                    by_cases e' : k' = i
                    · subst e'
                      rw [ho] at hp'; injection hp' with hp'; subst hp'
                      exact hpre e he hb
                    · exact M.cl k' p' (ihk k' p' e' hlk hp' (by omega)) hp' e he hb
              refine Oper.wp_mono ?_ (store o ho a w' hU M.sz M.old fun e he hb p d hp hd => hG e.on p d (hpre e he (isD_binds hb)) ((cFin_get hE ho hla).2 e he (isD_binds hb)) hp hd ⟨_, hli', dataL_mem ho he hb⟩)
              rintro a' w'' ⟨v, rfl, hN, hT⟩
              exact ih _ _ _ (M.next hD ho hpre hN) (.inr ⟨set_self lts, hT⟩) hfu
            · refine Oper.wp_mono ?_ (step i o his hla ho a w' hU hF (fun e he hb p d hp hd => hG e.on p d (hpre e he (isD_binds hb)) ((cFin_get hE ho hla).2 e he (isD_binds hb)) hp hd ⟨_, hli', dataL_mem ho he hb⟩))
              rintro a' w'' ⟨v, rfl, hGv, hU', hK⟩
              refine ih _ _ _ (M.next hD ho hpre (fun d hd => hGN _ _ _ (hGv d hd))) (.inl ⟨by rw [set_else (fun e => his e.symm)]; exact hl, hU', (fun t ht => (put_old (freeS_ne ht ho his)).trans (hF t ht)), fun j p d hj hlj hp hd hk => ?_⟩) hfu
              by_cases e : j = i
              · subst e
                rw [ho] at hp; injection hp with hp; subst hp
                rw [put_self hd (by rw [M.sz]; exact (cDst_get hD ho hd).1)]
                exact hGv d hd
              · rw [put_else (fun h => e ((cDst_get hD ho h).2 j p hp hd))]
                obtain ⟨k, hk, hkj⟩ := hk
                have hj' : listed.getD j false = true := by rw [← hj, set_else e]
                have hki : k ≠ i := fun c => by rw [c, set_self lts] at hk; cases hk
                have hk' : listed.getD k false = false := (set_else hki).symm.trans hk
                have g := hG j p d hj' hlj hp hd ⟨k, hk', hkj⟩
                rcases hK with hK | hK
                · exact hS _ _ _ _ g hK
                · refine hK j p d _ ?_ hp hd g
                  have cl' : ∀ q x, listed.getD q false = true → x ∈ predL ops q → listed.getD x false = true := fun q x hq hx => by
                    obtain ⟨o', e', ho', he', hb', rfl⟩ := predL_get hx
                    exact M.cl q o' hq ho' e' he' hb'
                  have a1 : ∀ x ∈ ancL ops j, listed.getD x false = true := anc_all cl' (fun x hx => cl' j x hj' hx)
                  have a2 : ∀ x ∈ ancL ops i, listed.getD x false = true := anc_all cl' (fun x hx => by
                    obtain ⟨o', e', ho', he', hb', rfl⟩ := predL_get hx
                    rw [ho] at ho'; injection ho' with ho'; subst ho'
                    exact hpre e' he' hb')
                  have ks : k < ops.size := dataL_lt hkj
                  unfold aliveB
                  simp only [Bool.and_eq_true, decide_eq_true_eq, Bool.not_eq_true', List.any_eq_true, List.mem_range]
                  refine ⟨⟨e, ?_⟩, k, ks, ⟨hki, ?_⟩, by simpa using hkj⟩
                  · cases c : (ancL ops j).contains i with
                    | false => rfl
                    | true => have := a1 i (by simpa using c); rw [hli'] at this; cases this
                  · cases c : (ancL ops i).contains k with
                    | false => rfl
                    | true => have := a2 k (by simpa using c); rw [hk'] at this; cases this
          · exfalso
            -- behind the store only late ones are left
            have all : ∀ k, ∀ (j : Nat) (p : Oper), late j = false → ops[j]? = some p → ops.size ≤ j + k → listed.getD j false = true := by
              intro k
              induction k with
              | zero => intro j p _ hp h; have := lt_of_get hp; omega
              | succ k ihk =>
                intro j p hlj hp h
                rcases (cFin_get hE hp hlj).1 with e | ⟨k', p', e, hk', hlk, hp', he, hb, hon⟩
                · rw [e]; exact hl
                · rw [← hon]; exact M.cl k' p' (ihk k' p' hlk hp' (by omega)) hp' e he hb
            have := all ops.size i o hla ho (by omega)
            rw [hli'] at this; cases this
  refine key ops.size _ a0 _ ⟨by simp, rfl, rfl, fun _ _ => rfl, ?_, ?_⟩ (.inl ⟨by simp [Array.getD, hs], W0, (fun _ _ => rfl), ?_⟩) (unl_le _ _)
  · intro i o d h
    simp [Array.getD_eq_getD_getElem?, Array.getElem?_replicate] at h
    split at h <;> simp at h
  · intro i o h
    simp [Array.getD_eq_getD_getElem?, Array.getElem?_replicate] at h
    split at h <;> simp at h
  · intro i o d h
    simp [Array.getD_eq_getD_getElem?, Array.getElem?_replicate] at h
    split at h <;> simp at h
end
end Go.Proofs.YtaljddoenjgbfaaGreat
