/-
  The document's own answer of layer 8: a name at a place.
-/
import Derived.Test.YtalpbbgkallohaaDoorLcDg1
import Derived.Test.YtalpbbgkallohaaDoorLcRn
namespace Go.Proofs.YtalpbbgkallohaaDoor
open Go.ChangeShapes Go.WideShapes Go.ChangeAt Go.RowKit Lc

theorem tx_cut (L : List UInt8) (a m : Nat) : (tx L).extract a (a + m) = tx ((L.drop a).take m) := by
  apply ByteArray.ext
  rw [ByteArray.data_extract]
  simp only [tx, List.extract_toArray, List.extract_eq_take_drop]
  rw [show a + m - a = m by omega]
/-- A name at a place: letters. -/
theorem word_ltr {L : List UInt8} {k : Nat} (h : takeP 60 (L.drop k) = none) : nameD (L.drop k) = if nameB (ltr (L.drop k)) = true then some (ltr (L.drop k), L.drop (k + (ltr (L.drop k)).length)) else none := by
  unfold nameD nameP
  simp only [h, List.drop_drop]
/-- A name at a place: in brackets. -/
theorem word_brk {L t : List UInt8} {k : Nat} (h : takeP 60 (L.drop k) = some t) : nameD (L.drop k) = if ¬ (upTo t).length = t.length ∧ nameB (upTo t) = true then some (upTo t, t.drop ((upTo t).length + 1)) else none := by
  unfold nameD nameP
  simp only [h]
  by_cases c : (upTo t).length = t.length
  · simp [c]
  · simp [c]
set_option maxRecDepth 100000 in
set_option maxHeartbeats 8000000 in
theorem dword_ltr (L : List UInt8) (k : Nat) (w : World) (hL : L.length ≤ 100000) (hk : k ≤ L.length) (h : takeP 60 (L.drop k) = none) (B : Bool) (hB : nameB (ltr (L.drop k)) = B) :
    Calls Tryd.prog 33 #[.string (tx L), .int .i64 (k : Int)] w fun e w' => e = .returned (.tuple #[.string (if B then tx (ltr (L.drop k)) else ⟨#[]⟩), .int .i64 (if B then ((k + (ltr (L.drop k)).length : Nat) : Int) else -1)]) ∧ w = w' := by
  have hsz := tx_size L
  have hg := Lib.hid (tx_get L)
  obtain ⟨m, hm⟩ : ∃ m, (ltr (L.drop k)).length = m := ⟨_, rfl⟩
  have hin : Hid (∀ j, j < m → isL (L.getD (k + j) 0) = true) := Lib.hid (fun j hj => by
    have := (tw_in (p := isL) (L.drop k) j (by rw [← hm] at hj; exact hj)).2
    rw [getD_drop] at this; exact this)
  have hml : m ≤ L.length - k := by rw [← hm, ← List.length_drop]; exact tw_le _
  have hout : Hid (k + m < L.length → isL (L.getD (k + m) 0) = false) := Lib.hid (fun hlt => by
    have := tw_out (p := isL) (L.drop k) (by rw [show (L.drop k).takeWhile isL = ltr (L.drop k) from rfl, hm, List.length_drop]; omega)
    rw [show (L.drop k).takeWhile isL = ltr (L.drop k) from rfl, hm, getD_drop] at this; exact this)
  have ex := tx_cut L k m
  rw [show (L.drop k).take m = ltr (L.drop k) by rw [← hm]; exact tw_take _] at ex
  have NM := Lib.hid (fun w => dname_any (ltr (L.drop k)) w (by rw [hm]; unfold maxLen; omega))
  rw [hB] at NM
  rw [hm]
  have hh : Hid (∀ q : k < (tx L).size, ¬ (((tx L)[k]'q).toNat : Int) = 60) := Lib.hid (fun q => by
    have e : L.drop k = L[k]'(by omega) :: L.drop (k + 1) := List.drop_eq_getElem_cons (by omega)
    rw [tx_get, List.getD_eq_getElem?_getD, List.getElem?_eq_getElem (by omega)]
    rw [e] at h
    exact ne_i h)
  have SL : Hid (∀ w : World, (Instr.slice 9 (.string (tx L)) (some (.int .i64 (k : Int))) (some (.int .i64 ((k : Int) + (m : Int)))) none).run Tryd.prog w = .ok (.string (tx (ltr (L.drop k)))) w) := Lib.hid (fun w => by
    have := run_slice_string (P := Tryd.prog) w 9 (tx L) .i64 .i64 (k : Int) ((k : Int) + (m : Int)) Tryd.underlying9 (by omega) (by omega) (by omega)
    rw [this, show (k : Int).toNat = k by omega, show ((k : Int) + (m : Int)).toNat = k + m by omega, ex])
  generalize tx (ltr (L.drop k)) = N at *
  generalize tx L = S at *
  clear h hB hm ex
  by_cases c0 : k < L.length
  all_goals
    try have y0 : ((((S[k]'(by omega)).toNat : Int) == 60) = false) := by simpa using hh.out (by omega)
    clear hh
    go_enter Tryd.func33, Tryd.ntmps33
    go_wp2_with fail
    go_loop [7] (fun e => ∃ j : Nat, j ≤ m ∧ e = .int .i64 ((k : Int) + (j : Int))) (fun e => L.length - (intOf e).toNat)
    case atStart => exact ⟨0, Nat.zero_le _, by simp⟩
    case round =>
      obtain ⟨j, hj, rfl⟩ := hrel
      go_wp2_with (go_at_call 36; refine (dletter_any _ _).mono ?_; rintro e w' ⟨rfl, rfl⟩)
      all_goals first
        | (have hlt : k + j < L.length := by omega
           have h1 : isL (S[k + j]'(by omega)) = true := by assumption
           rw [hg.out] at h1
           have hj2 : j < m := by
             rcases Nat.lt_or_ge j m with h | h
             · exact h
             · have e : j = m := by omega
               subst e
               rw [hout.out hlt] at h1; cases h1
           go_round
           case rel => exact ⟨j + 1, by omega, by first | (congr 1; omega) | congr 1⟩
           case measure => simp [intOf]; omega)
        | (have e : j = m := by
             rcases Nat.lt_or_ge j m with h | h
             · exfalso
               have x3 := hin.out j h
               first
                 | omega
                 | (have h1 : isL (S[k + j]'(by omega)) = false := by assumption
                    rw [hg.out, x3] at h1; cases h1)
             · omega
           subst e
           have sl := SL.out
           rw [sl]
           go_wp2_with fail
           refine (NM.out _).mono ?_; rintro e w' ⟨rfl, rfl⟩
           cases B
           · go_wp2_with fail
             exact bodyPost_ret (v := .tuple #[.string ⟨#[]⟩, .int .i64 (-1)]) (by simp [results, Tryd.results33, go_sem]) rfl ⟨rfl, rfl⟩
           · go_wp2_with fail
             exact bodyPost_ret (v := .tuple #[.string N, .int .i64 ((k : Int) + (j : Int))]) (by simp [results, Tryd.results33, go_sem]) rfl ⟨rfl, rfl⟩)
set_option maxRecDepth 100000 in
set_option maxHeartbeats 8000000 in
theorem dword_brk (L t : List UInt8) (k : Nat) (w : World) (hL : L.length ≤ 100000) (h : L.drop k = 60 :: t) (B : Bool) (hB : nameB (upTo t) = B) :
    Calls Tryd.prog 33 #[.string (tx L), .int .i64 (k : Int)] w fun e w' => e = .returned (.tuple #[.string (if decide ((upTo t).length = t.length) = false ∧ B = true then tx (upTo t) else ⟨#[]⟩), .int .i64 (if decide ((upTo t).length = t.length) = false ∧ B = true then ((k + 1 + (upTo t).length + 1 : Nat) : Int) else -1)]) ∧ w = w' := by
  obtain ⟨hk, hc, ht⟩ := at_cons h
  have hsz := tx_size L
  have hg := Lib.hid (tx_get L)
  have tl : t.length = L.length - (k + 1) := by rw [← ht, List.length_drop]
  obtain ⟨m, hm⟩ : ∃ m, (upTo t).length = m := ⟨_, rfl⟩
  have hin : Hid (∀ j, j < m → ¬ ((L.getD (k + 1 + j) 0).toNat : Int) = 62) := Lib.hid (fun j hj => by
    have := (tw_in (p := fun c => c != 62) t j (by rw [← hm] at hj; exact hj)).2
    rw [← ht, getD_drop] at this
    intro e
    have e2 : L.getD (k + 1 + j) 0 = 62 := UInt8.toNat_inj.1 (by rw [show (62 : UInt8).toNat = 62 from rfl]; omega)
    rw [e2] at this; exact absurd this (by decide))
  have hml : m ≤ L.length - (k + 1) := by rw [← hm, ← tl]; exact tw_le _
  have hout : Hid (k + 1 + m < L.length → ((L.getD (k + 1 + m) 0).toNat : Int) = 62) := Lib.hid (fun hlt => by
    have := tw_out (p := fun c => c != 62) t (by rw [show t.takeWhile (fun c => c != 62) = upTo t from rfl, hm, tl]; omega)
    rw [show t.takeWhile (fun c => c != 62) = upTo t from rfl, hm, ← ht, getD_drop] at this
    have e2 : L.getD (k + 1 + m) 0 = 62 := by simpa using this
    rw [e2]; rfl)
  have ex := tx_cut L (k + 1) m
  rw [ht, show t.take m = upTo t by rw [← hm]; exact tw_take _] at ex
  have NM := Lib.hid (fun w => dname_any (upTo t) w (by rw [hm]; unfold maxLen; omega))
  rw [hB] at NM
  rw [hm]
  have y0 : ∀ q, ((((tx L)[k]'q).toNat : Int) == 60) = true := fun q => by rw [hs_at h]; rfl
  have SL : Hid (∀ w : World, (Instr.slice 9 (.string (tx L)) (some (.int .i64 ((k : Int) + 1))) (some (.int .i64 ((k : Int) + 1 + (m : Int)))) none).run Tryd.prog w = .ok (.string (tx (upTo t))) w) := Lib.hid (fun w => by
    have := run_slice_string (P := Tryd.prog) w 9 (tx L) .i64 .i64 ((k : Int) + 1) ((k : Int) + 1 + (m : Int)) Tryd.underlying9 (by omega) (by omega) (by omega)
    rw [this, show ((k : Int) + 1).toNat = k + 1 by omega, show ((k : Int) + 1 + (m : Int)).toNat = k + 1 + m by omega, ex])
  have tl2 : (t.length : Int) = (L.length : Int) - (k : Int) - 1 := by omega
  generalize t.length = tn at *
  generalize tx (upTo t) = N at *
  generalize tx L = S at *
  clear hB hm ex ht hc h
  go_enter Tryd.func33, Tryd.ntmps33
  go_wp2_with fail
  go_loop [6] (fun e => ∃ j : Nat, j ≤ m ∧ e = .int .i64 ((k : Int) + 1 + (j : Int))) (fun e => L.length - (intOf e).toNat)
  case atStart => exact ⟨0, Nat.zero_le _, by simp⟩
  case round =>
    obtain ⟨j, hj, rfl⟩ := hrel
    go_wp2_with fail
    all_goals first
      | (have hlt : k + 1 + j < L.length := by omega
         have hj2 : j < m := by
           rcases Nat.lt_or_ge j m with h | h
           · exact h
           · exfalso
             have e : j = m := by omega
             subst e
             have h1 := hout.out hlt
             rw [← hg.out _ (by omega)] at h1
             simp_all
         go_round
         case rel => exact ⟨j + 1, by omega, by first | (congr 1; omega) | congr 1⟩
         case measure => simp [intOf]; omega)
      | (have e : j = m := by
           rcases Nat.lt_or_ge j m with h | h
           · exfalso
             have x3 := hin.out j h
             first
               | omega
               | (rw [← hg.out _ (by omega)] at x3
                  simp_all)
           · omega
         subst e
         have sl := SL.out
         by_cases c : L.length = k + 1 + j
         · have d : decide (j = tn) = true := by simp; omega
           first
             | (exfalso; omega)
             | exact bodyPost_ret (v := .tuple #[.string ⟨#[]⟩, .int .i64 (-1)]) (by simp [results, Tryd.results33, go_sem]) rfl ⟨rfl, rfl⟩
         · have d : decide (j = tn) = false := by simp; omega
           first
             | (exfalso; omega)
             | (have c2 : (((k : Int) + 1 + (j : Int)) == (L.length : Int)) = false := by simp; omega
                rw [sl]
                go_wp2_with fail
                refine (NM.out _).mono ?_; rintro e w' ⟨rfl, rfl⟩
                cases B
                · go_wp2_with fail
                  all_goals exact bodyPost_ret (v := .tuple #[.string ⟨#[]⟩, .int .i64 (-1)]) (by simp [results, Tryd.results33, go_sem]) rfl ⟨rfl, rfl⟩
                · go_wp2_with fail
                  all_goals exact bodyPost_ret (v := .tuple #[.string N, .int .i64 ((k : Int) + 1 + (j : Int) + 1)]) (by simp [results, Tryd.results33, go_sem]) rfl ⟨rfl, rfl⟩))
/-- No name there. -/
theorem dword_no {L : List UInt8} {k : Nat} (hL : L.length ≤ 100000) (hk : k ≤ L.length) (q : nameD (L.drop k) = none) (w : World) :
    Calls Tryd.prog 33 #[.string (tx L), .int .i64 (k : Int)] w fun e w' => e = .returned (.tuple #[.string ⟨#[]⟩, .int .i64 (-1)]) ∧ w = w' := by
  cases h : takeP 60 (L.drop k) with
  | none =>
    rw [word_ltr h] at q
    cases B : nameB (ltr (L.drop k)) with
    | true => rw [B, if_pos rfl] at q; cases q
    | false =>
      have := dword_ltr L k w hL hk h false B
      simpa using this
  | some t =>
    rw [word_brk h] at q
    have := dword_brk L t k w hL (takeP_some h) _ rfl
    by_cases c : ¬ (upTo t).length = t.length ∧ nameB (upTo t) = true
    · rw [if_pos c] at q; cases q
    · have c' : ¬ (decide ((upTo t).length = t.length) = false ∧ nameB (upTo t) = true) := fun z => c ⟨by simpa using z.1, z.2⟩
      rw [if_neg c', if_neg c'] at this
      exact this
/-- A name, and where it ends. -/
theorem dword_yes {L m t : List UInt8} {k : Nat} (hL : L.length ≤ 100000) (hk : k ≤ L.length) (q : nameD (L.drop k) = some (m, t)) :
    ∃ j : Nat, k < j ∧ j ≤ L.length ∧ L.drop j = t ∧ ∀ w, Calls Tryd.prog 33 #[.string (tx L), .int .i64 (k : Int)] w fun e w' => e = .returned (.tuple #[.string (tx m), .int .i64 (j : Int)]) ∧ w = w' := by
  have hm3 : nameB m = true := by
    unfold nameD at q
    split at q
    · cases q
    · split at q
      · rename_i b
        simp only [Option.some.injEq, Prod.mk.injEq] at q
        obtain ⟨rfl, rfl⟩ := q
        exact b
      · cases q
  have hm4 : 3 ≤ m.length := by
    unfold nameB at hm3
    simp only [Bool.and_eq_true, decide_eq_true_eq] at hm3
    omega
  cases h : takeP 60 (L.drop k) with
  | none =>
    rw [word_ltr h] at q
    cases B : nameB (ltr (L.drop k)) with
    | false => rw [B, if_neg (by decide)] at q; cases q
    | true =>
      rw [B, if_pos rfl] at q
      simp only [Option.some.injEq, Prod.mk.injEq] at q
      obtain ⟨rfl, rfl⟩ := q
      have hl : (ltr (L.drop k)).length ≤ (L.drop k).length := tw_le _
      rw [List.length_drop] at hl
      refine ⟨k + (ltr (L.drop k)).length, by omega, by omega, rfl, fun w => ?_⟩
      have := dword_ltr L k w hL hk h true B
      simpa using this
  | some u =>
    rw [word_brk h] at q
    by_cases c : ¬ (upTo u).length = u.length ∧ nameB (upTo u) = true
    · rw [if_pos c] at q
      simp only [Option.some.injEq, Prod.mk.injEq] at q
      obtain ⟨rfl, rfl⟩ := q
      obtain ⟨a1, a2, a3⟩ := at_cons (takeP_some h)
      have hl := up_le u
      have ul : u.length = L.length - (k + 1) := by rw [← a3, List.length_drop]
      refine ⟨k + 1 + (upTo u).length + 1, by omega, by omega, ?_, fun w => ?_⟩
      · rw [← a3, List.drop_drop, show k + 1 + (upTo (L.drop (k + 1))).length + 1 = k + 1 + ((upTo (L.drop (k + 1))).length + 1) by omega]
      · have := dword_brk L u k w hL (takeP_some h) _ rfl
        have c' : (decide ((upTo u).length = u.length) = false ∧ nameB (upTo u) = true) := ⟨by simpa using c.1, c.2⟩
        rw [if_pos c', if_pos c'] at this
        exact this
    · rw [if_neg c] at q; cases q
end Go.Proofs.YtalpbbgkallohaaDoor
