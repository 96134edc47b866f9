/-
  What a reader takes: signs, numbers.
-/
import Derived.Test.YtalpbbgkallohaaDoorLcRi
import Derived.Test.YtalpbbgkallohaaDoorLcWrB
import Derived.Test.YtalpbbgkallohaaDoorLcPx1
import Derived.Maps.AppendAt
import Derived.Deep.AppendLies
import Derived.OwnWalk
namespace Go.Proofs.YtalpbbgkallohaaDoor
open Go.ChangeShapes Go.WideShapes Go.ChangeAt Go.RowKit Lc

/-! ### Where only one block turns -/
/-- Of what was there only block b has turned. -/
def Gb (b : Nat) (w w' : World) : Prop := w.grownBy w' (some b)
theorem Gb.refl (b : Nat) (w : World) : Gb b w w := World.grownBy.refl w _
theorem Gb.trans {b : Nat} {x y z : World} (h : Gb b x y) (k : Gb b y z) : Gb b x z := World.grownBy.trans h k
theorem Gb.of {b : Nat} {w w' : World} (u : Up w w') : Gb b w w' := ⟨u.os, u.tape, u.output, u.size, fun k hk _ => u.block k hk⟩
theorem Gb.set {b : Nat} {w V : World} (h : Gb b w V) (o : Nat) (u : Value) : Gb b w (V.setCell ⟨b, o, none⟩ u) :=
  ⟨h.os, h.tape, h.output, by rw [World.size_setCell]; exact h.size, fun k hk hne => by
    rw [Below.heap_setCell _ _ _ _ (fun e => hne (by rw [e]))]; exact h.block k hk hne⟩
theorem Gb.up {w0 w V : World} {b : Nat} (h : Gb b w V) (u : Up w0 w) (hb : w0.heap.size ≤ b) : Up w0 V :=
  Below.grown u h u.size (fun j hj => by cases hj; exact hb)
theorem Bk.gb {w w' : World} {b k : Nat} {cs : Array Value} {T : TypeId} (h : Bk w k cs T) (g : Gb b w w') (hk : k ≠ b) : Bk w' k cs T :=
  ⟨by rw [g.block k h.lt (by simpa using hk)]; exact h.1, h.2⟩
theorem Bk.up {w w' : World} {k : Nat} {cs : Array Value} {T : TypeId} (h : Bk w k cs T) (u : Up w w') : Bk w' k cs T := ⟨by rw [u.block k h.lt]; exact h.1, h.2⟩
theorem Bk.set {w : World} {k : Nat} {cs : Array Value} {T : TypeId} (h : Bk w k cs T) (o : Nat) (v : Value) : Bk (w.setCell ⟨k, o, none⟩ v) k (cs.setIfInBounds o v) T :=
  ⟨by simp [World.setCell, Array.getElem?_modify, h.1], h.2⟩

/-- A reader: what is left of the text, and the form. -/
def In (w : World) (b : Nat) (l : List UInt8) (wide : Bool) : Prop := Bk w b #[.string (tx l), .bool wide] 78 ∧ l.length ≤ 100000
theorem In.up {w w' : World} {b : Nat} {l : List UInt8} {wide : Bool} (h : In w b l wide) (u : Up w w') : In w' b l wide := ⟨h.1.up u, h.2⟩
theorem In.set {w : World} {b : Nat} {l t : List UInt8} {wide : Bool} (h : In w b l wide) (ht : t.length ≤ l.length) : In (w.setCell ⟨b, 0, none⟩ (.string (tx t))) b t wide :=
  ⟨by have := h.1.set 0 (.string (tx t)); simpa using this, by have := h.2; omega⟩
theorem In.c0 {w : World} {b : Nat} {l : List UInt8} {wide : Bool} (h : In w b l wide) : w.cell? ⟨b, 0, none⟩ = some (.string (tx l)) := h.1.cell 0
theorem In.c1 {w : World} {b : Nat} {l : List UInt8} {wide : Bool} (h : In w b l wide) : w.cell? ⟨b, 1, none⟩ = some (.bool wide) := h.1.cell 1
theorem In.f0 {w : World} {b : Nat} {l : List UInt8} {wide : Bool} (h : In w b l wide) : w.frozen? ⟨b, 0, none⟩ = false := h.1.frozen 0

/-- The panic that tells that a text says nothing. -/
def pn4 : List PanicEntry := [{ v := .iface 30 (.int .i64 4), recovered := false }]
/-- What a reader's call does: it panics, or answers and leaves less. -/
def An (b : Nat) (wide : Bool) (w : World) (r : Option (Value × List UInt8)) (e : Ending) (w' : World) : Prop :=
  match r with
  | none => e = .panicked pn4 ∧ Gb b w w'
  | some (v, t) => e = .returned v ∧ In w' b t wide ∧ Gb b w w'

set_option maxRecDepth 100000 in
theorem refuse_no (w : World) : Calls Tryd.prog 59 #[.bool false] w fun e w' => e = .returned (.tuple #[]) ∧ w = w' := by
  go_enter Tryd.func59, Tryd.ntmps59
  go_wp2
  go_end0
  exact ⟨rfl, rfl⟩
set_option maxRecDepth 100000 in
theorem refuse_yes (w : World) : Calls Tryd.prog 59 #[.bool true] w fun e w' => e = .panicked pn4 ∧ w = w' := by
  unfold pn4
  go_enter Tryd.func59, Tryd.ntmps59
  go_wp2
  exact ⟨rfl, rfl, rfl⟩

theorem takeP_len {c : UInt8} {l t : List UInt8} (h : takeP c l = some t) : t.length ≤ l.length := by have := takeP_some h; subst this; simp
set_option maxRecDepth 100000 in
theorem takes_yes (b : Nat) (wide : Bool) (c : UInt8) (l t : List UInt8) (w : World) (h : In w b l wide) (ht : takeP c l = some t) :
    Calls Tryd.prog 65 #[.pointer (some ⟨b, 0, none⟩), .string ⟨#[c]⟩] w fun e w' => e = .returned (.bool true) ∧ In w' b t wide ∧ Gb b w w' := by
  have C := fun w => cutp_yes c l t w ht
  have c0 := h.c0
  have f0 := h.f0
  have I := Lib.hid (h.set (takeP_len ht))
  clear h
  generalize tx l = s at *
  go_enter Tryd.func65, Tryd.ntmps65
  go_wp2_with fail
  refine (C _).mono ?_
  rintro e w' ⟨rfl, rfl⟩
  go_wp2_with fail
  go_ret
  exact ⟨rfl, I.out, (Gb.refl b w).set 0 _⟩
set_option maxRecDepth 100000 in
theorem takes_no (b : Nat) (wide : Bool) (c : UInt8) (l : List UInt8) (w : World) (h : In w b l wide) (ht : takeP c l = none) :
    Calls Tryd.prog 65 #[.pointer (some ⟨b, 0, none⟩), .string ⟨#[c]⟩] w fun e w' => e = .returned (.bool false) ∧ In w' b l wide ∧ Gb b w w' := by
  have C := fun w => cutp_no c l w ht
  have c0 := h.c0
  have f0 := h.f0
  have I := Lib.hid (h.set (Nat.le_refl _))
  clear h
  generalize tx l = s at *
  go_enter Tryd.func65, Tryd.ntmps65
  go_wp2_with fail
  refine (C _).mono ?_
  rintro e w' ⟨rfl, rfl⟩
  go_wp2_with fail
  go_ret
  exact ⟨rfl, I.out, (Gb.refl b w).set 0 _⟩
set_option maxRecDepth 100000 in
theorem needs_yes (b : Nat) (wide : Bool) (c : UInt8) (l t : List UInt8) (w : World) (h : In w b l wide) (ht : takeP c l = some t) :
    Calls Tryd.prog 66 #[.pointer (some ⟨b, 0, none⟩), .string ⟨#[c]⟩] w fun e w' => e = .returned (.tuple #[]) ∧ In w' b t wide ∧ Gb b w w' := by
  have C := takes_yes b wide c l t w h ht
  clear h
  go_enter Tryd.func66, Tryd.ntmps66
  go_wp2_with fail
  refine C.mono ?_
  rintro e w1 ⟨rfl, i1, g1⟩
  go_wp2_with fail
  refine (refuse_no _).mono ?_
  rintro e w2 ⟨rfl, rfl⟩
  go_wp2_with fail
  go_end0
  exact ⟨rfl, i1, g1⟩
set_option maxRecDepth 100000 in
theorem needs_no (b : Nat) (wide : Bool) (c : UInt8) (l : List UInt8) (w : World) (h : In w b l wide) (ht : takeP c l = none) :
    Calls Tryd.prog 66 #[.pointer (some ⟨b, 0, none⟩), .string ⟨#[c]⟩] w fun e w' => e = .panicked pn4 ∧ Gb b w w' := by
  have C := takes_no b wide c l w h ht
  clear h
  go_enter Tryd.func66, Tryd.ntmps66
  go_wp2_with fail
  refine C.mono ?_
  rintro e w1 ⟨rfl, i1, g1⟩
  go_wp2_with fail
  refine (refuse_yes _).mono ?_
  rintro e w2 ⟨rfl, rfl⟩
  go_wp2_with fail
  exact ⟨rfl, rfl, g1⟩

/-! ### Numbers -/
theorem val_take {d : List UInt8} {k : Nat} (h : k < d.length) : val (d.take (k + 1)) = val (d.take k) * 10 + (((d.getD k 0).toNat : Int) - 48) := by
  have e : d.take (k + 1) = d.take k ++ [d.getD k 0] := by
    rw [List.take_add_one, List.getElem?_eq_getElem h, List.getD_eq_getElem?_getD, List.getElem?_eq_getElem h]; rfl
  rw [e, val_snoc]
theorem tx_drop (l : List UInt8) (k : Nat) : (tx l).extract k l.length = tx (l.drop k) := by
  apply ByteArray.ext
  rw [ByteArray.data_extract]
  simp only [tx, List.extract_toArray, List.extract_eq_take_drop]
  rw [List.take_of_length_le (by simp)]
theorem tw_get {p : UInt8 → Bool} {l : List UInt8} {k : Nat} (h : k < (l.takeWhile p).length) : (l.takeWhile p).getD k 0 = l.getD k 0 := by
  have e := tw_split (p := p) l
  conv => rhs; rw [e]
  rw [List.getD_eq_getElem?_getD, List.getD_eq_getElem?_getD, List.getElem?_append_left h]
set_option maxRecDepth 100000 in
set_option maxHeartbeats 4000000 in
theorem number_any (b : Nat) (wide : Bool) (most : Nat) (l : List UInt8) (w : World) (h : In w b l wide) (hm : most ≤ 3) (hm1 : 1 ≤ most) :
    Calls Tryd.prog 73 #[.pointer (some ⟨b, 0, none⟩), .int .i64 most] w fun e w' => An b wide w ((numP most l).map fun x => (.int .i64 x.1, x.2)) e w' := by
  have hin := Lib.hid (tw_in (p := isDg) l)
  have hout := Lib.hid (tw_out (p := isDg) l)
  have hle : (dgs l).length ≤ l.length := tw_le l
  have hl := h.2
  have hgt := Lib.hid (fun k (hk : k < (dgs l).length) => @tw_get isDg l k hk)
  have hsz := tx_size l
  have hg := Lib.hid (tx_get l)
  have hda := dgs_all l
  have hv : ∀ k, 0 ≤ val ((dgs l).take k) ∧ val ((dgs l).take k) < 10 ^ k ∨ 3 < k := by
    intro k
    by_cases q : 3 < k
    · exact .inr q
    · have hb := val_bd _ ((dgs l).take k) rfl (by rw [List.all_eq_true] at hda ⊢; exact fun c hc => hda c (List.mem_of_mem_take hc))
      refine .inl ⟨hb.1, Int.lt_of_lt_of_le hb.2 ?_⟩
      have : 10 ^ ((dgs l).take k).length ≤ 10 ^ k := Nat.pow_le_pow_right (by decide) (by rw [List.length_take]; omega)
      exact_mod_cast this
  have HV := Lib.hid hv
  have hvt := Lib.hid (fun k (hk : k < (dgs l).length) => @val_take (dgs l) k hk)
  have hno : Hid (most < (dgs l).length ∨ (dgs l).length = 0 → numP most l = none) := Lib.hid (fun q => by
    unfold numP
    rw [if_pos]
    rcases q with q | q
    · exact .inr q
    · exact .inl (List.eq_nil_of_length_eq_zero q))
  have hyes : Hid (¬ most < (dgs l).length → (dgs l).length ≠ 0 → numP most l = some (val (dgs l), l.drop (dgs l).length)) := Lib.hid (fun q q0 => by
    unfold numP
    rw [if_neg]
    rintro (x | x)
    · rw [x] at q0; exact q0 rfl
    · exact q x)
  have hval : Hid (val ((dgs l).take (dgs l).length) = val (dgs l)) := Lib.hid (by rw [List.take_length])
  have hdrop := Lib.hid (tx_drop l (dgs l).length)
  have I := Lib.hid h
  have c0 := h.c0
  have f0 := h.f0
  have hset := Lib.hid (fun t ht => @In.set w b l t wide h ht)
  have e1 : (l.takeWhile isDg).length = (dgs l).length := rfl
  have e2 : l.takeWhile isDg = dgs l := rfl
  rw [e1] at hin hout
  rw [e2] at hgt
  clear e1 e2 h hv hda
  obtain ⟨R, hR⟩ : ∃ R, (numP most l).map (fun x => (Value.int .i64 x.1, x.2)) = R := ⟨_, rfl⟩
  rw [hR]
  have HR := Lib.hid hR
  clear hR
  generalize hD : dgs l = D at *
  generalize hmm : D.length = m at *
  have HD := Lib.hid hD
  have HM := Lib.hid hmm
  clear hD hmm
  generalize hs : tx l = s at *
  have HS := Lib.hid hs
  clear hs
  go_enter Tryd.func73, Tryd.ntmps73
  go_wp2_with fail
  go_loop [5, 6] (fun n i => ∃ k : Nat, k ≤ m ∧ k ≤ most ∧ i = .int .i64 k ∧ n = .int .i64 (val (D.take k))) (fun _ i => m - (intOf i).toNat)
  case atStart => exact ⟨0, Nat.zero_le _, Nat.zero_le _, rfl, rfl⟩
  case round =>
    obtain ⟨k, hk, hkm, rfl, rfl⟩ := hrel
    have hvk := HV.out k
    by_cases hlt : k < m
    · obtain ⟨hk1, hk2⟩ := hin.out k hlt
      have hks : k < s.size := by omega
      obtain ⟨c, hcc⟩ : ∃ c, l.getD k 0 = c := ⟨_, rfl⟩
      have gk : s[k]'hks = c := by rw [hg.out k hks, hcc]
      have gD : D.getD k 0 = c := by rw [hgt.out k hlt, hcc]
      have hdk : isDg c = true := by rw [← hcc]; exact hk2
      have bd := isD_bd hdk
      have HG := Lib.hid gD
      clear hcc hk2 gD
      by_cases hmo : k = most
      · subst hmo
        have hN := Lib.hid (hno.out (.inl hlt))
        clear hno hyes hvt HV hval hdrop hset hgt hin hout
        go_wp2_with (first | (go_at_call 57; refine (isD_any _ _).mono ?_; rintro e w' ⟨rfl, rfl⟩) | (go_at_call 59; refine (refuse_yes _).mono ?_; rintro e w' ⟨rfl, rfl⟩))
        rw [← HR.out, hN.out]
        exact ⟨rfl, rfl, Gb.refl _ _⟩
      · have hvt' := hvt.out k hlt
        have h10 : 0 ≤ val (D.take k) ∧ val (D.take k) < 100 := by
          rcases hvk with q | q
          · have : (10 : Int) ^ k ≤ 10 ^ 2 := by
              have : 10 ^ k ≤ 10 ^ 2 := Nat.pow_le_pow_right (by decide) (by omega)
              exact_mod_cast this
            omega
          · omega
        have wu : IntKind.u8.wrap ((c.toNat : Int) - 48) = (c.toNat : Int) - 48 := IntWalk.u8_in _ (by omega)
        rw [HG.out] at hvt'
        have HT := Lib.hid hvt'
        clear hvt'
        generalize val (D.take k) = V at *
        have w1 : wrap64 (V * 10) = V * 10 := wrap_fit (fitB_true.2 (by omega))
        have w2 : wrap64 (V * 10 + ((c.toNat : Int) - 48)) = V * 10 + ((c.toNat : Int) - 48) := wrap_fit (fitB_true.2 (by omega))
        have hmoI : ((k : Int) == (most : Int)) = false := by simp; omega
        clear hno hyes hvt HV hval hdrop hset hgt hin hout hvk
        go_wp2_with (first | (go_at_call 57; refine (isD_any _ _).mono ?_; rintro e w' ⟨rfl, rfl⟩) | (go_at_call 59; refine (refuse_no _).mono ?_; rintro e w' ⟨rfl, rfl⟩))
        go_round
        case rel => exact ⟨k + 1, by omega, by omega, by go_num, by rw [HT.out]⟩
        case measure => simp [intOf]; omega
    · have e : k = m := by omega
      subst e
      by_cases hz : k = 0
      · have hN := Lib.hid (hno.out (.inr hz))
        subst hz
        have hks0 : ∀ h : 0 < l.length, ∃ c, s[0]'(by omega) = c ∧ isDg c = false := fun h => ⟨_, rfl, by rw [hg.out 0 (by omega)]; exact hout.out h⟩
        clear hno hyes hvt HV hval hdrop hset hgt hin hout
        by_cases hend : 0 < l.length
        · obtain ⟨c, gk, hdk⟩ := hks0 hend
          clear hks0
          go_wp2_with (first | (go_at_call 57; refine (isD_any _ _).mono ?_; rintro e w' ⟨rfl, rfl⟩) | (go_at_call 59; refine (refuse_yes _).mono ?_; rintro e w' ⟨rfl, rfl⟩))
          rw [← HR.out, hN.out]
          exact ⟨rfl, rfl, Gb.refl _ _⟩
        · have hl0 : (l.length : Int) = 0 := by omega
          clear hks0
          go_wp2_with (first | (go_at_call 57; refine (isD_any _ _).mono ?_; rintro e w' ⟨rfl, rfl⟩) | (go_at_call 59; refine (refuse_yes _).mono ?_; rintro e w' ⟨rfl, rfl⟩))
          rw [← HR.out, hN.out]
          exact ⟨rfl, rfl, Gb.refl _ _⟩
      · have hN := Lib.hid (hyes.out (by omega) hz)
        have hV := Lib.hid hval.out
        have hX := Lib.hid hdrop.out
        have hE := Lib.hid (hset.out (l.drop k) (by rw [List.length_drop]; omega))
        have hks0 : ∀ h : k < l.length, ∃ c, s[k]'(by omega) = c ∧ isDg c = false := fun h => ⟨_, rfl, by rw [hg.out k (by omega)]; exact hout.out h⟩
        have kz : ((k : Int) == 0) = false := by simp; omega
        have k0 : ¬ (k : Int) = 0 := by omega
        have kl : (k : Int) ≤ (l.length : Int) := by omega
        have ex : s.extract k l.length = tx (l.drop k) := hX.out
        clear hno hyes hvt HV hval hdrop hset hgt hin hout hvk
        generalize tx (l.drop k) = S2 at *
        by_cases hend : k < l.length
        · obtain ⟨c, gk, hdk⟩ := hks0 hend
          clear hks0
          go_wp2_with (first | (go_at_call 57; refine (isD_any _ _).mono ?_; rintro e w' ⟨rfl, rfl⟩) | (go_at_call 59; refine (refuse_no _).mono ?_; rintro e w' ⟨rfl, rfl⟩))
          go_ret
          rw [← HR.out, hN.out, hV.out]
          exact ⟨rfl, hE.out, (Gb.refl b w).set 0 _⟩
        · have hl0 : ¬ (k : Int) < (l.length : Int) := by omega
          clear hks0
          go_wp2_with (first | (go_at_call 57; refine (isD_any _ _).mono ?_; rintro e w' ⟨rfl, rfl⟩) | (go_at_call 59; refine (refuse_no _).mono ?_; rintro e w' ⟨rfl, rfl⟩))
          go_ret
          rw [← HR.out, hN.out, hV.out]
          exact ⟨rfl, hE.out, (Gb.refl b w).set 0 _⟩
end Go.Proofs.YtalpbbgkallohaaDoor
