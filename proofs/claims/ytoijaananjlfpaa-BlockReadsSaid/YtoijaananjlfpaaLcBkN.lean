/-
  'append(b, s...)' of a text; the program's block: layNames.
-/
import Derived.Test.YtoijaananjlfpaaLcBk1
import Derived.Test.YtoijaananjlfpaaLcStr
import Derived.Test.YtoijaananjlfpaaLcOctP
import Derived.Maps.OwnSet
import Derived.Maps.Views
import Derived.Lib.AppendStr
import Derived.StringKeys
namespace Go.Proofs.Ytoijaananjlfpaa
open Go.ChangeShapes Go.WideShapes Go.ChangeAt Go.RowKit Lc Go.Maps

theorem wpList_append_str (w : World) {ops : Array Oper} {rest : List Oper} {o : Oper} {a : Act} {Q : Exit → Act → World → Prop} (hgd : o.guard = none) (s x : Operand)
    (ho : o.op = .call { callee := .builtin .append, args := #[s, x], argTypes := #[33, 9] })
    (base : Nat) (v : Value) (l : List UInt8) (hs : a.eval s = v) (h : Ow w base v l) (t : ByteArray) (hx : a.eval x = .string t)
    (hsz : l.length + t.size ≤ 140737488355328) (hb : base ≤ w.heap.size)
    (k : ∀ v' w', Ow w' base v' (l ++ tx t) → w.grownBy w' v.ownBlock → wpList Try.prog ops Q rest (a.put o.dst v') w') : wpList Try.prog ops Q (o :: rest) a w := by
  obtain ⟨i0, hi, hz0, hz1, hz2⟩ := info_parts byteInfo
  refine Lib.wpList_append_own_string w hgd s x 33 9 ho base 5 i0 Try.underlying33 Try.underlying9 hi hz0 hz1 hz2 v l.length (bc l) hs h t hx (by unfold maxLen; omega) hsz hb fun v' w' h1 h2 _ => k v' w' ?_ h2
  unfold Ow
  rw [bc_append, List.length_append]
  exact h1

theorem skey : Keyed Try.prog 9 := string_keyed Try.underlying9
theorem zint (w : World) : (zeroValue 3).run Try.prog w = .ok (.int .i64 0) w := by kernel_rfl
/-- A name, as a key. -/
def nk (s : ByteArray) : Lit := .string s.data.toList
theorem nk_inj {s t : ByteArray} (h : nk s = nk t) : s = t := by
  unfold nk at h
  injection h with h
  exact ByteArray.ext (Array.toList_inj.1 h)
theorem nk_key {s : ByteArray} (h : s.size ≤ 255) : keyOf Try.prog 9 (.string s) = some (nk s) := WideMaps.keyOf_string_mk Try.underlying9 (by unfold maxLen; omega)
/-- The map D holds the places of the first k names. -/
def PlD (D : DataW Unit) (ns : List ByteArray) (k : Nat) : Prop :=
  ∀ s, (s ∈ ns.take k → Maps.has D (nk s) = true ∧ D.atKey (nk s) (.lit (.int .i64 0)) = .lit (.int .i64 (plcN ns s))) ∧ (¬ s ∈ ns.take k → Maps.has D (nk s) = false)
/-- Block B is such a map. -/
def Plm (w : World) (B : Nat) (ns : List ByteArray) (k : Nat) : Prop := ∃ D : DataW Unit, w.ownsMap Try.prog 9 (plainElem Try.prog 3) B k D ∧ PlD D ns k
theorem Plm.up {w w' : World} {B : Nat} {ns : List ByteArray} {k : Nat} (h : Plm w B ns k) (u : Up w w') : Plm w' B ns k := by
  obtain ⟨D, h1, h2⟩ := h
  exact ⟨D, h1.kept (row := none) ⟨u.os, u.tape, u.output, u.size, fun k hk _ => u.block k hk⟩ (by simp), h2⟩
theorem PlD.nil (ns : List ByteArray) : PlD (.map []) ns 0 := fun s => ⟨fun h => by simp at h, fun _ => rfl⟩
theorem PlD.old {D : DataW Unit} {ns : List ByteArray} {k : Nat} (h : PlD D ns k) (hk : k < ns.length) (hm : ns.getD k ByteArray.empty ∈ ns.take k) : PlD D ns (k + 1) := fun s => by
  have e : ∀ s, s ∈ ns.take (k + 1) ↔ s ∈ ns.take k := fun s => by
    rw [List.take_succ_eq_append_getElem hk, List.mem_append, List.mem_singleton]
    have : ns.getD k ByteArray.empty = ns[k] := by simp [List.getD, hk]
    rw [this] at hm
    exact ⟨fun h => h.elim id fun h => h ▸ hm, .inl⟩
  rw [e]; exact h s
theorem PlD.new {D : DataW Unit} {ns : List ByteArray} {k : Nat} (h : PlD D ns k) (hD : IsMap D) (hk : k < ns.length) (hm : ¬ ns.getD k ByteArray.empty ∈ ns.take k) (hs : WideAt.IsKeyLit (nk (ns.getD k ByteArray.empty))) :
    PlD (D.put (nk (ns.getD k ByteArray.empty)) (.lit (.int .i64 ((layN ns k).length : Int)))) ns (k + 1) := fun s => by
  have e : s ∈ ns.take (k + 1) ↔ s ∈ ns.take k ∨ s = ns.getD k ByteArray.empty := by
    rw [List.take_succ_eq_append_getElem hk, List.mem_append, List.mem_singleton]
    have : ns.getD k ByteArray.empty = ns[k] := by simp [List.getD, hk]
    rw [this]
  rw [e]
  by_cases c : s = ns.getD k ByteArray.empty
  · subst c
    refine ⟨fun _ => ⟨has_put_same hD hs _, ?_⟩, fun h => absurd (Or.inr rfl) h⟩
    rw [atKey_put_same hD hs]
    unfold plcN
    rw [idx_new hk hm]
  · have ne : nk s ≠ nk (ns.getD k ByteArray.empty) := fun h => c (nk_inj h)
    rw [has_put_other ne, atKey_put_other ne]
    refine ⟨fun g => (h s).1 (g.resolve_right c), fun g => (h s).2 fun x => g (.inl x)⟩

theorem getD_name {ks : List Knd} {k : Nat} (h : k < ks.length) : (ks.map Knd.name).getD k ByteArray.empty = (ks.getD k k0).name := by simp [List.getD, h]

set_option maxRecDepth 100000 in
set_option maxHeartbeats 2000000 in
theorem laynames_any (A : Option Addr) (ks : List Knd) (c : Nat) (w : World) (h256 : ks.length ≤ 256) (hsz : ∀ i, i < ks.length → (ks.getD i k0).name.size ≤ 255) (ra : Rc w A (kc ks)) :
    Calls Try.prog 27 #[.slice A ks.length c] w fun e w' => ∃ v, e = .returned (.tuple #[v, .map (some w.heap.size)]) ∧ Ow w' (w.heap.size + 1) v (layN (ks.map Knd.name) ks.length) ∧ Plm w' w.heap.size (ks.map Knd.name) ks.length ∧ Up w w' := by
  have RA := Lib.hid ra
  have HS := Lib.hid hsz
  clear ra hsz
  obtain ⟨q, hq⟩ : ∃ q, ks.length = q := ⟨_, rfl⟩
  obtain ⟨ns, hns⟩ : ∃ ns, ks.map Knd.name = ns := ⟨_, rfl⟩
  simp only [hq, hns] at h256 ⊢
  have HQ := Lib.hid hq
  have HN := Lib.hid hns
  have HL : Hid (ns.length = q) := Lib.hid (by rw [← hns, List.length_map, hq])
  have HG : Hid (∀ i, i < q → ns.getD i ByteArray.empty = (ks.getD i k0).name) := Lib.hid (fun i hi => by rw [← hns]; exact getD_name (by omega))
  have HZ : Hid (∀ i, i < q → (ns.getD i ByteArray.empty).size ≤ 255) := Lib.hid (fun i hi => by rw [HG.out i hi]; exact HS.out i (by omega))
  clear hq hns
  have hmm := @run_makeMap Try.prog
  go_enter Try.func27, Try.ntmps27
  go_wp2
  clear hmm
  go_loopw [4, 13] (fun v i wr => ∃ k : Nat, k ≤ q ∧ i = .int .i64 k ∧ Ow wr (w.heap.size + 1) v (layN ns k) ∧ Plm wr w.heap.size ns k ∧ Up w wr) (fun _ i _ => q - (intOf i).toNat)
  case atStart => exact ⟨0, Nat.zero_le _, rfl, Ow.nil _ _, ⟨_, World.ownsMap_made _ _ _ _, PlD.nil _⟩, Up.alloc _ _⟩
  case round =>
    obtain ⟨k, hk, rfl, ho, hp, hu⟩ := hrel
    have HO := Lib.hid ho
    have HP := Lib.hid hp
    have HU := Lib.hid hu
    clear ho hp hu
    by_cases hlt : k < q
    · obtain ⟨b, o, rfl, c1, c2, c3⟩ := (RA.out.up HU.out).knd (i := k) (by rw [HQ.out]; exact hlt)
      obtain ⟨ko, e1⟩ : ∃ x, Hid ((ks.getD k k0).off = x) := ⟨_, rfl⟩
      obtain ⟨kd, e2⟩ : ∃ x, Hid ((ks.getD k k0).dst = x) := ⟨_, rfl⟩
      obtain ⟨kn, e3⟩ : ∃ x, Hid ((ks.getD k k0).name = x) := ⟨_, rfl⟩
      rw [e1.out] at c1
      rw [e2.out] at c2
      rw [e3.out] at c3
      have hkn : kn.size ≤ 255 := by have := HS.out k (by rw [HQ.out]; exact hlt); rw [e3.out] at this; exact this
      have EN : Hid (ns.getD k ByteArray.empty = kn) := Lib.hid (by rw [HG.out k hlt, e3.out])
      obtain ⟨D, hown, hpl⟩ := HP.out
      have LL := layN_le ns k 255 (fun i hi => HZ.out i (by omega))
      have LL2 : (layN ns k).length ≤ 65536 := by omega
      clear LL
      by_cases hm : kn ∈ ns.take k
      · have hh := ((hpl kn).1 hm).1
        have HP' : Hid (Plm wr w.heap.size ns (k + 1)) := Lib.hid ⟨D, hown.mono (by omega), hpl.old (by rw [HL.out]; exact hlt) (by rw [EN.out]; exact hm)⟩
        have HO' : Hid (layN ns (k + 1) = layN ns k) := Lib.hid (layN_old (by rw [EN.out]; exact hm))
        have HM := Lib.hid hm
        have HW := Lib.hid hown
        have HH := Lib.hid hh
        clear hm hown hpl hh
        go_wp2_with (at_lookup; refine wpList_lookup_own_ok_int _ rfl _ _ 69 rfl 9 3 .i64 skey Try.underlying69 Try.underlying3 (zint _) w.heap.size k D rfl (HW.out.alloc _) _ _ rfl (nk_key hkn) ?_; intro cc hcc hwc; rw [HH.out])
        go_roundw
        case rel => exact ⟨k + 1, by omega, by go_num, by rw [HO'.out]; exact HO.out.up (Up.alloc _ _), HP'.out.up (Up.alloc _ _), HU.out.alloc' _⟩
        case measure => simp [intOf]; omega
      · have hh := (hpl kn).2 hm
        have hD := hown.isMap
        have ks0 : WideAt.IsKeyLit (nk kn) := skey.key (nk_key hkn)
        have HPD : Hid (PlD (D.put (nk kn) (.lit (.int .i64 ((layN ns k).length : Int)))) ns (k + 1)) := Lib.hid (by
          have := hpl.new hD (by rw [HL.out]; exact hlt) (by rw [EN.out]; exact hm) (by rw [EN.out]; exact ks0)
          rw [EN.out] at this; exact this)
        have HO' : Hid (layN ns (k + 1) = layN ns k ++ (tx kn ++ [0])) := Lib.hid (by rw [layN_new (by rw [EN.out]; exact hm), EN.out])
        have HW := Lib.hid hown
        have HH := Lib.hid hh
        clear hm hown hpl hh ks0 hD
        obtain ⟨A', c', rfl, q1, q2, q3, q4⟩ := HO.out.form
        have HF := Lib.hid q4
        have HR := Lib.hid q3
        clear q4 q3
        have WF : (Lit.int .i64 ((layN ns k).length : Int)).wf = true := WalkArith.wf_i64 (by omega)
        have blt : w.heap.size < wr.heap.size := HW.out.lt
        obtain ⟨L, hL⟩ : ∃ L, layN ns k = L := ⟨_, rfl⟩
        rw [hL] at HO HPD HO' LL2 WF q1 ⊢
        have HL := Lib.hid hL
        clear hL
        go_wp2_with (first
          | (at_lookup; refine wpList_lookup_own_ok_int _ rfl _ _ 69 rfl 9 3 .i64 skey Try.underlying69 Try.underlying3 (zint _) w.heap.size k D rfl (HW.out.alloc _) _ _ rfl (nk_key hkn) ?_; intro cc hcc hwc; rw [HH.out])
          | (at_mapUpdate; refine wpList_mapUpdate_own _ rfl _ _ _ 69 rfl 9 3 skey Try.underlying69 _ w.heap.size k _ rfl (HW.out.alloc _) (by unfold maxLen; omega) _ _ _ rfl rfl (nk_key hkn) _ [] (plainElem_int Try.underlying3 WF) ?_))
        intro w1 hown1 hgrow1
        have nb : (Value.slice A' L.length c').ownBlock = none ∨ (Value.slice A' L.length c').ownBlock ≠ some w.heap.size := by
          rcases hb : (Value.slice A' L.length c').ownBlock with _ | g
          · exact .inl rfl
          · refine .inr fun e => ?_
            injection e with e
            have := HO.out.block g hb
            omega
        have HO1 : Hid (Ow w1 (w.heap.size + 1) (.slice A' L.length c') L) := Lib.hid (World.ownsRow.kept (HO.out.up (Up.alloc _ _)) hgrow1 nb)
        have U1 : Hid (Up w w1) := Lib.hid (Below.grown (HU.out.alloc' _) hgrow1 (HU.out.alloc' _).size (fun j hj => by cases hj; exact Nat.le_refl _))
        have HM1 : Hid (Plm w1 w.heap.size ns (k + 1)) := Lib.hid ⟨_, hown1, HPD.out⟩
        have cn : w1.cell? ⟨wr.heap.size, 2, none⟩ = some (.string kn) := by
          rw [hgrow1.cell_far _ (by simp) (by simp; omega)]
          simp
        have sz1 : w.heap.size + 1 ≤ w1.heap.size := by have := hown1.lt; omega
        clear hown1 hgrow1 HO HPD HW HP
        go_wp2_with (at_builtin; refine wpList_append_str _ rfl _ _ rfl (w.heap.size + 1) _ L rfl HO1.out kn rfl ?e1 ?e2 ?_)
        case e1 => omega
        case e2 => exact sz1
        intro v2 w2 ho2 hg2
        have nb2 : some w.heap.size ≠ (Value.slice A' L.length c').ownBlock := fun e => by
          have := HO1.out.block w.heap.size e.symm
          omega
        have U2 : Hid (Up w w2) := Lib.hid (U1.out.grown hg2 (fun j hj => by have := HO1.out.block j hj; omega))
        have HM2 : Hid (Plm w2 w.heap.size ns (k + 1)) := Lib.hid (by
          obtain ⟨D', x1, x2⟩ := HM1.out
          exact ⟨D', x1.kept hg2 nb2, x2⟩)
        have HO2 := Lib.hid ho2
        have sz2 : w.heap.size + 1 ≤ w2.heap.size := by have := hg2.size; omega
        clear ho2 hg2 HM1 HO1 U1 cn nb nb2
        go_wp2_with (at_builtin; refine wpList_append_bytes _ rfl _ _ rfl (w.heap.size + 1) _ (L ++ tx kn) rfl (HO2.out.up (Up.alloc _ _)) (some ⟨w2.heap.size, 0, none⟩) [0] 1 1 rfl rfl (Rd.one _ _ _ _ ?e1) ?e2 ?e3 ?_)
        case e1 => rfl
        case e2 => 
          have : (tx kn).length = kn.size := rfl
          simp only [List.length_append, List.length_cons, List.length_nil]; omega
        case e3 => simp; omega
        intro v3 w3 ho3 hg3 _
        have U3 : Hid (Up w w3) := Lib.hid ((U2.out.alloc' _).grown hg3 (fun j hj => by have := HO2.out.block j hj; omega))
        have HM3 : Hid (Plm w3 w.heap.size ns (k + 1)) := Lib.hid (by
          obtain ⟨D', x1, x2⟩ := HM2.out
          exact ⟨D', (x1.alloc _).kept hg3 (fun e => by have := HO2.out.block w.heap.size e.symm; omega), x2⟩)
        have HO3 : Hid (Ow w3 (w.heap.size + 1) v3 (layN ns (k + 1))) := Lib.hid (by rw [HO'.out]; exact ho3)
        clear ho3 hg3 HM2 HO2 U2
        go_wp2
        go_roundw
        case rel => exact ⟨k + 1, by omega, by go_num, HO3.out, HM3.out, U3.out⟩
        case measure => simp [intOf]; omega
    · have hkq : k = q := by omega
      subst hkq
      go_wp2
      go_ret2
      exact ⟨_, rfl, HO.out, HP.out, HU.out⟩
end Go.Proofs.Ytoijaananjlfpaa
