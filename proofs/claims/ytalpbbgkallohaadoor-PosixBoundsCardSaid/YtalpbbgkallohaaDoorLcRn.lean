/-
  What a reader takes: names (strings.Cut at one byte, strings.Clone).
-/
import Derived.Test.YtalpbbgkallohaaDoorLcRe
import Derived.Deep.QuietTactic
import Derived.BigQuiet
namespace Go.Proofs.YtalpbbgkallohaaDoor
open Go.ChangeShapes Go.WideShapes Go.ChangeAt Go.RowKit Lc

theorem idx_up (l : List UInt8) : Lib.indexByte l 62 = if (upTo l).length = l.length then -1 else ((upTo l).length : Int) := by
  induction l with
  | nil => rfl
  | cons b l ih =>
    unfold Lib.indexByte
    by_cases c : b = 62
    · subst c
      simp [upTo]
    · have e : upTo (b :: l) = b :: upTo l := by simp [upTo, c]
      rw [e, if_neg (by simpa using c), ih]
      simp only [List.length_cons, Nat.add_right_cancel_iff]
      split
      · simp
      · rw [if_neg (by simp)]; simp
theorem up_le (l : List UInt8) : (upTo l).length ≤ l.length := tw_le l
theorem tw_take {p : UInt8 → Bool} (l : List UInt8) : l.take (l.takeWhile p).length = l.takeWhile p := by
  have e := tw_split (p := p) l
  conv => lhs; rw [e]
  rw [List.take_left']
  rw [← e]
theorem tx_take (l : List UInt8) (k : Nat) : (tx l).extract 0 k = tx (l.take k) := by
  apply ByteArray.ext
  rw [ByteArray.data_extract]
  simp [tx]

set_option maxRecDepth 100000 in
set_option maxHeartbeats 4000000 in
theorem cut_no (l : List UInt8) (w : World) (h : (upTo l).length = l.length) : Calls Tryd.prog 69 #[.string (tx l), .string ⟨#[62]⟩] w fun e w' => e = .returned (.tuple #[.string (tx l), .string ⟨#[]⟩, .bool false]) ∧ w = w' := by
  have X := index_any l 62 w
  rw [idx_up, if_pos h] at X
  have C : Calls Tryd.prog 76 #[.string (tx l), .string ⟨#[62]⟩] w fun e w' => e = .returned (.tuple #[.string (tx l), .string ⟨#[]⟩, .bool false]) ∧ w = w' := by
    generalize tx l = s at *
    clear h
    go_enter Tryd.func76, Tryd.ntmps76
    go_wp2_with fail
    refine X.mono ?_
    rintro e w' ⟨rfl, rfl⟩
    go_wp2_with fail
    refine bodyPost_ret (v := .tuple #[.string s, .string ⟨#[]⟩, .bool false]) (by simp [results, Tryd.results76, go_sem]) rfl ?_
    exact ⟨rfl, rfl⟩
  clear X h
  go_enter Tryd.func69, Tryd.ntmps69
  go_wp2_with fail
  refine C.mono ?_
  rintro e w' ⟨rfl, rfl⟩
  go_wp2_with fail
  refine bodyPost_ret (v := .tuple #[.string (tx l), .string ⟨#[]⟩, .bool false]) (by simp [results, Tryd.results69, go_sem]) rfl ?_
  exact ⟨rfl, rfl⟩
set_option maxRecDepth 100000 in
set_option maxHeartbeats 4000000 in
theorem cut_yes (l : List UInt8) (w : World) (hl : l.length ≤ 100000) (h : ¬ (upTo l).length = l.length) : Calls Tryd.prog 69 #[.string (tx l), .string ⟨#[62]⟩] w fun e w' => e = .returned (.tuple #[.string (tx (upTo l)), .string (tx (l.drop ((upTo l).length + 1))), .bool true]) ∧ Dr w w' := by
  have X := index_any l 62 w
  rw [idx_up, if_neg h] at X
  have hle := up_le l
  have C : Calls Tryd.prog 76 #[.string (tx l), .string ⟨#[62]⟩] w fun e w' => e = .returned (.tuple #[.string (tx (upTo l)), .string (tx (l.drop ((upTo l).length + 1))), .bool true]) ∧ Dr w w' := by
    have e1 := tx_take l (upTo l).length
    have e2 := tx_drop l ((upTo l).length + 1)
    have e3 : l.take (upTo l).length = upTo l := tw_take l
    have sz := tx_size l
    rw [e3] at e1
    clear e3
    generalize tx (l.drop ((upTo l).length + 1)) = s2 at *
    generalize tx (upTo l) = s1 at *
    generalize (upTo l).length = k at *
    generalize tx l = s at *
    have hlt : k < l.length := by omega
    generalize l.length = n at *
    have x0 : (0 : Int) ≤ (k : Int) := by omega
    have x1 : (k : Int) ≤ (n : Int) := by omega
    have x3 : (k : Int) + 1 ≤ (n : Int) := by omega
    have x5 : (0 : Int) ≤ (k : Int) + 1 := by omega
    have x6 : ((k : Int) + 1).toNat = k + 1 := by omega
    have x7 : IntKind.i64.wrap ((k : Int) + 1) = (k : Int) + 1 := IntWalk.i64_in _ (by omega)
    clear h
    go_enter Tryd.func76, Tryd.ntmps76
    go_wp2_with fail
    refine X.mono ?_
    rintro e w' ⟨rfl, rfl⟩
    go_wp2_with fail
    go_quiet (fail)
    go_wp2_with fail
    refine bodyPost_ret (v := .tuple #[.string s1, .string s2, .bool true]) (by simp [results, Tryd.results76, go_sem]) rfl ?_
    exact ⟨rfl, Dr.drewN _ _⟩
  clear X h hle
  generalize tx (l.drop ((upTo l).length + 1)) = s2 at *
  generalize tx (upTo l) = s1 at *
  go_enter Tryd.func69, Tryd.ntmps69
  go_wp2_with fail
  refine C.mono ?_
  rintro e w' ⟨rfl, u⟩
  go_wp2_with fail
  refine bodyPost_ret (v := .tuple #[.string s1, .string s2, .bool true]) (by simp [results, Tryd.results69, go_sem]) rfl ?_
  exact ⟨rfl, u⟩

set_option maxRecDepth 100000 in
set_option maxHeartbeats 4000000 in
theorem name_any (b : Nat) (wide : Bool) (l : List UInt8) (w : World) (h : In w b l wide) :
    Calls Tryd.prog 63 #[.pointer (some ⟨b, 0, none⟩)] w fun e w' => An b wide w ((nameP l).map fun x => (Value.string (tx x.1), x.2)) e w' := by
  obtain ⟨R, hR⟩ : ∃ R, (nameP l).map (fun x => (Value.string (tx x.1), x.2)) = R := ⟨_, rfl⟩
  rw [hR]
  have HR := Lib.hid hR
  clear hR
  have hl := h.2
  go_enter Tryd.func63, Tryd.ntmps63
  go_wp2_with fail
  cases h1 : takeP 60 l with
  | some t =>
    refine (takes_yes b wide 60 l t w h h1).mono ?_
    rintro e w1 ⟨rfl, i1, g1⟩
    have tl := takeP_len h1
    have c1 := i1.c0; have d1 := i1.c1; have f1 := i1.f0
    clear h
    by_cases h2 : (upTo t).length = t.length
    · go_wp2_with fail
      refine (cut_no t _ h2).mono ?_
      rintro e w2 ⟨rfl, rfl⟩
      go_wp2_with fail
      refine (refuse_yes _).mono ?_
      rintro e w2 ⟨rfl, rfl⟩
      go_wp2_with fail
      have hres : nameP l = none := by unfold nameP; simp only [h1]; rw [if_pos h2]
      rw [← HR.out, hres]
      exact ⟨rfl, rfl, g1⟩
    · have hres : nameP l = some (upTo t, t.drop ((upTo t).length + 1)) := by unfold nameP; simp only [h1]; rw [if_neg h2]
      have CY := fun w => cut_yes t w (by omega) h2
      have hd : (t.drop ((upTo t).length + 1)).length ≤ t.length := by rw [List.length_drop]; omega
      have CL := fun w => clone_any (tx (upTo t)) w (by rw [tx_size]; have := up_le t; omega)
      have HS := Lib.hid hres
      clear hres h2
      generalize t.drop ((upTo t).length + 1) = r at *
      generalize hU : upTo t = U at *
      have HU := Lib.hid hU
      clear hU
      go_wp2_with fail
      refine (CY _).mono ?_
      rintro e w2 ⟨rfl, u2⟩
      have i2 := i1.up (Up.of_dr u2)
      have c2 := i2.c0; have d2 := i2.c1; have f2 := i2.f0
      clear c1 d1 f1
      go_wp2_with fail
      refine (refuse_no _).mono ?_
      rintro e w3 ⟨rfl, rfl⟩
      have i3 := i2.set hd
      have g3 := (g1.trans (Gb.of (Up.of_dr u2))).set 0 (.string (tx r))
      go_wp2_with fail
      refine (CL _).mono ?_
      rintro e w4 ⟨rfl, u4⟩
      go_wp2_with fail
      go_ret
      rw [← HR.out, HS.out]
      exact ⟨rfl, i3.up u4, g3.trans (Gb.of u4)⟩
  | none =>
    refine (takes_no b wide 60 l w h h1).mono ?_
    rintro e w1 ⟨rfl, i1, g1⟩
    have c1 := i1.c0; have d1 := i1.c1; have f1 := i1.f0
    have hres : nameP l = some (ltr l, l.drop (ltr l).length) := by unfold nameP; simp only [h1]
    have LA := fun w => letters_any l w (by unfold maxLen; omega)
    have hle : (ltr l).length ≤ l.length := tw_le l
    have e1 := tx_take l (ltr l).length
    have e2 := tx_drop l (ltr l).length
    have e3 : l.take (ltr l).length = ltr l := tw_take l
    rw [e3] at e1
    have sz := tx_size l
    have hd : (l.drop (ltr l).length).length ≤ l.length := by rw [List.length_drop]; omega
    have CL := fun w => clone_any (tx (ltr l)) w (by rw [tx_size]; omega)
    have i3 := i1.set hd
    have g3 := g1.set 0 (.string (tx (l.drop (ltr l).length)))
    have HS := Lib.hid hres
    have I3 := Lib.hid i3
    have G3 := Lib.hid g3
    clear hres h h1 e3 i3 g3 i1 g1
    generalize l.drop (ltr l).length = r at *
    generalize hm : (ltr l).length = m at *
    generalize ltr l = U at *
    clear hm
    generalize tx l = s at *
    generalize l.length = n at *
    have x1 : (m : Int) ≤ (n : Int) := by omega
    go_wp2_with fail
    refine (LA _).mono ?_
    rintro e w2 ⟨rfl, rfl⟩
    go_wp2_with fail
    refine (CL _).mono ?_
    rintro e w4 ⟨rfl, u4⟩
    go_wp2_with fail
    go_ret
    rw [← HR.out, HS.out]
    exact ⟨rfl, I3.out.up u4, G3.out.trans (Gb.of u4)⟩
theorem name_no {b : Nat} {wide : Bool} {l : List UInt8} {w : World} (h : In w b l wide) (q : nameP l = none) :
    Calls Tryd.prog 63 #[.pointer (some ⟨b, 0, none⟩)] w fun e w' => e = .panicked pn4 ∧ Gb b w w' := by
  have := name_any b wide l w h
  rw [q] at this; exact this
theorem name_yes {b : Nat} {wide : Bool} {l t m : List UInt8} {w : World} (h : In w b l wide) (q : nameP l = some (m, t)) :
    Calls Tryd.prog 63 #[.pointer (some ⟨b, 0, none⟩)] w fun e w' => e = .returned (.string (tx m)) ∧ In w' b t wide ∧ Gb b w w' := by
  have := name_any b wide l w h
  rw [q] at this; exact this
end Go.Proofs.YtalpbbgkallohaaDoor
