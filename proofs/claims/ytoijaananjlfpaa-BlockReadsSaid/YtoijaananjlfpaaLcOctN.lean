/-
  The program's octets: bytes.IndexByte, Name.
-/
import Derived.Test.YtoijaananjlfpaaLcStr
import Derived.Laws.BytesArg
import Derived.Lib.Strings
import Derived.Lib.Walk
namespace Go.Proofs.Ytoijaananjlfpaa
open Go.ChangeShapes Go.WideShapes Go.ChangeAt Go.RowKit Lc

/-- The model's entry for a search of one byte, at a slice wherever it lies. -/
theorem run_index_at (w : World) (a : Addr) (n c : Nat) (l : List UInt8) (hl : l.length = n) (h : ∀ j u, (bc l)[j]? = some u → w.cell? (a.add j) = some u) (cv : Int) :
    (Extern.BytealgIndexByte.indexByte #[.slice (some a) n c, .int .u8 cv]).run Try.prog w = .ok (.int .i64 (Lib.indexByte l cv.toNat.toUInt8)) w := by
  have hl' := Lib.run_loadBytesX (P := Try.prog) w (nums l) a .empty (fun j x hj => h j _ (by rw [← nums_bc, List.getElem?_map, hj]; rfl))
  rw [nums_len, hl, nums_bytes] at hl'
  have hs := Lib.run_indexByteString (P := Try.prog) ⟨l.toArray⟩ cv w
  have he : (⟨ByteArray.empty.data ++ l.toArray⟩ : ByteArray) = ⟨l.toArray⟩ := by
    apply ByteArray.ext
    show (#[] : Array UInt8) ++ l.toArray = l.toArray
    simp
  rw [he] at hl'
  change Sem.run Try.prog (do
    let b ← Extern.Bytes.bytesOf (.slice (some a) n c)
    let c ← Extern.Bytes.asByte (.int .u8 cv)
    match (List.range b.size).find? fun i => b[i]! == c with
    | some i => pure (goInt i)
    | none => pure (goInt (-1))) w = _
  change Sem.run Try.prog (do
    let b ← Extern.Bytes.bytesOf (.string ⟨l.toArray⟩)
    let c ← Extern.Bytes.asByte (.int .u8 cv)
    match (List.range b.size).find? fun i => b[i]! == c with
    | some i => pure (goInt i)
    | none => pure (goInt (-1))) w = _ at hs
  simp only [Extern.Bytes.bytesOf, Sem.run_bind, Sem.run_pure, hl', Result.andThen] at hs ⊢
  exact hs

set_option maxHeartbeats 1000000 in
theorem index_any (A : Option Addr) (l : List UInt8) (n c : Nat) (w : World) (hn : l.length = n) (hr : Rd w A l) :
    Calls Try.prog 64 #[.slice A n c, .int .u8 0] w fun e w' => e = .returned (.int .i64 (Lib.indexByte l 0)) ∧ w = w' := by
  have R : Hid ((Extern.BytealgIndexByte.indexByte #[.slice A n c, .int .u8 0]).run Try.prog w = .ok (.int .i64 (Lib.indexByte l 0)) w) := by
    refine Lib.hid ?_
    rcases A with _ | a
    · have hl : l = [] := by
        rcases Nat.eq_zero_or_pos l.length with h0 | h0
        · exact List.eq_nil_of_length_eq_zero h0
        · obtain ⟨b, o, e, _⟩ := hr h0; cases e
      subst hl
      exact Lib.run_indexByteNil w n c 0
    · exact run_index_at w a n c l hn (hr.add a rfl) 0
  clear hr hn
  go_enter Try.func64, Try.ntmps64
  go_wp2
  rw [run_callFunc_extern Try.func70 (by kernel_rfl) (by kernel_rfl) (by kernel_rfl) (e := Extern.BytealgIndexByte.indexByte) (by kernel_rfl), R.out]
  simp only [Result.andThen]
  rw [Oper.upon_value]
  go_wp2
  go_ret
  exact ⟨rfl, rfl⟩

set_option maxHeartbeats 1000000 in
theorem name_out (A : Option Addr) (n c : Nat) (a : Int) (w : World) (h : a < 0 ∨ (n : Int) < a) :
    Calls Try.prog 60 #[.slice A n c, .int .i64 a] w fun e w' => e = .returned (.tuple #[.string ByteArray.empty, .bool false]) ∧ w = w' := by
  by_cases h0 : a < 0
  · go_enter Try.func60, Try.ntmps60
    go_wp2
    go_ret2
    exact ⟨rfl, rfl⟩
  · have h1 : (n : Int) < a := by omega
    go_enter Try.func60, Try.ntmps60
    go_wp2
    go_ret2
    exact ⟨rfl, rfl⟩

theorem Rd.cut {w : World} {A : Option Addr} {l : List UInt8} (h : Rd w A l) (k : Nat) : Rd w (Option.map (fun x => x.add k) A) (l.drop k) := fun h0 => by
  have h1 := h0
  rw [List.length_drop] at h1
  obtain ⟨b, o, rfl, hc⟩ := h (by omega)
  have ea : (⟨b, o, none⟩ : Addr).add k = ⟨b, o + k, none⟩ := by unfold Addr.add; split <;> simp_all
  simp only [Option.map_some, ea]
  exact Rd.drop h k h0
/-- 'b[at:]', as its address comes out. -/
theorem Rd.from {w : World} {A : Option Addr} {l : List UInt8} (h : Rd w A l) (a : Nat) : Rd w (if l.length = a then A else Option.map (fun x => x.add a) A) (l.drop a) := by
  split
  · rw [List.drop_eq_nil_of_le (by omega)]; exact Rd.nil _ _
  · exact h.cut a

set_option maxHeartbeats 1000000 in
theorem name_none (A : Option Addr) (l : List UInt8) (c a : Nat) (w : World) (hc : l.length ≤ c) (h : a ≤ l.length) (hr : Rd w A l) (hi : Lib.indexByte (l.drop a) 0 = -1) :
    Calls Try.prog 60 #[.slice A l.length c, .int .i64 a] w fun e w' => e = .returned (.tuple #[.string ByteArray.empty, .bool false]) ∧ w = w' := by
  have h0 : (0 : Int) ≤ (a : Int) := by omega
  have h2 : ¬ l.length < a := by omega
  by_cases hca : c = a
  · subst hca
    have C := fun (n k : Nat) (h : (l.drop c).length = n) => index_any A (l.drop c) n k w h (by rw [List.drop_eq_nil_of_le (by omega)]; exact Rd.nil _ _)
    rw [hi] at C
    have C := Lib.hid C
    clear hr hi
    go_enter Try.func60, Try.ntmps60
    go_wp2_with (go_at_call 64; refine (C.out _ _ (by rw [List.length_drop]; omega)).mono ?_; rintro e w' ⟨rfl, rfl⟩)
    go_ret2
    exact ⟨rfl, rfl⟩
  · have C := index_any _ (l.drop a) (l.length - a) (c - a) w (by rw [List.length_drop]) (hr.cut a)
    rw [hi] at C
    have C := Lib.hid C
    clear hr hi
    go_enter Try.func60, Try.ntmps60
    go_wp2_with (go_at_call 64; refine C.out.mono ?_; rintro e w' ⟨rfl, rfl⟩)
    go_ret2
    exact ⟨rfl, rfl⟩

set_option maxRecDepth 100000 in
set_option maxHeartbeats 1000000 in
theorem name_yes (A : Option Addr) (l : List UInt8) (c a e : Nat) (w : World) (hc : l.length ≤ c) (hcm : c ≤ maxLen) (h : a + e < l.length) (hr : Rd w A l) (hi : Lib.indexByte (l.drop a) 0 = e) :
    Calls Try.prog 60 #[.slice A l.length c, .int .i64 a] w fun e' w' => e' = .returned (.tuple #[.string (str ((l.drop a).take e)), .bool true]) ∧ w = w' := by
  unfold maxLen at hcm
  have h0 : (0 : Int) ≤ (a : Int) := by omega
  have h2 : ¬ l.length < a := by omega
  have hca : ¬ c = a := by omega
  obtain ⟨b, o, rfl, _⟩ := hr (by omega)
  have ha : ((⟨b, o, none⟩ : Addr).add a) = ⟨b, o + a, none⟩ := by unfold Addr.add; split <;> simp_all
  have C := index_any _ (l.drop a) (l.length - a) (c - a) w (by rw [List.length_drop]) (hr.drop a)
  rw [hi] at C
  have C := Lib.hid C
  have V := convert_at w b (o + a) e (c - a) ((l.drop a).take e) (by rw [List.length_take, List.length_drop]; omega) ((hr.drop a).take e)
  clear hr hi ha
  generalize str ((l.drop a).take e) = s at V ⊢
  have h3 : (e : Int) + (a : Int) ≤ 9223372036854775807 := by omega
  have h4 : (a : Int) + (e : Int) ≤ (c : Int) := by omega
  have h5 : (a : Int) ≤ (a : Int) + (e : Int) := by omega
  have h6 : (0 : Int) ≤ (e : Int) := by omega
  go_enter Try.func60, Try.ntmps60
  go_wp2_with (go_at_call 64; refine C.out.mono ?_; rintro e w' ⟨rfl, rfl⟩)
  go_ret2
  exact ⟨rfl, rfl⟩
end Go.Proofs.Ytoijaananjlfpaa
