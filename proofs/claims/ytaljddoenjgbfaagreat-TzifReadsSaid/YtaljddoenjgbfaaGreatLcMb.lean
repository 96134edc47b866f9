/-
  The program's octets: within, Uint.
-/
import Derived.Test.YtaljddoenjgbfaaGreatLcMa
import Derived.Lib.EndianBits
import Derived.Laws.BytesArg
import Derived.Lib.Strings
import Derived.Lib.Walk
import Derived.Lib.SliceRun
namespace Go.Proofs.YtaljddoenjgbfaaGreat
open Go.ChangeShapes Go.WideShapes Go.ChangeAt Go.RowKit Lc

/-- So many bytes are there from 'at' on. -/
def winB (n : Nat) (a k : Int) : Bool := decide (1 ≤ k ∧ k ≤ 8 ∧ 0 ≤ a ∧ a ≤ n - k)
set_option maxRecDepth 100000 in
theorem winB_yes {n a k : Nat} (h1 : 1 ≤ k) (h8 : k ≤ 8) (h : a + k ≤ n) : winB n a k = true := by
  unfold winB; simp; omega
set_option maxRecDepth 100000 in
theorem rtIB {k : IntKind} {a b : Int} {x : Bool} (h : a = b) : Ending.returned (.tuple #[.int k a, .bool x]) = .returned (.tuple #[.int k b, .bool x]) := by rw [h]
set_option maxRecDepth 100000 in
theorem rtB {a b : Bool} (h : a = b) : Ending.returned (.bool a) = .returned (.bool b) := by rw [h]

set_option maxRecDepth 100000 in
theorem within_any (A : Option Addr) (n c : Nat) (a k : Int) (w : World) (hn : n ≤ maxLen) (ha : (Lit.int .i64 a).wf = true) (hk : (Lit.int .i64 k).wf = true) :
    Calls Tryz.prog 112 #[.slice A n c, .int .i64 a, .int .i64 k] w fun e w' => e = .returned (.bool (winB n a k)) ∧ w = w' := by
  unfold maxLen at hn
  have ha := bounds_i64 ha
  have hk := bounds_i64 hk
  unfold winB
  by_cases h1 : 1 ≤ k
  · by_cases h2 : k ≤ 8
    · by_cases h3 : 0 ≤ a
      · go_enter Tryz.func112, Tryz.ntmps112
        go_wp2
        go_ret
        exact ⟨rtB (by simp [h1, h2, h3]), rfl⟩
      · go_enter Tryz.func112, Tryz.ntmps112
        go_wp2
        go_ret
        exact ⟨rtB (by simp; omega), rfl⟩
    · go_enter Tryz.func112, Tryz.ntmps112
      go_wp2
      go_ret
      exact ⟨rtB (by simp; omega), rfl⟩
  · go_enter Tryz.func112, Tryz.ntmps112
    go_wp2
    go_ret
    exact ⟨rtB (by simp; omega), rfl⟩

set_option maxRecDepth 100000 in
theorem uint_no (A : Option Addr) (n c : Nat) (a k : Int) (w : World) (hn : n ≤ maxLen) (ha : (Lit.int .i64 a).wf = true) (hk : (Lit.int .i64 k).wf = true) (h : winB n a k = false) :
    Calls Tryz.prog 100 #[.slice A n c, .int .i64 a, .int .i64 k] w fun e w' => e = .returned (.tuple #[.int .u64 0, .bool false]) ∧ w = w' := by
  have C := Lib.hid (within_any A n c a k w hn ha hk)
  rw [h] at C
  clear h
  go_enter Tryz.func100, Tryz.ntmps100
  go_wp2_with (go_at_call 112; refine C.out.mono ?_; rintro e w' ⟨rfl, rfl⟩)
  go_ret2
  exact ⟨rfl, rfl⟩

set_option maxRecDepth 100000 in
theorem or_byte {N x : Nat} (h : N < 72057594037927936) (hx : x < 256) : bits .or .u64 ((N : Int) * 256) (x : Int) = ((N * 256 + x : Nat) : Int) := by
  have e : bits .or .u64 ((N : Int) * 256) (x : Int) = bits .or .u64 (x : Int) ((N : Int) * 256) := by
    show IntKind.u64.wrap ((BitVec.ofInt 64 _ ||| BitVec.ofInt 64 _).toNat : Int) = IntKind.u64.wrap ((BitVec.ofInt 64 _ ||| BitVec.ofInt 64 _).toNat : Int)
    rw [BitVec.or_comm]
  refine (e.trans (u64_or8 (y := (x : Int)) (x := (N : Int) * 256) (by omega) (by omega) (by omega) (by omega) (by omega))).trans ?_
  omega

set_option maxRecDepth 100000 in
set_option maxHeartbeats 1000000 in
theorem uint_at (b o n c a k : Nat) (L : List UInt8) (w : World) (hn : n ≤ maxLen) (hc : n ≤ c) (hcm : c ≤ maxLen) (h1 : 1 ≤ k) (h8 : k ≤ 8) (h : a + k ≤ n) (hL : L.length = k)
    (hr : ∀ i, i < k → w.cell? ⟨b, o + a + i, none⟩ = some (.int .u8 (L.getD i 0).toNat)) :
    Calls Tryz.prog 100 #[.slice (some ⟨b, o, none⟩) n c, .int .i64 a, .int .i64 k] w fun e w' => e = .returned (.tuple #[.int .u64 (beN L), .bool true]) ∧ w = w' := by
  have hn' := hn
  unfold maxLen at hn hcm
  have wa : (Lit.int .i64 (a : Int)).wf = true := by simp [Lit.wf, IntKind.min, IntKind.max, IntKind.bits, IntKind.signed]; omega
  have wk : (Lit.int .i64 (k : Int)).wf = true := by simp [Lit.wf, IntKind.min, IntKind.max, IntKind.bits, IntKind.signed]; omega
  have C := within_any (some ⟨b, o, none⟩) n c a k w hn' wa wk
  rw [winB_yes h1 h8 h] at C
  have C := Lib.hid C
  clear wa wk hn'
  have R := Lib.hid hr
  have HL := Lib.hid hL
  clear hr hL
  have a0 : (0 : Int) ≤ (a : Int) := by omega
  have a1 : (a : Int) ≤ (a : Int) + (k : Int) := by omega
  have a2 : (a : Int) + (k : Int) ≤ (c : Int) := by omega
  have a3 : ¬ c = a := by omega
  go_enter Tryz.func100, Tryz.ntmps100
  go_wp2_with (go_at_call 112; refine C.out.mono ?_; rintro e w' ⟨rfl, rfl⟩)
  go_loop [8, 23] (fun n i => ∃ j : Nat, j ≤ k ∧ i = .int .i64 j ∧ n = .int .u64 (beN (L.take j))) (fun _ i => k - (intOf i).toNat)
  case atStart => exact ⟨0, Nat.zero_le _, rfl, rfl⟩
  case round =>
    obtain ⟨j, hj, rfl, rfl⟩ := hrel
    by_cases hlt : j < k
    · have hs := beN_snoc_take L j (by rw [HL.out]; exact hlt)
      have hb : beN (L.take j) < 72057594037927936 := beN_take_lt L j 7 (by omega)
      have hc := R.out j hlt
      have hx := (L.getD j 0).toNat_lt
      generalize (L.getD j 0).toNat = x at hs hc hx
      have HS : Hid (beN (L.take (j + 1)) = beN (L.take j) * 256 + x) := hs
      clear hs
      generalize beN (L.take j) = N at hb HS
      go_wp2
      go_round
      case rel =>
        exact ⟨j + 1, by omega, by go_num, by rw [HS.out, or_byte (by omega) hx]⟩
      case measure => simp [intOf]; omega
    · have e : j = k := by omega
      subst e
      go_wp2
      go_ret2
      exact ⟨rtIB (by rw [List.take_of_length_le (by rw [HL.out]; exact Nat.le_refl _)]), rfl⟩

set_option maxRecDepth 100000 in
theorem uint_yes (A : Option Addr) (l : List UInt8) (c a k : Nat) (w : World) (hc : l.length ≤ c) (hcm : c ≤ maxLen) (h1 : 1 ≤ k) (h8 : k ≤ 8) (h : a + k ≤ l.length) (hr : Rd w A l) :
    Calls Tryz.prog 100 #[.slice A l.length c, .int .i64 a, .int .i64 k] w fun e w' => e = .returned (.tuple #[.int .u64 (beN ((l.drop a).take k)), .bool true]) ∧ w = w' := by
  obtain ⟨b, o, rfl, hcell⟩ := hr (by omega)
  refine uint_at b o l.length c a k ((l.drop a).take k) w (by omega) hc hcm h1 h8 h (by rw [List.length_take, List.length_drop]; omega) fun i hi => ?_
  rw [Nat.add_assoc, hcell (a + i) (by omega)]
  simp [List.getD, List.getElem?_take_of_lt hi]
end Go.Proofs.YtaljddoenjgbfaaGreat
/-
  The program's octets: Int.
-/
namespace Go.Proofs.YtaljddoenjgbfaaGreat
open Go.ChangeShapes Go.WideShapes Go.ChangeAt Go.RowKit Lc

set_option maxRecDepth 100000 in
theorem int_no (A : Option Addr) (n c : Nat) (a k : Int) (w : World) (hn : n ≤ maxLen) (ha : (Lit.int .i64 a).wf = true) (hk : (Lit.int .i64 k).wf = true) (h : winB n a k = false) :
    Calls Tryz.prog 118 #[.slice A n c, .int .i64 a, .int .i64 k] w fun e w' => e = .returned (.tuple #[.int .i64 0, .bool false]) ∧ w = w' := by
  have C := Lib.hid (uint_no A n c a k w hn ha hk h)
  clear h
  go_enter Tryz.func118, Tryz.ntmps118
  go_wp2_with (go_at_call 100; refine C.out.mono ?_; rintro e w' ⟨rfl, rfl⟩)
  go_ret2
  exact ⟨rfl, rfl⟩

set_option maxRecDepth 100000 in
set_option maxHeartbeats 1000000 in
theorem int_of (A : Option Addr) (n c a k : Nat) (N : Nat) (w : World) (h1 : 1 ≤ k) (h8 : k ≤ 8) (hN : N < 256 ^ k)
    (C : Calls Tryz.prog 100 #[.slice A n c, .int .i64 a, .int .i64 k] w fun e w' => e = .returned (.tuple #[.int .u64 N, .bool true]) ∧ w = w') :
    Calls Tryz.prog 118 #[.slice A n c, .int .i64 a, .int .i64 k] w fun e w' => e = .returned (.tuple #[.int .i64 (sgI k N), .bool true]) ∧ w = w' := by
  have C := Lib.hid C
  unfold sgI
  rcases m8 h1 h8 with rfl | rfl | rfl | rfl | rfl | rfl | rfl | rfl
  all_goals
    clear h1 h8
    simp at hN
    go_enter Tryz.func118, Tryz.ntmps118
    go_wp2_with (go_at_call 100; refine C.out.mono ?_; rintro e w' ⟨rfl, rfl⟩)
    go_ret2
    refine ⟨rtIB ?_, rfl⟩
    unfold wrap64
    simp

set_option maxRecDepth 100000 in
theorem int_yes (A : Option Addr) (l : List UInt8) (c a k : Nat) (w : World) (hc : l.length ≤ c) (hcm : c ≤ maxLen) (h1 : 1 ≤ k) (h8 : k ≤ 8) (h : a + k ≤ l.length) (hr : Rd w A l) :
    Calls Tryz.prog 118 #[.slice A l.length c, .int .i64 a, .int .i64 k] w fun e w' => e = .returned (.tuple #[.int .i64 (sgI k (beN ((l.drop a).take k))), .bool true]) ∧ w = w' :=
  int_of A l.length c a k _ w h1 h8 (by
    have := beN_lt ((l.drop a).take k)
    rwa [List.length_take, List.length_drop, Nat.min_eq_left (by omega)] at this) (uint_yes A l c a k w hc hcm h1 h8 h hr)
end Go.Proofs.YtaljddoenjgbfaaGreat
/-
  The program's octets: bytes.IndexByte, Name.
-/
namespace Go.Proofs.YtaljddoenjgbfaaGreat
open Go.ChangeShapes Go.WideShapes Go.ChangeAt Go.RowKit Lc

set_option maxRecDepth 100000 in
/-- The model's entry for a search of one byte, at a slice wherever it lies. -/
theorem run_index_at (w : World) (a : Addr) (n c : Nat) (l : List UInt8) (hl : l.length = n) (h : ∀ j u, (bc l)[j]? = some u → w.cell? (a.add j) = some u) (cv : Int) :
    (Extern.BytealgIndexByte.indexByte #[.slice (some a) n c, .int .u8 cv]).run Tryz.prog w = .ok (.int .i64 (Lib.indexByte l cv.toNat.toUInt8)) w := by
  have hl' := Lib.run_loadBytesX (P := Tryz.prog) w (nums l) a .empty (fun j x hj => h j _ (by rw [← nums_bc, List.getElem?_map, hj]; rfl))
  rw [nums_len, hl, nums_bytes] at hl'
  have hs := Lib.run_indexByteString (P := Tryz.prog) ⟨l.toArray⟩ cv w
  have he : (⟨ByteArray.empty.data ++ l.toArray⟩ : ByteArray) = ⟨l.toArray⟩ := by
    apply ByteArray.ext
    show (#[] : Array UInt8) ++ l.toArray = l.toArray
    simp
  rw [he] at hl'
  change Sem.run Tryz.prog (do
    let b ← Extern.Bytes.bytesOf (.slice (some a) n c)
    let c ← Extern.Bytes.asByte (.int .u8 cv)
    match (List.range b.size).find? fun i => b[i]! == c with
    | some i => pure (goInt i)
    | none => pure (goInt (-1))) w = _
  change Sem.run Tryz.prog (do
    let b ← Extern.Bytes.bytesOf (.string ⟨l.toArray⟩)
    let c ← Extern.Bytes.asByte (.int .u8 cv)
    match (List.range b.size).find? fun i => b[i]! == c with
    | some i => pure (goInt i)
    | none => pure (goInt (-1))) w = _ at hs
  simp only [Extern.Bytes.bytesOf, Sem.run_bind, Sem.run_pure, hl', Result.andThen] at hs ⊢
  exact hs

set_option maxHeartbeats 1000000 in
set_option maxRecDepth 100000 in
theorem index_any (A : Option Addr) (l : List UInt8) (n c : Nat) (w : World) (hn : l.length = n) (hr : Rd w A l) :
    Calls Tryz.prog 107 #[.slice A n c, .int .u8 0] w fun e w' => e = .returned (.int .i64 (Lib.indexByte l 0)) ∧ w = w' := by
  have R : Hid ((Extern.BytealgIndexByte.indexByte #[.slice A n c, .int .u8 0]).run Tryz.prog w = .ok (.int .i64 (Lib.indexByte l 0)) w) := by
    refine Lib.hid ?_
    rcases A with _ | a
    · have hl : l = [] := by
        rcases Nat.eq_zero_or_pos l.length with h0 | h0
        · exact List.eq_nil_of_length_eq_zero h0
        · obtain ⟨b, o, e, _⟩ := hr h0; cases e
      subst hl
      exact Lib.run_indexByteNil w n c 0
    · exact run_index_at w a n c l hn (hr.add a rfl) 0
  clear hr hn
  go_enter Tryz.func107, Tryz.ntmps107
  go_wp2
  rw [run_callFunc_extern Tryz.func116 (by kernel_rfl) (by kernel_rfl) (by kernel_rfl) (e := Extern.BytealgIndexByte.indexByte) (by kernel_rfl), R.out]
  simp only [Result.andThen]
  rw [Oper.upon_value]
  go_wp2
  go_ret
  exact ⟨rfl, rfl⟩

set_option maxRecDepth 100000 in
set_option maxHeartbeats 1000000 in
theorem name_out (A : Option Addr) (n c : Nat) (a : Int) (w : World) (h : a < 0 ∨ (n : Int) < a) :
    Calls Tryz.prog 114 #[.slice A n c, .int .i64 a] w fun e w' => e = .returned (.tuple #[.string ByteArray.empty, .bool false]) ∧ w = w' := by
  by_cases h0 : a < 0
  · go_enter Tryz.func114, Tryz.ntmps114
    go_wp2
    go_ret2
    exact ⟨rfl, rfl⟩
  · have h1 : (n : Int) < a := by omega
    go_enter Tryz.func114, Tryz.ntmps114
    go_wp2
    go_ret2
    exact ⟨rfl, rfl⟩

set_option maxRecDepth 100000 in
theorem Rd.cut {w : World} {A : Option Addr} {l : List UInt8} (h : Rd w A l) (k : Nat) : Rd w (Option.map (fun x => x.add k) A) (l.drop k) := fun h0 => by
  have h1 := h0
  rw [List.length_drop] at h1
  obtain ⟨b, o, rfl, hc⟩ := h (by omega)
  have ea : (⟨b, o, none⟩ : Addr).add k = ⟨b, o + k, none⟩ := by unfold Addr.add; split <;> simp_all
  simp only [Option.map_some, ea]
  exact Rd.drop h k h0
set_option maxRecDepth 100000 in
/-- 'b[at:]', as its address comes out. -/
theorem Rd.from {w : World} {A : Option Addr} {l : List UInt8} (h : Rd w A l) (a : Nat) : Rd w (if l.length = a then A else Option.map (fun x => x.add a) A) (l.drop a) := by
  split
  · rw [List.drop_eq_nil_of_le (by omega)]; exact Rd.nil _ _
  · exact h.cut a

set_option maxRecDepth 100000 in
set_option maxHeartbeats 1000000 in
theorem name_none (A : Option Addr) (l : List UInt8) (c a : Nat) (w : World) (hc : l.length ≤ c) (h : a ≤ l.length) (hr : Rd w A l) (hi : Lib.indexByte (l.drop a) 0 = -1) :
    Calls Tryz.prog 114 #[.slice A l.length c, .int .i64 a] w fun e w' => e = .returned (.tuple #[.string ByteArray.empty, .bool false]) ∧ w = w' := by
  have h0 : (0 : Int) ≤ (a : Int) := by omega
  have h2 : ¬ l.length < a := by omega
  by_cases hca : c = a
  · subst hca
    have C := fun (n k : Nat) (h : (l.drop c).length = n) => index_any A (l.drop c) n k w h (by rw [List.drop_eq_nil_of_le (by omega)]; exact Rd.nil _ _)
    rw [hi] at C
    have C := Lib.hid C
    clear hr hi
    go_enter Tryz.func114, Tryz.ntmps114
    go_wp2_with (go_at_call 107; refine (C.out _ _ (by rw [List.length_drop]; omega)).mono ?_; rintro e w' ⟨rfl, rfl⟩)
    go_ret2
    exact ⟨rfl, rfl⟩
  · have C := index_any _ (l.drop a) (l.length - a) (c - a) w (by rw [List.length_drop]) (hr.cut a)
    rw [hi] at C
    have C := Lib.hid C
    clear hr hi
    go_enter Tryz.func114, Tryz.ntmps114
    go_wp2_with (go_at_call 107; refine C.out.mono ?_; rintro e w' ⟨rfl, rfl⟩)
    go_ret2
    exact ⟨rfl, rfl⟩

set_option maxRecDepth 100000 in
set_option maxHeartbeats 1000000 in
theorem name_yes (A : Option Addr) (l : List UInt8) (c a e : Nat) (w : World) (hc : l.length ≤ c) (hcm : c ≤ maxLen) (h : a + e < l.length) (hr : Rd w A l) (hi : Lib.indexByte (l.drop a) 0 = e) :
    Calls Tryz.prog 114 #[.slice A l.length c, .int .i64 a] w fun e' w' => e' = .returned (.tuple #[.string (str ((l.drop a).take e)), .bool true]) ∧ w = w' := by
  unfold maxLen at hcm
  have h0 : (0 : Int) ≤ (a : Int) := by omega
  have h2 : ¬ l.length < a := by omega
  have hca : ¬ c = a := by omega
  obtain ⟨b, o, rfl, _⟩ := hr (by omega)
  have ha : ((⟨b, o, none⟩ : Addr).add a) = ⟨b, o + a, none⟩ := by unfold Addr.add; split <;> simp_all
  have C := index_any _ (l.drop a) (l.length - a) (c - a) w (by rw [List.length_drop]) (hr.drop a)
  rw [hi] at C
  have C := Lib.hid C
  have V := convert_at w b (o + a) e (c - a) ((l.drop a).take e) (by rw [List.length_take, List.length_drop]; omega) ((hr.drop a).take e)
  clear hr hi ha
  generalize str ((l.drop a).take e) = s at V ⊢
  have h3 : (e : Int) + (a : Int) ≤ 9223372036854775807 := by omega
  have h4 : (a : Int) + (e : Int) ≤ (c : Int) := by omega
  have h5 : (a : Int) ≤ (a : Int) + (e : Int) := by omega
  have h6 : (0 : Int) ≤ (e : Int) := by omega
  go_enter Tryz.func114, Tryz.ntmps114
  go_wp2_with (go_at_call 107; refine C.out.mono ?_; rintro e w' ⟨rfl, rfl⟩)
  go_ret2
  exact ⟨rfl, rfl⟩
end Go.Proofs.YtaljddoenjgbfaaGreat
/-
  The program's octets: Put.
-/
namespace Go.Proofs.YtaljddoenjgbfaaGreat
open Go.ChangeShapes Go.WideShapes Go.ChangeAt Go.RowKit Lc

set_option maxRecDepth 100000 in
/-- A slice against nil. -/
theorem eql_nil (w : World) (A : Option Addr) (n c n' c' : Nat) : (binOp .eql 32 (.slice A n c) (.slice none n' c')).run Tryz.prog w = .ok (.bool A.isNone) w := by
  exact Lib.run_eql_slice_nil w _ _ A n c n' c' Tryz.underlying32

set_option maxRecDepth 100000 in
set_option maxHeartbeats 1000000 in
theorem clone_any (A : Option Addr) (l : List UInt8) (c : Nat) (w : World) (hs : l.length ≤ 140737488355328) (hr : Rd w A l) :
    Calls Tryz.prog 82 #[.slice A l.length c] w fun e w' => ∃ v', e = .returned v' ∧ Ow w' w.heap.size v' l ∧ Up w w' := by
  have q := eql_nil
  rcases A with _ | p
  · have hl : l = [] := by
      rcases Nat.eq_zero_or_pos l.length with h0 | h0
      · exact List.eq_nil_of_length_eq_zero h0
      · obtain ⟨b, o, e, _⟩ := hr h0; cases e
    subst hl
    go_enter Tryz.func82, Tryz.ntmps82
    go_wp2
    go_ret
    exact ⟨_, rfl, Ow.nil _ _, Up.refl _⟩
  · have R := Lib.hid hr
    clear hr
    go_enter Tryz.func82, Tryz.ntmps82
    go_wp2_with (at_builtin; refine wpList_append_bytes _ rfl _ _ rfl w.heap.size _ [] rfl (Ow.empty w _ (Nat.le_refl _)) (some p) l _ c rfl rfl (R.out.up (Up.alloc _ _)) (by simpa using hs) (by simp) ?_)
    intro v' w1 ho hg hat
    go_wp2
    go_ret
    refine ⟨v', rfl, by simpa using ho, (Up.alloc w _).grown hg ?_⟩
    intro k hk
    simp [Value.ownBlock] at hk
    omega

/-- So many bytes are put. -/
def putM (size : Int) : Nat := (min size 8).toNat

set_option maxRecDepth 100000 in
theorem Rd.one (w : World) (x : Int) (b : UInt8) (t : TypeId) (h : x = b.toNat) : Rd (w.alloc (.cells #[.int .u8 x] t)) (some ⟨w.heap.size, 0, none⟩) [b] := by
  subst h
  exact Rd.new w [b] _ t rfl

set_option maxRecDepth 100000 in
theorem put_byte {n : Int} (n0 : 0 ≤ n) (k : Nat) : n / 2 ^ (8 * k) % 256 = ((UInt8.ofNat (n.toNat / 256 ^ k)).toNat : Int) := by
  obtain ⟨N, rfl⟩ := Int.eq_ofNat_of_zero_le n0
  have e : (2 : Int) ^ (8 * k) = ((256 ^ k : Nat) : Int) := by rw [Int.pow_mul]; norm_cast
  rw [e]
  simp
set_option maxRecDepth 100000 in
set_option maxHeartbeats 1000000 in
theorem put_any (A : Option Addr) (l : List UInt8) (c : Nat) (size n : Int) (w : World) (hs : l.length + 8 ≤ 140737488355328) (wz : (Lit.int .i64 size).wf = true) (n0 : 0 ≤ n) (hr : Rd w A l) :
    Calls Tryz.prog 67 #[.slice A l.length c, .int .i64 size, .int .u64 n] w fun e w' => ∃ v', e = .returned v' ∧ Ow w' w.heap.size v' (l ++ beB (putM size) n.toNat) ∧ Up w w' := by
  have hz := bounds_i64 wz
  have C := Lib.hid (clone_any A l c w (by omega) hr)
  clear hr wz
  go_enter Tryz.func67, Tryz.ntmps67
  go_wp2_with (go_at_call 82; refine C.out.mono ?_; rintro e w' ⟨v, rfl, ho, hu⟩)
  obtain ⟨M, HP⟩ : ∃ M, Hid (putM size = M) := ⟨_, rfl⟩
  have HM : Hid (M = (min size 8).toNat) := HP.out.symm
  have hx0 : -9223372036854775808 ≤ min size 8 := by omega
  have hx8 : min size 8 ≤ 8 := by omega
  generalize min size 8 = x at HM hx0 hx8
  have hM8 : M ≤ 8 := by rw [HM.out]; omega
  go_loopw [7, 8] (fun v i wr => ∃ x : Int, -9223372036854775808 ≤ x ∧ x ≤ 8 ∧ x.toNat ≤ M ∧ i = .int .i64 x ∧ Ow wr w.heap.size v (l ++ (beB M n.toNat).take (M - x.toNat)) ∧ Up w wr) (fun _ i _ => (intOf i).toNat)
  case atStart => exact ⟨x, hx0, hx8, by rw [HM.out]; exact Nat.le_refl _, rfl, by rw [HM.out, Nat.sub_self, List.take_zero, List.append_nil]; exact ho, hu⟩
  case round =>
    clear ho hu HM hx0 hx8
    obtain ⟨y, y0, y8, yM, rfl, ho, hu⟩ := hrel
    have HO := Lib.hid ho
    have HU := Lib.hid hu
    clear ho hu
    by_cases hp : 0 < y
    · obtain ⟨k, rfl⟩ : ∃ k : Nat, y = (k : Int) + 1 := ⟨(y - 1).toNat, by omega⟩
      have hk : k + 1 ≤ M := by omega
      have HT : Hid ((beB M n.toNat).take (M - k) = (beB M n.toNat).take (M - ((k : Int) + 1).toNat) ++ [UInt8.ofNat (n.toNat / 256 ^ k)]) := by
        have := beB_take M n.toNat (M - (k + 1)) (by omega)
        rw [show M - (k + 1) + 1 = M - k by omega, show M - 1 - (M - (k + 1)) = k by omega] at this
        rw [show ((k : Int) + 1).toNat = k + 1 by omega]; exact this
      go_wp2_with (at_builtin; refine wpList_append_bytes _ rfl _ _ rfl w.heap.size _ _ rfl (HO.out.up (Up.alloc _ _)) (some ⟨wr.heap.size, 0, none⟩) [UInt8.ofNat (n.toNat / 256 ^ k)] 1 1 rfl rfl (Rd.one _ _ _ _ ?e1) ?e2 ?e3 ?_)
      case e1 => exact put_byte n0 k
      case e2 => simp only [List.length_append, List.length_take, beB_len, List.length_cons, List.length_nil]; omega
      case e3 => have := HU.out.size; simp; omega
      intro v' w1 ho hg hat
      have HO' : Hid (Ow w1 w.heap.size v' (l ++ (beB M n.toNat).take (M - (k : Int).toNat))) := by
        refine Lib.hid ?_
        have hT := HT.out
        rw [show ((k : Int) + 1).toNat = k + 1 by omega] at hT
        rw [show ((k : Int)).toNat = k by omega, hT]; exact ho
      have HU' : Hid (Up w w1) := (HU.out.alloc' _).grown hg HO.out.block
      clear ho hg hat HO HU HT
      go_wp2
      go_roundw
      case rel => exact ⟨k, by omega, by omega, by omega, by go_num, HO'.out, HU'.out⟩
      case measure => simp [intOf]
    · go_wp2
      go_ret
      refine ⟨_, rfl, ?_, HU.out⟩
      have := HO.out
      rw [show y.toNat = 0 by omega, Nat.sub_zero, List.take_of_length_le (by rw [beB_len]; exact Nat.le_refl _)] at this
      rw [HP.out]; exact this
end Go.Proofs.YtaljddoenjgbfaaGreat
