/-
  The library's CutPrefix, Clone and Index at this program: what they answer (the shelf's contracts, laid); strings.Cut at one byte, strings.Clone.
-/
import Derived.Shelf.LaysM
import Derived.Shelf.Small.Wraps
import Derived.Shelf.Strconv.Clone
import Derived.Shelf.Strings.Search2
import Derived.Test.YtalpbbgkallohaaDoorLcTab8
import Derived.Test.YtalpbbgkallohaaDoorLcPx1
namespace Go.Proofs.YtalpbbgkallohaaDoor
open Go.Shelf Go.RowKit Lc
def laysP_ren : Go.Shelf.Ren := ⟨fun | 103 => 72 | 210 => 79 | 206 => 86 | n => n, fun | 9 => 9 | 4 => 4 | 24 => 92 | 3 => 3 | n => n, fun | n => n⟩
theorem laysP : Go.Proofs.Lays.n103 Tryd.prog laysP_ren := {
  mixed := by kernel_rfl
  f103 := Tryd.func72.trans (congrArg some (by kernel_rfl))
  f206 := Tryd.func86.trans (congrArg some (by kernel_rfl))
  f210 := Tryd.func79.trans (congrArg some (by kernel_rfl))
  t3 := Tryd.underlying3
  a3 := Tryd.isAgg3
  z3 := Tryd.sizeOf3
  v3 := Tryd.zeroValue3
  t4 := Tryd.underlying4
  a4 := Tryd.isAgg4
  z4 := Tryd.sizeOf4
  v4 := Tryd.zeroValue4
  t9 := Tryd.underlying9
  a9 := Tryd.isAgg9
  z9 := Tryd.sizeOf9
  v9 := Tryd.zeroValue9
  t24 := Tryd.underlying92
  a24 := Tryd.isAgg92
  z24 := Tryd.sizeOf92
  v24 := Tryd.zeroValue92 }
def laysK_ren : Go.Shelf.Ren := ⟨fun | 316 => 77 | n => n, fun | 9 => 9 | 3 => 3 | 4 => 4 | 37 => 46 | 0 => 0 | 127 => 75 | 5 => 5 | n => n, fun | n => n⟩
theorem laysK : Go.Proofs.LaysM.n316 Tryd.prog laysK_ren := {
  mixed := by kernel_rfl
  f316 := Tryd.func77.trans (congrArg some (by kernel_rfl))
  t0 := Tryd.underlying0
  a0 := Tryd.isAgg0
  z0 := Tryd.sizeOf0
  v0 := Tryd.zeroValue0
  t3 := Tryd.underlying3
  a3 := Tryd.isAgg3
  z3 := Tryd.sizeOf3
  v3 := Tryd.zeroValue3
  t4 := Tryd.underlying4
  a4 := Tryd.isAgg4
  z4 := Tryd.sizeOf4
  v4 := Tryd.zeroValue4
  t9 := Tryd.underlying9
  a9 := Tryd.isAgg9
  z9 := Tryd.sizeOf9
  v9 := Tryd.zeroValue9
  t37 := Tryd.underlying46
  a37 := Tryd.isAgg46
  z37 := Tryd.sizeOf46
  v37 := Tryd.zeroValue46
  t127 := Tryd.underlying75
  a127 := Tryd.isAgg75
  z127 := Tryd.sizeOf75
  v127 := Tryd.zeroValue75
  t5 := Tryd.underlying5
  a5 := Tryd.isAgg5
  z5 := Tryd.sizeOf5
  v5 := Tryd.zeroValue5
  i0 := by kernel_rfl
  i3 := by kernel_rfl
  i4 := by kernel_rfl
  i5 := by kernel_rfl
  i9 := by kernel_rfl
  i37 := by kernel_rfl
  i127 := by kernel_rfl }
def laysX_ren : Go.Shelf.Ren := ⟨fun | 219 => 84 | 217 => 92 | 225 => 93 | 224 => 94 | 267 => 95 | 266 => 98 | 314 => 99 | n => n, fun | 9 => 9 | 3 => 3 | 4 => 4 | 5 => 5 | 46 => 107 | 146 => 111 | 51 => 105 | n => n, fun | 1 => 1 | n => n⟩
theorem laysX : Go.Proofs.Lays.n219 Tryd.prog laysX_ren := {
  mixed := by kernel_rfl
  f217 := Tryd.func92.trans (congrArg some (by kernel_rfl))
  f219 := Tryd.func84.trans (congrArg some (by kernel_rfl))
  f224 := Tryd.func94.trans (congrArg some (by kernel_rfl))
  f225 := Tryd.func93.trans (congrArg some (by kernel_rfl))
  f266 := Tryd.func98.trans (congrArg some (by kernel_rfl))
  f267 := Tryd.func95.trans (congrArg some (by kernel_rfl))
  f314 := Tryd.func99.trans (congrArg some (by kernel_rfl))
  t3 := Tryd.underlying3
  a3 := Tryd.isAgg3
  z3 := Tryd.sizeOf3
  v3 := Tryd.zeroValue3
  t4 := Tryd.underlying4
  a4 := Tryd.isAgg4
  z4 := Tryd.sizeOf4
  v4 := Tryd.zeroValue4
  t5 := Tryd.underlying5
  a5 := Tryd.isAgg5
  z5 := Tryd.sizeOf5
  v5 := Tryd.zeroValue5
  t9 := Tryd.underlying9
  a9 := Tryd.isAgg9
  z9 := Tryd.sizeOf9
  v9 := Tryd.zeroValue9
  t46 := Tryd.underlying107
  a46 := Tryd.isAgg107
  z46 := Tryd.sizeOf107
  v46 := Tryd.zeroValue107
  t51 := Tryd.underlying105
  a51 := Tryd.isAgg105
  z51 := Tryd.sizeOf105
  v51 := Tryd.zeroValue105
  t146 := Tryd.underlying111
  a146 := Tryd.isAgg111
  z146 := Tryd.sizeOf111
  v146 := Tryd.zeroValue111
  g1 := by kernel_rfl }

/-- Bytes, as a text. -/
def tx (l : List UInt8) : ByteArray := ⟨l.toArray⟩
theorem tx_list (l : List UInt8) : (tx l).data.toList = l := rfl
theorem tx_size (l : List UInt8) : (tx l).size = l.length := by show l.toArray.size = _; simp
theorem tx_of (s : ByteArray) : s = tx s.data.toList := by
  apply ByteArray.ext; simp [tx]
theorem tx_inj {a b : List UInt8} (h : tx a = tx b) : a = b := by have := congrArg (fun s => s.data.toList) h; simpa [tx] using this
theorem tx_append (a b : List UInt8) : tx a ++ tx b = tx (a ++ b) := by apply ByteArray.ext; simp [tx, ByteArray.data_append]

theorem cutp_yes (c : UInt8) (l t : List UInt8) (w : World) (h : takeP c l = some t) : Calls Tryd.prog 72 #[.string (tx l), .string ⟨#[c]⟩] w fun e w' => e = .returned (.tuple #[.string (tx t), .bool true]) ∧ w = w' := by
  have := takeP_some h; subst this
  refine (Any.strings_CutPrefix laysP (tx (c :: t)) ⟨#[c]⟩ w).mono ?_
  rintro e w' ⟨rfl, rfl⟩
  have e1 : Lib.hasPrefix (tx (c :: t)).data.toList (⟨#[c]⟩ : ByteArray).data.toList = true := by simp [Lib.hasPrefix, tx, List.isPrefixOf]
  have e2 : Lib.trimPrefix (tx (c :: t)).data.toList (⟨#[c]⟩ : ByteArray).data.toList = t := by unfold Lib.trimPrefix; rw [if_pos e1]; rfl
  rw [e1, e2]
  exact ⟨rfl, rfl⟩
theorem cutp_no (c : UInt8) (l : List UInt8) (w : World) (h : takeP c l = none) : Calls Tryd.prog 72 #[.string (tx l), .string ⟨#[c]⟩] w fun e w' => e = .returned (.tuple #[.string (tx l), .bool false]) ∧ w = w' := by
  refine (Any.strings_CutPrefix laysP (tx l) ⟨#[c]⟩ w).mono ?_
  rintro e w' ⟨rfl, rfl⟩
  have e1 : Lib.hasPrefix (tx l).data.toList (⟨#[c]⟩ : ByteArray).data.toList = false := by
    show Lib.hasPrefix l [c] = false
    unfold takeP at h
    rcases l with _ | ⟨x, l⟩
    · rfl
    · simp only at h
      split at h
      · cases h
      · rename_i n
        simp [Lib.hasPrefix, List.isPrefixOf]
        exact fun e => n e.symm
  have e2 : Lib.trimPrefix (tx l).data.toList (⟨#[c]⟩ : ByteArray).data.toList = l := by unfold Lib.trimPrefix; rw [if_neg (by rw [e1]; decide)]; rfl
  rw [e1, e2]
  exact ⟨rfl, rfl⟩
theorem clone_any (s : ByteArray) (w : World) (h : s.size ≤ 281474976710656) : Calls Tryd.prog 70 #[.string s] w fun e w' => e = .returned (.string s) ∧ Up w w' := by
  have C := Any.stringslite_Clone laysK s w h
  go_enter Tryd.func70, Tryd.ntmps70
  go_wp2_with fail
  refine C.mono ?_
  rintro e w' ⟨rfl, u⟩
  go_wp2_with fail
  go_ret
  exact ⟨rfl, u⟩
theorem index_any (l : List UInt8) (c : UInt8) (w : World) : Calls Tryd.prog 84 #[.string (tx l), .string ⟨#[c]⟩] w fun e w' => e = .returned (.int .i64 (Lib.indexByte l c)) ∧ w = w' := by
  refine (Any.stringslite_Index_one laysX (tx l) c w).mono ?_
  rintro e w' ⟨rfl, rfl⟩
  exact ⟨rfl, rfl⟩
end Go.Proofs.YtalpbbgkallohaaDoor
