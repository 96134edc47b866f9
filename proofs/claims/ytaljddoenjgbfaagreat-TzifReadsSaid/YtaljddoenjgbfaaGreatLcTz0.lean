/-
  Files: plain, and as values.
-/
import Derived.Test.YtaljddoenjgbfaaGreatLcTzB
import Derived.Test.YtaljddoenjgbfaaGreatLcTzF
namespace Go.Proofs.YtaljddoenjgbfaaGreat
open Go.ChangeShapes Go.WideShapes Go.ChangeAt Go.RowKit Lc

/-- A file. -/
structure Fil where
  ver : Int
  blk : Blk
  foot : ByteArray
/-- The value reads as this file. -/
def FlR (w : World) (v : Value) (f : Fil) : Prop := ∃ a b c d e, v = .agg #[.int .i64 f.ver, a, b, c, d, e, .string f.foot] ∧ BkR w (.agg #[a, b, c, d, e]) f.blk
/-- Its block lies in new memory. -/
def FlF (w : World) (v : Value) : Prop := ∃ i a b c d e s, v = .agg #[i, a, b, c, d, e, s] ∧ BkF w (.agg #[a, b, c, d, e])
set_option maxRecDepth 100000 in
theorem FlR.up {w w' : World} {v : Value} {f : Fil} (h : FlR w v f) (u : Up w w') : FlR w' v f := by
  obtain ⟨a, b, c, d, e, q, h⟩ := h; exact ⟨a, b, c, d, e, q, h.up u⟩
set_option maxRecDepth 100000 in
theorem FlF.base {w w1 : World} {v : Value} (h : FlF w1 v) (u : Up w w1) : FlF w v := by
  obtain ⟨i, a, b, c, d, e, s, q, h⟩ := h; exact ⟨i, a, b, c, d, e, s, q, h.base u⟩
set_option maxRecDepth 100000 in
theorem gb_seven {w V : World} {b : Nat} (h : w.grownBy V (some b)) (v0 v1 v2 v3 v4 v5 v6 : Value) : w.grownBy (seven V b v0 v1 v2 v3 v4 v5 v6) (some b) :=
  gb_set (gb_set (gb_set (gb_set (gb_set (gb_set (gb_set h 0 v0) 1 v1) 2 v2) 3 v3) 4 v4) 5 v5) 6 v6
set_option maxRecDepth 100000 in
theorem FlR.gb {w0 w V : World} {b : Nat} (h : w.grownBy V (some b)) {v : Value} {x : Fil} (hx : FlR w v x) (hf : FlF w0 v) (hb : b < w0.heap.size) : FlR V v x := by
  obtain ⟨a, b', c, d, e, rfl, hx⟩ := hx
  obtain ⟨i, a1, b1, c1, d1, e1, s, q, hf⟩ := hf
  simp only [Value.agg.injEq, Array.mk.injEq, List.cons.injEq, and_true] at q
  obtain ⟨rfl, rfl, rfl, rfl, rfl, rfl, rfl⟩ := q
  exact ⟨_, _, _, _, _, rfl, hx.gb h hf hb⟩
set_option maxRecDepth 100000 in
theorem FlR.form {w : World} {v : Value} {f : Fil} (h : FlR w v f) : ∃ A0 n0 c0 A1 n1 c1 A2 n2 c2 A3 n3 c3 A4 n4 c4, v = .agg #[.int .i64 f.ver, .slice A0 n0 c0, .slice A1 n1 c1, .slice A2 n2 c2, .slice A3 n3 c3, .slice A4 n4 c4, .string f.foot] ∧ BkR w (.agg #[.slice A0 n0 c0, .slice A1 n1 c1, .slice A2 n2 c2, .slice A3 n3 c3, .slice A4 n4 c4]) f.blk := by
  obtain ⟨a, b, c, d, e, rfl, h⟩ := h
  obtain ⟨A0, n0, c0, A1, n1, c1, A2, n2, c2, A3, n3, c3, A4, n4, c4, q⟩ := h.form
  simp only [Value.agg.injEq, Array.mk.injEq, List.cons.injEq, and_true] at q
  obtain ⟨rfl, rfl, rfl, rfl, rfl⟩ := q
  exact ⟨A0, n0, c0, A1, n1, c1, A2, n2, c2, A3, n3, c3, A4, n4, c4, rfl, h⟩
/-- No file. -/
def fl0 : Fil := ⟨0, bk0, ⟨#[]⟩⟩
def flz : Value := .agg #[.int .i64 0, .slice none 0 0, .slice none 0 0, .slice none 0 0, .slice none 0 0, .slice none 0 0, .string ⟨#[]⟩]
set_option maxRecDepth 100000 in
theorem flz_read (w : World) : FlR w flz fl0 := ⟨_, _, _, _, _, rfl, bz_read w⟩
set_option maxRecDepth 100000 in
theorem flz_new (w : World) : FlF w flz := ⟨_, _, _, _, _, _, _, rfl, bz_new w⟩

/-- The version that a header tells. -/
def vH (l : List UInt8) : Int := versI (l.getD 4 0)
/-- What a block behind its header tells: an error, the block, what is behind. -/
def hB (l : List UInt8) (z : Int) : Int := decE (l.drop 44) (vH l) (cntI l 0) (cntI l 1) (cntI l 2) (cntI l 3) (cntI l 4) (cntI l 5) z
def hX (l : List UInt8) (z : Int) : Blk := decX (l.drop 44) (vH l) (cntI l 0) (cntI l 1) (cntI l 2) (cntI l 3) (cntI l 4) (cntI l 5) z
def hR (l : List UInt8) (z : Int) : List UInt8 := (l.drop 44).drop (bodyI (cntI l 0) (cntI l 1) (cntI l 2) (cntI l 3) (cntI l 4) (cntI l 5) z).toNat
/-- What ends the reading behind the first block. -/
def rest2 (v : Int) (r : List UInt8) : Int := if errH r ≠ 0 then errH r else if vH r ≠ v then 4 else if hB r 8 ≠ 0 then hB r 8 else footE (hR r 8)
/-- What ends the reading: 0, or an error. -/
def readE (l : List UInt8) : Int := if errH l ≠ 0 then errH l else if hB l 4 ≠ 0 then hB l 4 else if vH l = 1 then (if hR l 4 = [] then 0 else 4) else rest2 (vH l) (hR l 4)
/-- The file that is read. -/
def readF (l : List UInt8) : Fil := if vH l = 1 then ⟨vH l, hX l 4, ⟨#[]⟩⟩ else ⟨vH (hR l 4), hX (hR l 4) 8, footT (hR (hR l 4) 8)⟩

set_option maxRecDepth 100000 in
theorem rblk_no (v : Value) (l : List UInt8) (z : Int) (w : World) (hs : Sb w v (l.drop 44)) (h : hB l z ≠ 0) :
    Calls Tryz.prog 52 #[v, hv (versI (l.getD 4 0)) (cntI l 0) (cntI l 1) (cntI l 2) (cntI l 3) (cntI l 4) (cntI l 5), .int .i64 z] w fun e w' => e = .panicked (pnc (hB l z)) ∧ Up w w' := rblock_no v _ _ _ _ _ _ _ _ z w hs h
set_option maxRecDepth 100000 in
theorem rblk_yes (v : Value) (l : List UInt8) (z : Int) (w : World) (hs : Sb w v (l.drop 44)) (hi : isH l = true) (hz : z = 4 ∨ z = 8) (h : hB l z = 0) :
    Calls Tryz.prog 52 #[v, hv (versI (l.getD 4 0)) (cntI l 0) (cntI l 1) (cntI l 2) (cntI l 3) (cntI l 4) (cntI l 5), .int .i64 z] w fun e w' => RbP w (hX l z) (hR l z) e w' := rblock_yes v _ _ _ _ _ _ _ _ z w hs (isH_err hi).2.2 hz h
end Go.Proofs.YtaljddoenjgbfaaGreat
