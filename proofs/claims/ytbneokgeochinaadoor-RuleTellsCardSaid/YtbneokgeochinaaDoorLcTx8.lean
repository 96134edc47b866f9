/-
  Bytes, as a text.
-/
import Derived.Test.YtbneokgeochinaaDoorLcPx2
import Derived.Test.YtbneokgeochinaaDoorLcUp
import Derived.WalkKit
namespace Go.Proofs.YtbneokgeochinaaDoor
open Go.ChangeShapes Go.WideShapes Go.ChangeAt Go.RowKit Lc

/-- Bytes, as a text. -/
def tx (l : List UInt8) : ByteArray := ⟨l.toArray⟩
theorem tx_list (l : List UInt8) : (tx l).data.toList = l := rfl
theorem tx_size (l : List UInt8) : (tx l).size = l.length := by show l.toArray.size = _; simp
theorem tx_of (s : ByteArray) : s = tx s.data.toList := by
  apply ByteArray.ext; simp [tx]
theorem tx_inj {a b : List UInt8} (h : tx a = tx b) : a = b := by have := congrArg (fun s => s.data.toList) h; simpa [tx] using this
theorem tx_append (a b : List UInt8) : tx a ++ tx b = tx (a ++ b) := by apply ByteArray.ext; simp [tx, ByteArray.data_append]
theorem tx_take (l : List UInt8) (k : Nat) : (tx l).extract 0 k = tx (l.take k) := by
  apply ByteArray.ext
  rw [ByteArray.data_extract]
  simp [tx]
end Go.Proofs.YtbneokgeochinaaDoor
