/-
  No cell of these rows narrows 'for every input' (looked for: loops, veiled, ifaces, maps, wideKeys, modest, calm, conditions, laid).
  DERIVED. THE GIVEN ROWS OF THIS SEAT. 5 by the template 'for every input the law returns true; each argument reads behind the call as it read before'; 0 by the template 'total and deterministic' (their statements: YtaljddoenjgbfaaTotals.lean).
  GIVEN WITH THE SEED: the statements are not yours to turn. If you find one false, say at which input.
  Laid BY PROGRAM, IN A SANDBOX (cutbox-rows.mjs): the forced cells as the released guide's own fill.sh prints them over the translation f41605b032ead8b5… (all of the seat's roots in one cut). By AI agents, Wed Nov 11 2026. No macro, syntax, notation, axiom, sorry.
-/
import Derived.Test.YtaljddoenjgbfaaChecked
import GoSem.Claim
import GoSem.ClaimJoined
import GoSem.ClaimMapViews
import Derived.JoinedTies
import Derived.KernelRfl
namespace Go.Proofs.Ytaljddoenjgbfaa
/- THE CELL 'sum', in the pinned program and in every row, IS THE sha256 OF THE DUMP (.gsa) THAT YtaljddoenjgbfaaProg.lean LOADS. Nothing in Lean hashes anything: it is a label: what it is worth is what the hold of that sum in a sandbox is worth. -/
noncomputable def Try.pinned : Pinned := { name := "ytaljddoenjgbfaa", sum := "f41605b032ead8b504223c32b5d3bb25fd9e0bd501e907b21f44344f043bba5a", checked := Try.checked }
namespace Rows
def none {H : Type} : Left H := { results := [], args := [] }

/-- 'longcaselaw07.TzifBack': WHATEVER THE INPUT: true; the input reads as it did. -/
def tzifBackSpec : ChangeSpec := { name := "tzifBack", fn := fun _ => fun
  | [d1, d2, d3] => { results := [.lit (.bool true)], args := [d1, d2, d3] }
  | _ => none }
def tzifBackRow : OpenClaim := { program := "ytaljddoenjgbfaa", sum := "f41605b032ead8b504223c32b5d3bb25fd9e0bd501e907b21f44344f043bba5a", func := "longcase/longcaselaw07.TzifBack", spec := "tzifBack", inPlace := ["internal/bytealg.IndexByteString", "internal/bytealg.IndexString", "internal/abi.NoEscape", "internal/bytealg.MakeNoZero", "internal/bytealg.IndexByte", "internal/bytealg.Index"], unfollowed := true, recurses := true, named := ["internal/bytealg.MaxLen"], apart := false }
def TzifBackSaid : Prop := tzifBackRow.holds Try.pinned (OpenSpec.ofChange tzifBackSpec)

/-- ITS FALSE NEIGHBOUR: 'it returns false'. Refute it at one input. -/
def tzifBackWrong : ChangeSpec := { name := "tzifBack", fn := fun _ => fun
  | [d1, d2, d3] => { results := [.lit (.bool false)], args := [d1, d2, d3] }
  | _ => none }
def TzifBackWrongFalsely : Prop := tzifBackRow.holds Try.pinned (OpenSpec.ofChange tzifBackWrong)

/-- 'longcaselaw07.TzifFirst': WHATEVER THE INPUT: true; the input reads as it did. -/
def tzifFirstSpec : ChangeSpec := { name := "tzifFirst", fn := fun _ => fun
  | [d1, d2] => { results := [.lit (.bool true)], args := [d1, d2] }
  | _ => none }
def tzifFirstRow : OpenClaim := { program := "ytaljddoenjgbfaa", sum := "f41605b032ead8b504223c32b5d3bb25fd9e0bd501e907b21f44344f043bba5a", func := "longcase/longcaselaw07.TzifFirst", spec := "tzifFirst", inPlace := ["internal/bytealg.IndexByteString", "internal/bytealg.IndexString", "internal/abi.NoEscape", "internal/bytealg.MakeNoZero", "internal/bytealg.IndexByte", "internal/bytealg.Index"], unfollowed := true, recurses := true, named := ["internal/bytealg.MaxLen"], apart := false }
def TzifFirstSaid : Prop := tzifFirstRow.holds Try.pinned (OpenSpec.ofChange tzifFirstSpec)

/-- ITS FALSE NEIGHBOUR: 'it returns false'. Refute it at one input. -/
def tzifFirstWrong : ChangeSpec := { name := "tzifFirst", fn := fun _ => fun
  | [d1, d2] => { results := [.lit (.bool false)], args := [d1, d2] }
  | _ => none }
def TzifFirstWrongFalsely : Prop := tzifFirstRow.holds Try.pinned (OpenSpec.ofChange tzifFirstWrong)

/-- 'longcaselaw07.TzifLines': WHATEVER THE INPUT: true; the input reads as it did. -/
def tzifLinesSpec : ChangeSpec := { name := "tzifLines", fn := fun _ => fun
  | [d1, d2] => { results := [.lit (.bool true)], args := [d1, d2] }
  | _ => none }
def tzifLinesRow : OpenClaim := { program := "ytaljddoenjgbfaa", sum := "f41605b032ead8b504223c32b5d3bb25fd9e0bd501e907b21f44344f043bba5a", func := "longcase/longcaselaw07.TzifLines", spec := "tzifLines", inPlace := ["internal/bytealg.IndexByteString", "internal/bytealg.IndexString", "internal/abi.NoEscape", "internal/bytealg.MakeNoZero", "internal/bytealg.IndexByte", "internal/bytealg.Index"], unfollowed := true, recurses := true, named := ["internal/bytealg.MaxLen"], apart := false }
def TzifLinesSaid : Prop := tzifLinesRow.holds Try.pinned (OpenSpec.ofChange tzifLinesSpec)

/-- ITS FALSE NEIGHBOUR: 'it returns false'. Refute it at one input. -/
def tzifLinesWrong : ChangeSpec := { name := "tzifLines", fn := fun _ => fun
  | [d1, d2] => { results := [.lit (.bool false)], args := [d1, d2] }
  | _ => none }
def TzifLinesWrongFalsely : Prop := tzifLinesRow.holds Try.pinned (OpenSpec.ofChange tzifLinesWrong)

/-- 'longcaselaw07.TzifOnce': WHATEVER THE INPUT: true; the input reads as it did. -/
def tzifOnceSpec : ChangeSpec := { name := "tzifOnce", fn := fun _ => fun
  | [d] => { results := [.lit (.bool true)], args := [d] }
  | _ => none }
def tzifOnceRow : OpenClaim := { program := "ytaljddoenjgbfaa", sum := "f41605b032ead8b504223c32b5d3bb25fd9e0bd501e907b21f44344f043bba5a", func := "longcase/longcaselaw07.TzifOnce", spec := "tzifOnce", inPlace := ["internal/bytealg.IndexByteString", "internal/bytealg.IndexString", "internal/abi.NoEscape", "internal/bytealg.MakeNoZero", "internal/bytealg.IndexByte", "internal/bytealg.Index"], unfollowed := true, recurses := true, named := ["internal/bytealg.MaxLen"], apart := false }
def TzifOnceSaid : Prop := tzifOnceRow.holds Try.pinned (OpenSpec.ofChange tzifOnceSpec)

/-- ITS FALSE NEIGHBOUR: 'it returns false'. Refute it at one input. -/
def tzifOnceWrong : ChangeSpec := { name := "tzifOnce", fn := fun _ => fun
  | [d] => { results := [.lit (.bool false)], args := [d] }
  | _ => none }
def TzifOnceWrongFalsely : Prop := tzifOnceRow.holds Try.pinned (OpenSpec.ofChange tzifOnceWrong)

/-- 'longcaselaw07.TzifVersions': WHATEVER THE INPUT: true; the input reads as it did. -/
def tzifVersionsSpec : ChangeSpec := { name := "tzifVersions", fn := fun _ => fun
  | [d] => { results := [.lit (.bool true)], args := [d] }
  | _ => none }
def tzifVersionsRow : OpenClaim := { program := "ytaljddoenjgbfaa", sum := "f41605b032ead8b504223c32b5d3bb25fd9e0bd501e907b21f44344f043bba5a", func := "longcase/longcaselaw07.TzifVersions", spec := "tzifVersions", inPlace := ["internal/bytealg.IndexByteString", "internal/bytealg.IndexString", "internal/abi.NoEscape", "internal/bytealg.MakeNoZero", "internal/bytealg.IndexByte", "internal/bytealg.Index"], unfollowed := true, recurses := true, named := ["internal/bytealg.MaxLen"], apart := false }
def TzifVersionsSaid : Prop := tzifVersionsRow.holds Try.pinned (OpenSpec.ofChange tzifVersionsSpec)

/-- ITS FALSE NEIGHBOUR: 'it returns false'. Refute it at one input. -/
def tzifVersionsWrong : ChangeSpec := { name := "tzifVersions", fn := fun _ => fun
  | [d] => { results := [.lit (.bool false)], args := [d] }
  | _ => none }
def TzifVersionsWrongFalsely : Prop := tzifVersionsRow.holds Try.pinned (OpenSpec.ofChange tzifVersionsWrong)

/- THE SECOND FORM. 'bulk': how many values and letters a reading holds, each counted each time it is reached (what is shared counts as often as it is met; a slice's spare places count too). A statement '..UptoSaid' is the law's where the arguments, and the package variables that the reading takes, are together of bulk at most 1048576: NARROWER than '..Said'. Prove '..Said' where nothing that the law and all that it calls make is longer than what came in: it says more and counts as full. Else prove '..UptoSaid'. A law counts once. -/
mutual
def uptoBulk {H : Type} : DataW H → Nat
  | .lit (.string bytes) => bytes.length + 1
  | .lit _ => 1
  | .nil => 1
  | .ptr d => uptoBulk d + 1
  | .slice elems spare => uptoBulkAll elems + uptoBulkAll spare + 1
  | .agg parts => uptoBulkAll parts + 1
  | .iface _ d => uptoBulk d + 1
  | .map entries => uptoBulkEntries entries + 1
  | .held _ => 1
def uptoBulkAll {H : Type} : List (DataW H) → Nat
  | [] => 0
  | d :: r => uptoBulk d + uptoBulkAll r
def uptoBulkEntries {H : Type} : List (Lit × DataW H) → Nat
  | [] => 0
  | x :: r => uptoBulkEntry x + uptoBulkEntries r
def uptoBulkEntry {H : Type} : Lit × DataW H → Nat
  | (.string bytes, d) => bytes.length + uptoBulk d + 1
  | (_, d) => uptoBulk d + 1
 end
def uptoSmall : (H : Type) → List (DataW H) → Bool := fun _ ds => decide (uptoBulkAll ds ≤ 1048576)
def OpenSpec.upto (s : _root_.Go.ChangeSpec) : _root_.Go.OpenSpec := { _root_.Go.OpenSpec.ofChange s with cond := some uptoSmall }

/-- 'longcaselaw07.TzifBack', WHERE WHAT IT READS IS OF BULK AT MOST 1048576: true; the input reads as it did. -/
def tzifBackUptoRow : OpenClaim := { program := "ytaljddoenjgbfaa", sum := "f41605b032ead8b504223c32b5d3bb25fd9e0bd501e907b21f44344f043bba5a", func := "longcase/longcaselaw07.TzifBack", spec := "tzifBack", inPlace := ["internal/bytealg.IndexByteString", "internal/bytealg.IndexString", "internal/abi.NoEscape", "internal/bytealg.MakeNoZero", "internal/bytealg.IndexByte", "internal/bytealg.Index"], unfollowed := true, recurses := true, named := ["internal/bytealg.MaxLen"], apart := false, narrowed := true }
def TzifBackUptoSaid : Prop := tzifBackUptoRow.holds Try.pinned (OpenSpec.upto tzifBackSpec)

/-- 'longcaselaw07.TzifFirst', WHERE WHAT IT READS IS OF BULK AT MOST 1048576: true; the input reads as it did. -/
def tzifFirstUptoRow : OpenClaim := { program := "ytaljddoenjgbfaa", sum := "f41605b032ead8b504223c32b5d3bb25fd9e0bd501e907b21f44344f043bba5a", func := "longcase/longcaselaw07.TzifFirst", spec := "tzifFirst", inPlace := ["internal/bytealg.IndexByteString", "internal/bytealg.IndexString", "internal/abi.NoEscape", "internal/bytealg.MakeNoZero", "internal/bytealg.IndexByte", "internal/bytealg.Index"], unfollowed := true, recurses := true, named := ["internal/bytealg.MaxLen"], apart := false, narrowed := true }
def TzifFirstUptoSaid : Prop := tzifFirstUptoRow.holds Try.pinned (OpenSpec.upto tzifFirstSpec)

/-- 'longcaselaw07.TzifLines', WHERE WHAT IT READS IS OF BULK AT MOST 1048576: true; the input reads as it did. -/
def tzifLinesUptoRow : OpenClaim := { program := "ytaljddoenjgbfaa", sum := "f41605b032ead8b504223c32b5d3bb25fd9e0bd501e907b21f44344f043bba5a", func := "longcase/longcaselaw07.TzifLines", spec := "tzifLines", inPlace := ["internal/bytealg.IndexByteString", "internal/bytealg.IndexString", "internal/abi.NoEscape", "internal/bytealg.MakeNoZero", "internal/bytealg.IndexByte", "internal/bytealg.Index"], unfollowed := true, recurses := true, named := ["internal/bytealg.MaxLen"], apart := false, narrowed := true }
def TzifLinesUptoSaid : Prop := tzifLinesUptoRow.holds Try.pinned (OpenSpec.upto tzifLinesSpec)

/-- 'longcaselaw07.TzifOnce', WHERE WHAT IT READS IS OF BULK AT MOST 1048576: true; the input reads as it did. -/
def tzifOnceUptoRow : OpenClaim := { program := "ytaljddoenjgbfaa", sum := "f41605b032ead8b504223c32b5d3bb25fd9e0bd501e907b21f44344f043bba5a", func := "longcase/longcaselaw07.TzifOnce", spec := "tzifOnce", inPlace := ["internal/bytealg.IndexByteString", "internal/bytealg.IndexString", "internal/abi.NoEscape", "internal/bytealg.MakeNoZero", "internal/bytealg.IndexByte", "internal/bytealg.Index"], unfollowed := true, recurses := true, named := ["internal/bytealg.MaxLen"], apart := false, narrowed := true }
def TzifOnceUptoSaid : Prop := tzifOnceUptoRow.holds Try.pinned (OpenSpec.upto tzifOnceSpec)

/-- 'longcaselaw07.TzifVersions', WHERE WHAT IT READS IS OF BULK AT MOST 1048576: true; the input reads as it did. -/
def tzifVersionsUptoRow : OpenClaim := { program := "ytaljddoenjgbfaa", sum := "f41605b032ead8b504223c32b5d3bb25fd9e0bd501e907b21f44344f043bba5a", func := "longcase/longcaselaw07.TzifVersions", spec := "tzifVersions", inPlace := ["internal/bytealg.IndexByteString", "internal/bytealg.IndexString", "internal/abi.NoEscape", "internal/bytealg.MakeNoZero", "internal/bytealg.IndexByte", "internal/bytealg.Index"], unfollowed := true, recurses := true, named := ["internal/bytealg.MaxLen"], apart := false, narrowed := true }
def TzifVersionsUptoSaid : Prop := tzifVersionsUptoRow.holds Try.pinned (OpenSpec.upto tzifVersionsSpec)

end Rows
end Go.Proofs.Ytaljddoenjgbfaa
