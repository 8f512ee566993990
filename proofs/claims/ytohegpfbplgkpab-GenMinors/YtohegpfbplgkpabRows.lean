/-
  No cell of these rows narrows 'for every input' (looked for: loops, veiled, ifaces, maps, wideKeys, modest, calm, conditions, laid).
  DERIVED. THE GIVEN ROWS OF THIS SEAT. 6 by the template 'for every input the law returns true; each argument reads behind the call as it read before'; 0 by the template 'total and deterministic' (their statements: YtohegpfbplgkpabTotals.lean).
  GIVEN WITH THE SEED: the statements are not yours to turn. If you find one false, say at which input.
  Laid BY PROGRAM, IN A SANDBOX (cutbox-rows.mjs): the forced cells as the released guide's own fill.sh prints them over the translation 1c6b7865c0c04c96… (all of the seat's roots in one cut). By AI agents, Wed Nov 11 2026. No macro, syntax, notation, axiom, sorry.
-/
import Derived.Test.YtohegpfbplgkpabChecked
import GoSem.Claim
import GoSem.ClaimJoined
import GoSem.ClaimMapViews
import Derived.JoinedTies
import Derived.KernelRfl
namespace Go.Proofs.Ytohegpfbplgkpab
/- THE CELL 'sum', in the pinned program and in every row, IS THE sha256 OF THE DUMP (.gsa) THAT YtohegpfbplgkpabProg.lean LOADS. Nothing in Lean hashes anything: it is a label: what it is worth is what the hold of that sum in a sandbox is worth. -/
noncomputable def Try.pinned : Pinned := { name := "ytohegpfbplgkpab", sum := "1c6b7865c0c04c96863656153b6b66c1222af06b8acf9c7f152c944ee0af3217", checked := Try.checked }
namespace Rows
def none {H : Type} : Left H := { results := [], args := [] }

/-- 'sheetpilelaw04.GenMakes': WHATEVER THE INPUT: true; the input reads as it did. -/
def genMakesSpec : ChangeSpec := { name := "genMakes", fn := fun _ => fun
  | [d1, d2] => { results := [.lit (.bool true)], args := [d1, d2] }
  | _ => none }
def genMakesRow : OpenClaim := { program := "ytohegpfbplgkpab", sum := "1c6b7865c0c04c96863656153b6b66c1222af06b8acf9c7f152c944ee0af3217", func := "sheetpile/sheetpilelaw04.GenMakes", spec := "genMakes", unfollowed := true, recurses := true, apart := false }
def GenMakesSaid : Prop := genMakesRow.holds Try.pinned (OpenSpec.ofChange genMakesSpec)

/-- ITS FALSE NEIGHBOUR: 'it returns false'. Refute it at one input. -/
def genMakesWrong : ChangeSpec := { name := "genMakes", fn := fun _ => fun
  | [d1, d2] => { results := [.lit (.bool false)], args := [d1, d2] }
  | _ => none }
def GenMakesWrongFalsely : Prop := genMakesRow.holds Try.pinned (OpenSpec.ofChange genMakesWrong)

/-- 'sheetpilelaw04.GenDecodes': WHATEVER THE INPUT: true; the input reads as it did. -/
def genDecodesSpec : ChangeSpec := { name := "genDecodes", fn := fun _ => fun
  | [d1, d2, d3] => { results := [.lit (.bool true)], args := [d1, d2, d3] }
  | _ => none }
def genDecodesRow : OpenClaim := { program := "ytohegpfbplgkpab", sum := "1c6b7865c0c04c96863656153b6b66c1222af06b8acf9c7f152c944ee0af3217", func := "sheetpile/sheetpilelaw04.GenDecodes", spec := "genDecodes", unfollowed := true, recurses := true, apart := false }
def GenDecodesSaid : Prop := genDecodesRow.holds Try.pinned (OpenSpec.ofChange genDecodesSpec)

/-- ITS FALSE NEIGHBOUR: 'it returns false'. Refute it at one input. -/
def genDecodesWrong : ChangeSpec := { name := "genDecodes", fn := fun _ => fun
  | [d1, d2, d3] => { results := [.lit (.bool false)], args := [d1, d2, d3] }
  | _ => none }
def GenDecodesWrongFalsely : Prop := genDecodesRow.holds Try.pinned (OpenSpec.ofChange genDecodesWrong)

/-- 'sheetpilelaw04.GenMinors': WHATEVER THE INPUT: true; the input reads as it did. -/
def genMinorsSpec : ChangeSpec := { name := "genMinors", fn := fun _ => fun
  | [d1, d2, d3] => { results := [.lit (.bool true)], args := [d1, d2, d3] }
  | _ => none }
def genMinorsRow : OpenClaim := { program := "ytohegpfbplgkpab", sum := "1c6b7865c0c04c96863656153b6b66c1222af06b8acf9c7f152c944ee0af3217", func := "sheetpile/sheetpilelaw04.GenMinors", spec := "genMinors", unfollowed := true, recurses := true, apart := false }
def GenMinorsSaid : Prop := genMinorsRow.holds Try.pinned (OpenSpec.ofChange genMinorsSpec)

/-- ITS FALSE NEIGHBOUR: 'it returns false'. Refute it at one input. -/
def genMinorsWrong : ChangeSpec := { name := "genMinors", fn := fun _ => fun
  | [d1, d2, d3] => { results := [.lit (.bool false)], args := [d1, d2, d3] }
  | _ => none }
def GenMinorsWrongFalsely : Prop := genMinorsRow.holds Try.pinned (OpenSpec.ofChange genMinorsWrong)

/-- 'sheetpilelaw04.GenMore': WHATEVER THE INPUT: true; the input reads as it did. -/
def genMoreSpec : ChangeSpec := { name := "genMore", fn := fun _ => fun
  | [d1, d2, d3] => { results := [.lit (.bool true)], args := [d1, d2, d3] }
  | _ => none }
def genMoreRow : OpenClaim := { program := "ytohegpfbplgkpab", sum := "1c6b7865c0c04c96863656153b6b66c1222af06b8acf9c7f152c944ee0af3217", func := "sheetpile/sheetpilelaw04.GenMore", spec := "genMore", unfollowed := true, recurses := true, apart := false }
def GenMoreSaid : Prop := genMoreRow.holds Try.pinned (OpenSpec.ofChange genMoreSpec)

/-- ITS FALSE NEIGHBOUR: 'it returns false'. Refute it at one input. -/
def genMoreWrong : ChangeSpec := { name := "genMore", fn := fun _ => fun
  | [d1, d2, d3] => { results := [.lit (.bool false)], args := [d1, d2, d3] }
  | _ => none }
def GenMoreWrongFalsely : Prop := genMoreRow.holds Try.pinned (OpenSpec.ofChange genMoreWrong)

/-- 'sheetpilelaw04.GenData': WHATEVER THE INPUT: true; the input reads as it did. -/
def genDataSpec : ChangeSpec := { name := "genData", fn := fun _ => fun
  | [d1, d2, d3] => { results := [.lit (.bool true)], args := [d1, d2, d3] }
  | _ => none }
def genDataRow : OpenClaim := { program := "ytohegpfbplgkpab", sum := "1c6b7865c0c04c96863656153b6b66c1222af06b8acf9c7f152c944ee0af3217", func := "sheetpile/sheetpilelaw04.GenData", spec := "genData", unfollowed := true, recurses := true, apart := false }
def GenDataSaid : Prop := genDataRow.holds Try.pinned (OpenSpec.ofChange genDataSpec)

/-- ITS FALSE NEIGHBOUR: 'it returns false'. Refute it at one input. -/
def genDataWrong : ChangeSpec := { name := "genData", fn := fun _ => fun
  | [d1, d2, d3] => { results := [.lit (.bool false)], args := [d1, d2, d3] }
  | _ => none }
def GenDataWrongFalsely : Prop := genDataRow.holds Try.pinned (OpenSpec.ofChange genDataWrong)

/-- 'sheetpilelaw04.GenFirst': WHATEVER THE INPUT: true; the input reads as it did. -/
def genFirstSpec : ChangeSpec := { name := "genFirst", fn := fun _ => fun
  | [d1, d2, d3] => { results := [.lit (.bool true)], args := [d1, d2, d3] }
  | _ => none }
def genFirstRow : OpenClaim := { program := "ytohegpfbplgkpab", sum := "1c6b7865c0c04c96863656153b6b66c1222af06b8acf9c7f152c944ee0af3217", func := "sheetpile/sheetpilelaw04.GenFirst", spec := "genFirst", unfollowed := true, recurses := true, apart := false }
def GenFirstSaid : Prop := genFirstRow.holds Try.pinned (OpenSpec.ofChange genFirstSpec)

/-- ITS FALSE NEIGHBOUR: 'it returns false'. Refute it at one input. -/
def genFirstWrong : ChangeSpec := { name := "genFirst", fn := fun _ => fun
  | [d1, d2, d3] => { results := [.lit (.bool false)], args := [d1, d2, d3] }
  | _ => none }
def GenFirstWrongFalsely : Prop := genFirstRow.holds Try.pinned (OpenSpec.ofChange genFirstWrong)

/- THE SECOND FORM. 'bulk': how many values and letters a reading holds, each counted each time it is reached (what is shared counts as often as it is met; a slice's spare places count too). A statement '..UptoSaid' is the law's where the arguments, and the package variables that the reading takes, are together of bulk at most 1048576: NARROWER than '..Said'. Prove '..Said' where nothing that the law and all that it calls make is longer than what came in: it says more and counts as full. Else prove '..UptoSaid'. A law counts once. -/
mutual
def uptoBulk {H : Type} : DataW H → Nat
  | .lit (.string bytes) => bytes.length + 1
  | .lit _ => 1
  | .nil => 1
  | .ptr d => uptoBulk d + 1
  | .slice elems spare => uptoBulkAll elems + uptoBulkAll spare + 1
  | .agg parts => uptoBulkAll parts + 1
  | .iface _ d => uptoBulk d + 1
  | .map entries => uptoBulkEntries entries + 1
  | .held _ => 1
def uptoBulkAll {H : Type} : List (DataW H) → Nat
  | [] => 0
  | d :: r => uptoBulk d + uptoBulkAll r
def uptoBulkEntries {H : Type} : List (Lit × DataW H) → Nat
  | [] => 0
  | x :: r => uptoBulkEntry x + uptoBulkEntries r
def uptoBulkEntry {H : Type} : Lit × DataW H → Nat
  | (.string bytes, d) => bytes.length + uptoBulk d + 1
  | (_, d) => uptoBulk d + 1
 end
def uptoSmall : (H : Type) → List (DataW H) → Bool := fun _ ds => decide (uptoBulkAll ds ≤ 1048576)
def OpenSpec.upto (s : _root_.Go.ChangeSpec) : _root_.Go.OpenSpec := { _root_.Go.OpenSpec.ofChange s with cond := some uptoSmall }

/-- 'sheetpilelaw04.GenMakes', WHERE WHAT IT READS IS OF BULK AT MOST 1048576: true; the input reads as it did. -/
def genMakesUptoRow : OpenClaim := { program := "ytohegpfbplgkpab", sum := "1c6b7865c0c04c96863656153b6b66c1222af06b8acf9c7f152c944ee0af3217", func := "sheetpile/sheetpilelaw04.GenMakes", spec := "genMakes", unfollowed := true, recurses := true, apart := false, narrowed := true }
def GenMakesUptoSaid : Prop := genMakesUptoRow.holds Try.pinned (OpenSpec.upto genMakesSpec)

/-- 'sheetpilelaw04.GenDecodes', WHERE WHAT IT READS IS OF BULK AT MOST 1048576: true; the input reads as it did. -/
def genDecodesUptoRow : OpenClaim := { program := "ytohegpfbplgkpab", sum := "1c6b7865c0c04c96863656153b6b66c1222af06b8acf9c7f152c944ee0af3217", func := "sheetpile/sheetpilelaw04.GenDecodes", spec := "genDecodes", unfollowed := true, recurses := true, apart := false, narrowed := true }
def GenDecodesUptoSaid : Prop := genDecodesUptoRow.holds Try.pinned (OpenSpec.upto genDecodesSpec)

/-- 'sheetpilelaw04.GenMinors', WHERE WHAT IT READS IS OF BULK AT MOST 1048576: true; the input reads as it did. -/
def genMinorsUptoRow : OpenClaim := { program := "ytohegpfbplgkpab", sum := "1c6b7865c0c04c96863656153b6b66c1222af06b8acf9c7f152c944ee0af3217", func := "sheetpile/sheetpilelaw04.GenMinors", spec := "genMinors", unfollowed := true, recurses := true, apart := false, narrowed := true }
def GenMinorsUptoSaid : Prop := genMinorsUptoRow.holds Try.pinned (OpenSpec.upto genMinorsSpec)

/-- 'sheetpilelaw04.GenMore', WHERE WHAT IT READS IS OF BULK AT MOST 1048576: true; the input reads as it did. -/
def genMoreUptoRow : OpenClaim := { program := "ytohegpfbplgkpab", sum := "1c6b7865c0c04c96863656153b6b66c1222af06b8acf9c7f152c944ee0af3217", func := "sheetpile/sheetpilelaw04.GenMore", spec := "genMore", unfollowed := true, recurses := true, apart := false, narrowed := true }
def GenMoreUptoSaid : Prop := genMoreUptoRow.holds Try.pinned (OpenSpec.upto genMoreSpec)

/-- 'sheetpilelaw04.GenData', WHERE WHAT IT READS IS OF BULK AT MOST 1048576: true; the input reads as it did. -/
def genDataUptoRow : OpenClaim := { program := "ytohegpfbplgkpab", sum := "1c6b7865c0c04c96863656153b6b66c1222af06b8acf9c7f152c944ee0af3217", func := "sheetpile/sheetpilelaw04.GenData", spec := "genData", unfollowed := true, recurses := true, apart := false, narrowed := true }
def GenDataUptoSaid : Prop := genDataUptoRow.holds Try.pinned (OpenSpec.upto genDataSpec)

/-- 'sheetpilelaw04.GenFirst', WHERE WHAT IT READS IS OF BULK AT MOST 1048576: true; the input reads as it did. -/
def genFirstUptoRow : OpenClaim := { program := "ytohegpfbplgkpab", sum := "1c6b7865c0c04c96863656153b6b66c1222af06b8acf9c7f152c944ee0af3217", func := "sheetpile/sheetpilelaw04.GenFirst", spec := "genFirst", unfollowed := true, recurses := true, apart := false, narrowed := true }
def GenFirstUptoSaid : Prop := genFirstUptoRow.holds Try.pinned (OpenSpec.upto genFirstSpec)

end Rows
end Go.Proofs.Ytohegpfbplgkpab
