/-
  No cell of these rows narrows 'for every input' (looked for: loops, veiled, ifaces, maps, wideKeys, modest, calm, conditions, laid).
  DERIVED. THE GIVEN ROWS OF THIS SEAT. 7 by the template 'for every input the law returns true; each argument reads behind the call as it read before'; 0 by the template 'total and deterministic' (their statements: YtohegpfbplgkpaaTotals.lean).
  GIVEN WITH THE SEED: the statements are not yours to turn. If you find one false, say at which input.
  Laid BY PROGRAM, IN A SANDBOX (cutbox-rows.mjs): the forced cells as the released guide's own fill.sh prints them over the translation d4c97b39d74bc022… (all of the seat's roots in one cut). By AI agents, Wed Nov 11 2026. No macro, syntax, notation, axiom, sorry.
-/
import Derived.Test.YtohegpfbplgkpaaChecked
import GoSem.Claim
import GoSem.ClaimJoined
import GoSem.ClaimMapViews
import Derived.JoinedTies
import Derived.KernelRfl
namespace Go.Proofs.Ytohegpfbplgkpaa
/- THE CELL 'sum', in the pinned program and in every row, IS THE sha256 OF THE DUMP (.gsa) THAT YtohegpfbplgkpaaProg.lean LOADS. Nothing in Lean hashes anything: it is a label: what it is worth is what the hold of that sum in a sandbox is worth. -/
noncomputable def Try.pinned : Pinned := { name := "ytohegpfbplgkpaa", sum := "d4c97b39d74bc0226c6a9b1c77bd0afbf6963d137090eb7767e5f14a898f95df", checked := Try.checked }
namespace Rows
def none {H : Type} : Left H := { results := [], args := [] }

/-- 'sheetpilelaw03.MatMuls': WHATEVER THE INPUT: true; the input reads as it did. -/
def matMulsSpec : ChangeSpec := { name := "matMuls", fn := fun _ => fun
  | [d1, d2, d3] => { results := [.lit (.bool true)], args := [d1, d2, d3] }
  | _ => none }
def matMulsRow : OpenClaim := { program := "ytohegpfbplgkpaa", sum := "d4c97b39d74bc0226c6a9b1c77bd0afbf6963d137090eb7767e5f14a898f95df", func := "sheetpile/sheetpilelaw03.MatMuls", spec := "matMuls", apart := false }
def MatMulsSaid : Prop := matMulsRow.holds Try.pinned (OpenSpec.ofChange matMulsSpec)

/-- ITS FALSE NEIGHBOUR: 'it returns false'. Refute it at one input. -/
def matMulsWrong : ChangeSpec := { name := "matMuls", fn := fun _ => fun
  | [d1, d2, d3] => { results := [.lit (.bool false)], args := [d1, d2, d3] }
  | _ => none }
def MatMulsWrongFalsely : Prop := matMulsRow.holds Try.pinned (OpenSpec.ofChange matMulsWrong)

/-- 'sheetpilelaw03.MatInverts': WHATEVER THE INPUT: true; the input reads as it did. -/
def matInvertsSpec : ChangeSpec := { name := "matInverts", fn := fun _ => fun
  | [d1, d2] => { results := [.lit (.bool true)], args := [d1, d2] }
  | _ => none }
def matInvertsRow : OpenClaim := { program := "ytohegpfbplgkpaa", sum := "d4c97b39d74bc0226c6a9b1c77bd0afbf6963d137090eb7767e5f14a898f95df", func := "sheetpile/sheetpilelaw03.MatInverts", spec := "matInverts", recurses := true, apart := false }
def MatInvertsSaid : Prop := matInvertsRow.holds Try.pinned (OpenSpec.ofChange matInvertsSpec)

/-- ITS FALSE NEIGHBOUR: 'it returns false'. Refute it at one input. -/
def matInvertsWrong : ChangeSpec := { name := "matInverts", fn := fun _ => fun
  | [d1, d2] => { results := [.lit (.bool false)], args := [d1, d2] }
  | _ => none }
def MatInvertsWrongFalsely : Prop := matInvertsRow.holds Try.pinned (OpenSpec.ofChange matInvertsWrong)

/-- 'sheetpilelaw03.MatBack': WHATEVER THE INPUT: true; the input reads as it did. -/
def matBackSpec : ChangeSpec := { name := "matBack", fn := fun _ => fun
  | [d] => { results := [.lit (.bool true)], args := [d] }
  | _ => none }
def matBackRow : OpenClaim := { program := "ytohegpfbplgkpaa", sum := "d4c97b39d74bc0226c6a9b1c77bd0afbf6963d137090eb7767e5f14a898f95df", func := "sheetpile/sheetpilelaw03.MatBack", spec := "matBack", apart := false }
def MatBackSaid : Prop := matBackRow.holds Try.pinned (OpenSpec.ofChange matBackSpec)

/-- ITS FALSE NEIGHBOUR: 'it returns false'. Refute it at one input. -/
def matBackWrong : ChangeSpec := { name := "matBack", fn := fun _ => fun
  | [d] => { results := [.lit (.bool false)], args := [d] }
  | _ => none }
def MatBackWrongFalsely : Prop := matBackRow.holds Try.pinned (OpenSpec.ofChange matBackWrong)

/-- 'sheetpilelaw03.MatGroups': WHATEVER THE INPUT: true; the input reads as it did. -/
def matGroupsSpec : ChangeSpec := { name := "matGroups", fn := fun _ => fun
  | [d1, d2, d3] => { results := [.lit (.bool true)], args := [d1, d2, d3] }
  | _ => none }
def matGroupsRow : OpenClaim := { program := "ytohegpfbplgkpaa", sum := "d4c97b39d74bc0226c6a9b1c77bd0afbf6963d137090eb7767e5f14a898f95df", func := "sheetpile/sheetpilelaw03.MatGroups", spec := "matGroups", apart := false }
def MatGroupsSaid : Prop := matGroupsRow.holds Try.pinned (OpenSpec.ofChange matGroupsSpec)

/-- ITS FALSE NEIGHBOUR: 'it returns false'. Refute it at one input. -/
def matGroupsWrong : ChangeSpec := { name := "matGroups", fn := fun _ => fun
  | [d1, d2, d3] => { results := [.lit (.bool false)], args := [d1, d2, d3] }
  | _ => none }
def MatGroupsWrongFalsely : Prop := matGroupsRow.holds Try.pinned (OpenSpec.ofChange matGroupsWrong)

/-- 'sheetpilelaw03.MatPicks': WHATEVER THE INPUT: true; the input reads as it did. -/
def matPicksSpec : ChangeSpec := { name := "matPicks", fn := fun _ => fun
  | [d1, d2] => { results := [.lit (.bool true)], args := [d1, d2] }
  | _ => none }
def matPicksRow : OpenClaim := { program := "ytohegpfbplgkpaa", sum := "d4c97b39d74bc0226c6a9b1c77bd0afbf6963d137090eb7767e5f14a898f95df", func := "sheetpile/sheetpilelaw03.MatPicks", spec := "matPicks", apart := false }
def MatPicksSaid : Prop := matPicksRow.holds Try.pinned (OpenSpec.ofChange matPicksSpec)

/-- ITS FALSE NEIGHBOUR: 'it returns false'. Refute it at one input. -/
def matPicksWrong : ChangeSpec := { name := "matPicks", fn := fun _ => fun
  | [d1, d2] => { results := [.lit (.bool false)], args := [d1, d2] }
  | _ => none }
def MatPicksWrongFalsely : Prop := matPicksRow.holds Try.pinned (OpenSpec.ofChange matPicksWrong)

/-- 'sheetpilelaw03.MatOrder': WHATEVER THE INPUT: true; the input reads as it did. -/
def matOrderSpec : ChangeSpec := { name := "matOrder", fn := fun _ => fun
  | [d1, d2] => { results := [.lit (.bool true)], args := [d1, d2] }
  | _ => none }
def matOrderRow : OpenClaim := { program := "ytohegpfbplgkpaa", sum := "d4c97b39d74bc0226c6a9b1c77bd0afbf6963d137090eb7767e5f14a898f95df", func := "sheetpile/sheetpilelaw03.MatOrder", spec := "matOrder", apart := false }
def MatOrderSaid : Prop := matOrderRow.holds Try.pinned (OpenSpec.ofChange matOrderSpec)

/-- ITS FALSE NEIGHBOUR: 'it returns false'. Refute it at one input. -/
def matOrderWrong : ChangeSpec := { name := "matOrder", fn := fun _ => fun
  | [d1, d2] => { results := [.lit (.bool false)], args := [d1, d2] }
  | _ => none }
def MatOrderWrongFalsely : Prop := matOrderRow.holds Try.pinned (OpenSpec.ofChange matOrderWrong)

/-- 'sheetpilelaw03.MatTwice': WHATEVER THE INPUT: true; the input reads as it did. -/
def matTwiceSpec : ChangeSpec := { name := "matTwice", fn := fun _ => fun
  | [d1, d2, d3] => { results := [.lit (.bool true)], args := [d1, d2, d3] }
  | _ => none }
def matTwiceRow : OpenClaim := { program := "ytohegpfbplgkpaa", sum := "d4c97b39d74bc0226c6a9b1c77bd0afbf6963d137090eb7767e5f14a898f95df", func := "sheetpile/sheetpilelaw03.MatTwice", spec := "matTwice", apart := false }
def MatTwiceSaid : Prop := matTwiceRow.holds Try.pinned (OpenSpec.ofChange matTwiceSpec)

/-- ITS FALSE NEIGHBOUR: 'it returns false'. Refute it at one input. -/
def matTwiceWrong : ChangeSpec := { name := "matTwice", fn := fun _ => fun
  | [d1, d2, d3] => { results := [.lit (.bool false)], args := [d1, d2, d3] }
  | _ => none }
def MatTwiceWrongFalsely : Prop := matTwiceRow.holds Try.pinned (OpenSpec.ofChange matTwiceWrong)

/- THE SECOND FORM. 'bulk': how many values and letters a reading holds, each counted each time it is reached (what is shared counts as often as it is met; a slice's spare places count too). A statement '..UptoSaid' is the law's where the arguments, and the package variables that the reading takes, are together of bulk at most 1048576: NARROWER than '..Said'. Prove '..Said' where nothing that the law and all that it calls make is longer than what came in: it says more and counts as full. Else prove '..UptoSaid'. A law counts once. -/
mutual
def uptoBulk {H : Type} : DataW H → Nat
  | .lit (.string bytes) => bytes.length + 1
  | .lit _ => 1
  | .nil => 1
  | .ptr d => uptoBulk d + 1
  | .slice elems spare => uptoBulkAll elems + uptoBulkAll spare + 1
  | .agg parts => uptoBulkAll parts + 1
  | .iface _ d => uptoBulk d + 1
  | .map entries => uptoBulkEntries entries + 1
  | .held _ => 1
def uptoBulkAll {H : Type} : List (DataW H) → Nat
  | [] => 0
  | d :: r => uptoBulk d + uptoBulkAll r
def uptoBulkEntries {H : Type} : List (Lit × DataW H) → Nat
  | [] => 0
  | x :: r => uptoBulkEntry x + uptoBulkEntries r
def uptoBulkEntry {H : Type} : Lit × DataW H → Nat
  | (.string bytes, d) => bytes.length + uptoBulk d + 1
  | (_, d) => uptoBulk d + 1
 end
def uptoSmall : (H : Type) → List (DataW H) → Bool := fun _ ds => decide (uptoBulkAll ds ≤ 1048576)
def OpenSpec.upto (s : _root_.Go.ChangeSpec) : _root_.Go.OpenSpec := { _root_.Go.OpenSpec.ofChange s with cond := some uptoSmall }

/-- 'sheetpilelaw03.MatMuls', WHERE WHAT IT READS IS OF BULK AT MOST 1048576: true; the input reads as it did. -/
def matMulsUptoRow : OpenClaim := { program := "ytohegpfbplgkpaa", sum := "d4c97b39d74bc0226c6a9b1c77bd0afbf6963d137090eb7767e5f14a898f95df", func := "sheetpile/sheetpilelaw03.MatMuls", spec := "matMuls", apart := false, narrowed := true }
def MatMulsUptoSaid : Prop := matMulsUptoRow.holds Try.pinned (OpenSpec.upto matMulsSpec)

/-- 'sheetpilelaw03.MatInverts', WHERE WHAT IT READS IS OF BULK AT MOST 1048576: true; the input reads as it did. -/
def matInvertsUptoRow : OpenClaim := { program := "ytohegpfbplgkpaa", sum := "d4c97b39d74bc0226c6a9b1c77bd0afbf6963d137090eb7767e5f14a898f95df", func := "sheetpile/sheetpilelaw03.MatInverts", spec := "matInverts", recurses := true, apart := false, narrowed := true }
def MatInvertsUptoSaid : Prop := matInvertsUptoRow.holds Try.pinned (OpenSpec.upto matInvertsSpec)

/-- 'sheetpilelaw03.MatBack', WHERE WHAT IT READS IS OF BULK AT MOST 1048576: true; the input reads as it did. -/
def matBackUptoRow : OpenClaim := { program := "ytohegpfbplgkpaa", sum := "d4c97b39d74bc0226c6a9b1c77bd0afbf6963d137090eb7767e5f14a898f95df", func := "sheetpile/sheetpilelaw03.MatBack", spec := "matBack", apart := false, narrowed := true }
def MatBackUptoSaid : Prop := matBackUptoRow.holds Try.pinned (OpenSpec.upto matBackSpec)

/-- 'sheetpilelaw03.MatGroups', WHERE WHAT IT READS IS OF BULK AT MOST 1048576: true; the input reads as it did. -/
def matGroupsUptoRow : OpenClaim := { program := "ytohegpfbplgkpaa", sum := "d4c97b39d74bc0226c6a9b1c77bd0afbf6963d137090eb7767e5f14a898f95df", func := "sheetpile/sheetpilelaw03.MatGroups", spec := "matGroups", apart := false, narrowed := true }
def MatGroupsUptoSaid : Prop := matGroupsUptoRow.holds Try.pinned (OpenSpec.upto matGroupsSpec)

/-- 'sheetpilelaw03.MatPicks', WHERE WHAT IT READS IS OF BULK AT MOST 1048576: true; the input reads as it did. -/
def matPicksUptoRow : OpenClaim := { program := "ytohegpfbplgkpaa", sum := "d4c97b39d74bc0226c6a9b1c77bd0afbf6963d137090eb7767e5f14a898f95df", func := "sheetpile/sheetpilelaw03.MatPicks", spec := "matPicks", apart := false, narrowed := true }
def MatPicksUptoSaid : Prop := matPicksUptoRow.holds Try.pinned (OpenSpec.upto matPicksSpec)

/-- 'sheetpilelaw03.MatOrder', WHERE WHAT IT READS IS OF BULK AT MOST 1048576: true; the input reads as it did. -/
def matOrderUptoRow : OpenClaim := { program := "ytohegpfbplgkpaa", sum := "d4c97b39d74bc0226c6a9b1c77bd0afbf6963d137090eb7767e5f14a898f95df", func := "sheetpile/sheetpilelaw03.MatOrder", spec := "matOrder", apart := false, narrowed := true }
def MatOrderUptoSaid : Prop := matOrderUptoRow.holds Try.pinned (OpenSpec.upto matOrderSpec)

/-- 'sheetpilelaw03.MatTwice', WHERE WHAT IT READS IS OF BULK AT MOST 1048576: true; the input reads as it did. -/
def matTwiceUptoRow : OpenClaim := { program := "ytohegpfbplgkpaa", sum := "d4c97b39d74bc0226c6a9b1c77bd0afbf6963d137090eb7767e5f14a898f95df", func := "sheetpile/sheetpilelaw03.MatTwice", spec := "matTwice", apart := false, narrowed := true }
def MatTwiceUptoSaid : Prop := matTwiceUptoRow.holds Try.pinned (OpenSpec.upto matTwiceSpec)

end Rows
end Go.Proofs.Ytohegpfbplgkpaa
