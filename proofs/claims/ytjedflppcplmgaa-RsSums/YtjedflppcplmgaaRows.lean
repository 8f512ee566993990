/-
  No cell of these rows narrows 'for every input' (looked for: loops, veiled, ifaces, maps, wideKeys, modest, calm, conditions, laid).
  DERIVED. THE GIVEN ROWS OF THIS SEAT. 6 by the template 'for every input the law returns true; each argument reads behind the call as it read before'; 0 by the template 'total and deterministic' (their statements: YtjedflppcplmgaaTotals.lean).
  GIVEN WITH THE SEED: the statements are not yours to turn. If you find one false, say at which input.
  Laid BY PROGRAM, IN A SANDBOX (cutbox-rows.mjs): the forced cells as the released guide's own fill.sh prints them over the translation 20964623bbfb04eb… (all of the seat's roots in one cut). By AI agents, Wed Nov 11 2026. No macro, syntax, notation, axiom, sorry.
-/
import Derived.Test.YtjedflppcplmgaaChecked
import GoSem.Claim
import GoSem.ClaimJoined
import GoSem.ClaimMapViews
import Derived.JoinedTies
import Derived.KernelRfl
namespace Go.Proofs.Ytjedflppcplmgaa
/- THE CELL 'sum', in the pinned program and in every row, IS THE sha256 OF THE DUMP (.gsa) THAT YtjedflppcplmgaaProg.lean LOADS. Nothing in Lean hashes anything: it is a label: what it is worth is what the hold of that sum in a sandbox is worth. -/
noncomputable def Try.pinned : Pinned := { name := "ytjedflppcplmgaa", sum := "20964623bbfb04ebb92ddb623bb8879354165c5ba62e9ca7905c0c485e44af8a", checked := Try.checked }
namespace Rows
def none {H : Type} : Left H := { results := [], args := [] }

/-- 'sheetpilelaw05.RsEncodes': WHATEVER THE INPUT: true; the input reads as it did. -/
def rsEncodesSpec : ChangeSpec := { name := "rsEncodes", fn := fun _ => fun
  | [d1, d2, d3] => { results := [.lit (.bool true)], args := [d1, d2, d3] }
  | _ => none }
def rsEncodesRow : OpenClaim := { program := "ytjedflppcplmgaa", sum := "20964623bbfb04ebb92ddb623bb8879354165c5ba62e9ca7905c0c485e44af8a", func := "sheetpile/sheetpilelaw05.RsEncodes", spec := "rsEncodes", unfollowed := true, recurses := true, apart := false }
def RsEncodesSaid : Prop := rsEncodesRow.holds Try.pinned (OpenSpec.ofChange rsEncodesSpec)

/-- ITS FALSE NEIGHBOUR: 'it returns false'. Refute it at one input. -/
def rsEncodesWrong : ChangeSpec := { name := "rsEncodes", fn := fun _ => fun
  | [d1, d2, d3] => { results := [.lit (.bool false)], args := [d1, d2, d3] }
  | _ => none }
def RsEncodesWrongFalsely : Prop := rsEncodesRow.holds Try.pinned (OpenSpec.ofChange rsEncodesWrong)

/-- 'sheetpilelaw05.RsDecodes': WHATEVER THE INPUT: true; the input reads as it did. -/
def rsDecodesSpec : ChangeSpec := { name := "rsDecodes", fn := fun _ => fun
  | [d1, d2, d3] => { results := [.lit (.bool true)], args := [d1, d2, d3] }
  | _ => none }
def rsDecodesRow : OpenClaim := { program := "ytjedflppcplmgaa", sum := "20964623bbfb04ebb92ddb623bb8879354165c5ba62e9ca7905c0c485e44af8a", func := "sheetpile/sheetpilelaw05.RsDecodes", spec := "rsDecodes", unfollowed := true, recurses := true, apart := false }
def RsDecodesSaid : Prop := rsDecodesRow.holds Try.pinned (OpenSpec.ofChange rsDecodesSpec)

/-- ITS FALSE NEIGHBOUR: 'it returns false'. Refute it at one input. -/
def rsDecodesWrong : ChangeSpec := { name := "rsDecodes", fn := fun _ => fun
  | [d1, d2, d3] => { results := [.lit (.bool false)], args := [d1, d2, d3] }
  | _ => none }
def RsDecodesWrongFalsely : Prop := rsDecodesRow.holds Try.pinned (OpenSpec.ofChange rsDecodesWrong)

/-- 'sheetpilelaw05.RsBack': WHATEVER THE INPUT: true; the input reads as it did. -/
def rsBackSpec : ChangeSpec := { name := "rsBack", fn := fun _ => fun
  | [d1, d2, d3] => { results := [.lit (.bool true)], args := [d1, d2, d3] }
  | _ => none }
def rsBackRow : OpenClaim := { program := "ytjedflppcplmgaa", sum := "20964623bbfb04ebb92ddb623bb8879354165c5ba62e9ca7905c0c485e44af8a", func := "sheetpile/sheetpilelaw05.RsBack", spec := "rsBack", unfollowed := true, recurses := true, apart := false }
def RsBackSaid : Prop := rsBackRow.holds Try.pinned (OpenSpec.ofChange rsBackSpec)

/-- ITS FALSE NEIGHBOUR: 'it returns false'. Refute it at one input. -/
def rsBackWrong : ChangeSpec := { name := "rsBack", fn := fun _ => fun
  | [d1, d2, d3] => { results := [.lit (.bool false)], args := [d1, d2, d3] }
  | _ => none }
def RsBackWrongFalsely : Prop := rsBackRow.holds Try.pinned (OpenSpec.ofChange rsBackWrong)

/-- 'sheetpilelaw05.RsDelta': WHATEVER THE INPUT: true; the input reads as it did. -/
def rsDeltaSpec : ChangeSpec := { name := "rsDelta", fn := fun _ => fun
  | [d] => { results := [.lit (.bool true)], args := [d] }
  | _ => none }
def rsDeltaRow : OpenClaim := { program := "ytjedflppcplmgaa", sum := "20964623bbfb04ebb92ddb623bb8879354165c5ba62e9ca7905c0c485e44af8a", func := "sheetpile/sheetpilelaw05.RsDelta", spec := "rsDelta", unfollowed := true, recurses := true, apart := false }
def RsDeltaSaid : Prop := rsDeltaRow.holds Try.pinned (OpenSpec.ofChange rsDeltaSpec)

/-- ITS FALSE NEIGHBOUR: 'it returns false'. Refute it at one input. -/
def rsDeltaWrong : ChangeSpec := { name := "rsDelta", fn := fun _ => fun
  | [d] => { results := [.lit (.bool false)], args := [d] }
  | _ => none }
def RsDeltaWrongFalsely : Prop := rsDeltaRow.holds Try.pinned (OpenSpec.ofChange rsDeltaWrong)

/-- 'sheetpilelaw05.RsSums': WHATEVER THE INPUT: true; the input reads as it did. -/
def rsSumsSpec : ChangeSpec := { name := "rsSums", fn := fun _ => fun
  | [d1, d2, d3] => { results := [.lit (.bool true)], args := [d1, d2, d3] }
  | _ => none }
def rsSumsRow : OpenClaim := { program := "ytjedflppcplmgaa", sum := "20964623bbfb04ebb92ddb623bb8879354165c5ba62e9ca7905c0c485e44af8a", func := "sheetpile/sheetpilelaw05.RsSums", spec := "rsSums", unfollowed := true, recurses := true, apart := false }
def RsSumsSaid : Prop := rsSumsRow.holds Try.pinned (OpenSpec.ofChange rsSumsSpec)

/-- ITS FALSE NEIGHBOUR: 'it returns false'. Refute it at one input. -/
def rsSumsWrong : ChangeSpec := { name := "rsSums", fn := fun _ => fun
  | [d1, d2, d3] => { results := [.lit (.bool false)], args := [d1, d2, d3] }
  | _ => none }
def RsSumsWrongFalsely : Prop := rsSumsRow.holds Try.pinned (OpenSpec.ofChange rsSumsWrong)

/-- 'sheetpilelaw05.RsChanged': WHATEVER THE INPUT: true; the input reads as it did. -/
def rsChangedSpec : ChangeSpec := { name := "rsChanged", fn := fun _ => fun
  | [d] => { results := [.lit (.bool true)], args := [d] }
  | _ => none }
def rsChangedRow : OpenClaim := { program := "ytjedflppcplmgaa", sum := "20964623bbfb04ebb92ddb623bb8879354165c5ba62e9ca7905c0c485e44af8a", func := "sheetpile/sheetpilelaw05.RsChanged", spec := "rsChanged", unfollowed := true, recurses := true, apart := false }
def RsChangedSaid : Prop := rsChangedRow.holds Try.pinned (OpenSpec.ofChange rsChangedSpec)

/-- ITS FALSE NEIGHBOUR: 'it returns false'. Refute it at one input. -/
def rsChangedWrong : ChangeSpec := { name := "rsChanged", fn := fun _ => fun
  | [d] => { results := [.lit (.bool false)], args := [d] }
  | _ => none }
def RsChangedWrongFalsely : Prop := rsChangedRow.holds Try.pinned (OpenSpec.ofChange rsChangedWrong)

/- THE SECOND FORM. 'bulk': how many values and letters a reading holds, each counted each time it is reached (what is shared counts as often as it is met; a slice's spare places count too). A statement '..UptoSaid' is the law's where the arguments, and the package variables that the reading takes, are together of bulk at most 1048576: NARROWER than '..Said'. Prove '..Said' where nothing that the law and all that it calls make is longer than what came in: it says more and counts as full. Else prove '..UptoSaid'. A law counts once. -/
mutual
def uptoBulk {H : Type} : DataW H → Nat
  | .lit (.string bytes) => bytes.length + 1
  | .lit _ => 1
  | .nil => 1
  | .ptr d => uptoBulk d + 1
  | .slice elems spare => uptoBulkAll elems + uptoBulkAll spare + 1
  | .agg parts => uptoBulkAll parts + 1
  | .iface _ d => uptoBulk d + 1
  | .map entries => uptoBulkEntries entries + 1
  | .held _ => 1
def uptoBulkAll {H : Type} : List (DataW H) → Nat
  | [] => 0
  | d :: r => uptoBulk d + uptoBulkAll r
def uptoBulkEntries {H : Type} : List (Lit × DataW H) → Nat
  | [] => 0
  | x :: r => uptoBulkEntry x + uptoBulkEntries r
def uptoBulkEntry {H : Type} : Lit × DataW H → Nat
  | (.string bytes, d) => bytes.length + uptoBulk d + 1
  | (_, d) => uptoBulk d + 1
 end
def uptoSmall : (H : Type) → List (DataW H) → Bool := fun _ ds => decide (uptoBulkAll ds ≤ 1048576)
def OpenSpec.upto (s : _root_.Go.ChangeSpec) : _root_.Go.OpenSpec := { _root_.Go.OpenSpec.ofChange s with cond := some uptoSmall }

/-- 'sheetpilelaw05.RsEncodes', WHERE WHAT IT READS IS OF BULK AT MOST 1048576: true; the input reads as it did. -/
def rsEncodesUptoRow : OpenClaim := { program := "ytjedflppcplmgaa", sum := "20964623bbfb04ebb92ddb623bb8879354165c5ba62e9ca7905c0c485e44af8a", func := "sheetpile/sheetpilelaw05.RsEncodes", spec := "rsEncodes", unfollowed := true, recurses := true, apart := false, narrowed := true }
def RsEncodesUptoSaid : Prop := rsEncodesUptoRow.holds Try.pinned (OpenSpec.upto rsEncodesSpec)

/-- 'sheetpilelaw05.RsDecodes', WHERE WHAT IT READS IS OF BULK AT MOST 1048576: true; the input reads as it did. -/
def rsDecodesUptoRow : OpenClaim := { program := "ytjedflppcplmgaa", sum := "20964623bbfb04ebb92ddb623bb8879354165c5ba62e9ca7905c0c485e44af8a", func := "sheetpile/sheetpilelaw05.RsDecodes", spec := "rsDecodes", unfollowed := true, recurses := true, apart := false, narrowed := true }
def RsDecodesUptoSaid : Prop := rsDecodesUptoRow.holds Try.pinned (OpenSpec.upto rsDecodesSpec)

/-- 'sheetpilelaw05.RsBack', WHERE WHAT IT READS IS OF BULK AT MOST 1048576: true; the input reads as it did. -/
def rsBackUptoRow : OpenClaim := { program := "ytjedflppcplmgaa", sum := "20964623bbfb04ebb92ddb623bb8879354165c5ba62e9ca7905c0c485e44af8a", func := "sheetpile/sheetpilelaw05.RsBack", spec := "rsBack", unfollowed := true, recurses := true, apart := false, narrowed := true }
def RsBackUptoSaid : Prop := rsBackUptoRow.holds Try.pinned (OpenSpec.upto rsBackSpec)

/-- 'sheetpilelaw05.RsDelta', WHERE WHAT IT READS IS OF BULK AT MOST 1048576: true; the input reads as it did. -/
def rsDeltaUptoRow : OpenClaim := { program := "ytjedflppcplmgaa", sum := "20964623bbfb04ebb92ddb623bb8879354165c5ba62e9ca7905c0c485e44af8a", func := "sheetpile/sheetpilelaw05.RsDelta", spec := "rsDelta", unfollowed := true, recurses := true, apart := false, narrowed := true }
def RsDeltaUptoSaid : Prop := rsDeltaUptoRow.holds Try.pinned (OpenSpec.upto rsDeltaSpec)

/-- 'sheetpilelaw05.RsSums', WHERE WHAT IT READS IS OF BULK AT MOST 1048576: true; the input reads as it did. -/
def rsSumsUptoRow : OpenClaim := { program := "ytjedflppcplmgaa", sum := "20964623bbfb04ebb92ddb623bb8879354165c5ba62e9ca7905c0c485e44af8a", func := "sheetpile/sheetpilelaw05.RsSums", spec := "rsSums", unfollowed := true, recurses := true, apart := false, narrowed := true }
def RsSumsUptoSaid : Prop := rsSumsUptoRow.holds Try.pinned (OpenSpec.upto rsSumsSpec)

/-- 'sheetpilelaw05.RsChanged', WHERE WHAT IT READS IS OF BULK AT MOST 1048576: true; the input reads as it did. -/
def rsChangedUptoRow : OpenClaim := { program := "ytjedflppcplmgaa", sum := "20964623bbfb04ebb92ddb623bb8879354165c5ba62e9ca7905c0c485e44af8a", func := "sheetpile/sheetpilelaw05.RsChanged", spec := "rsChanged", unfollowed := true, recurses := true, apart := false, narrowed := true }
def RsChangedUptoSaid : Prop := rsChangedUptoRow.holds Try.pinned (OpenSpec.upto rsChangedSpec)

end Rows
end Go.Proofs.Ytjedflppcplmgaa
