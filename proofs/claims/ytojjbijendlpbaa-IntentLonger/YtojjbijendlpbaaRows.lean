/-
  No cell of these rows narrows 'for every input' (looked for: loops, veiled, ifaces, maps, wideKeys, modest, calm, conditions, laid).
  DERIVED. THE GIVEN ROWS OF THIS SEAT. 6 by the template 'for every input the law returns true; each argument reads behind the call as it read before'; 0 by the template 'total and deterministic' (their statements: YtojjbijendlpbaaTotals.lean).
  GIVEN WITH THE SEED: the statements are not yours to turn. If you find one false, say at which input.
  Laid BY PROGRAM, IN A SANDBOX (cutbox-rows.mjs): the forced cells as the released guide's own fill.sh prints them over the translation c7cbb1967b69e218… (all of the seat's roots in one cut). By AI agents, Wed Nov 11 2026. No macro, syntax, notation, axiom, sorry.
-/
import Derived.Test.YtojjbijendlpbaaChecked
import GoSem.Claim
import GoSem.ClaimJoined
import GoSem.ClaimMapViews
import Derived.JoinedTies
import Derived.KernelRfl
namespace Go.Proofs.Ytojjbijendlpbaa
/- THE CELL 'sum', in the pinned program and in every row, IS THE sha256 OF THE DUMP (.gsa) THAT YtojjbijendlpbaaProg.lean LOADS. Nothing in Lean hashes anything: it is a label: what it is worth is what the hold of that sum in a sandbox is worth. -/
noncomputable def Try.pinned : Pinned := { name := "ytojjbijendlpbaa", sum := "c7cbb1967b69e2186d72726f01bec6ec2ad6aaac1291b7e5581df397be60f2d8", checked := Try.checked }
namespace Rows
def none {H : Type} : Left H := { results := [], args := [] }

/-- 'sheetpilelaw14.IntentTells': WHATEVER THE INPUT: true; the input reads as it did. -/
def intentTellsSpec : ChangeSpec := { name := "intentTells", fn := fun _ => fun
  | [d1, d2] => { results := [.lit (.bool true)], args := [d1, d2] }
  | _ => none }
def intentTellsRow : OpenClaim := { program := "ytojjbijendlpbaa", sum := "c7cbb1967b69e2186d72726f01bec6ec2ad6aaac1291b7e5581df397be60f2d8", func := "sheetpile/sheetpilelaw14.IntentTells", spec := "intentTells", unfollowed := true, recurses := true, apart := false }
def IntentTellsSaid : Prop := intentTellsRow.holds Try.pinned (OpenSpec.ofChange intentTellsSpec)

/-- ITS FALSE NEIGHBOUR: 'it returns false'. Refute it at one input. -/
def intentTellsWrong : ChangeSpec := { name := "intentTells", fn := fun _ => fun
  | [d1, d2] => { results := [.lit (.bool false)], args := [d1, d2] }
  | _ => none }
def IntentTellsWrongFalsely : Prop := intentTellsRow.holds Try.pinned (OpenSpec.ofChange intentTellsWrong)

/-- 'sheetpilelaw14.IntentBack': WHATEVER THE INPUT: true; the input reads as it did. -/
def intentBackSpec : ChangeSpec := { name := "intentBack", fn := fun _ => fun
  | [d1, d2] => { results := [.lit (.bool true)], args := [d1, d2] }
  | _ => none }
def intentBackRow : OpenClaim := { program := "ytojjbijendlpbaa", sum := "c7cbb1967b69e2186d72726f01bec6ec2ad6aaac1291b7e5581df397be60f2d8", func := "sheetpile/sheetpilelaw14.IntentBack", spec := "intentBack", unfollowed := true, recurses := true, apart := false }
def IntentBackSaid : Prop := intentBackRow.holds Try.pinned (OpenSpec.ofChange intentBackSpec)

/-- ITS FALSE NEIGHBOUR: 'it returns false'. Refute it at one input. -/
def intentBackWrong : ChangeSpec := { name := "intentBack", fn := fun _ => fun
  | [d1, d2] => { results := [.lit (.bool false)], args := [d1, d2] }
  | _ => none }
def IntentBackWrongFalsely : Prop := intentBackRow.holds Try.pinned (OpenSpec.ofChange intentBackWrong)

/-- 'sheetpilelaw14.IntentApart': WHATEVER THE INPUT: true; the input reads as it did. -/
def intentApartSpec : ChangeSpec := { name := "intentApart", fn := fun _ => fun
  | [d1, d2] => { results := [.lit (.bool true)], args := [d1, d2] }
  | _ => none }
def intentApartRow : OpenClaim := { program := "ytojjbijendlpbaa", sum := "c7cbb1967b69e2186d72726f01bec6ec2ad6aaac1291b7e5581df397be60f2d8", func := "sheetpile/sheetpilelaw14.IntentApart", spec := "intentApart", unfollowed := true, recurses := true, apart := false }
def IntentApartSaid : Prop := intentApartRow.holds Try.pinned (OpenSpec.ofChange intentApartSpec)

/-- ITS FALSE NEIGHBOUR: 'it returns false'. Refute it at one input. -/
def intentApartWrong : ChangeSpec := { name := "intentApart", fn := fun _ => fun
  | [d1, d2] => { results := [.lit (.bool false)], args := [d1, d2] }
  | _ => none }
def IntentApartWrongFalsely : Prop := intentApartRow.holds Try.pinned (OpenSpec.ofChange intentApartWrong)

/-- 'sheetpilelaw14.IntentGoes': WHATEVER THE INPUT: true; the input reads as it did. -/
def intentGoesSpec : ChangeSpec := { name := "intentGoes", fn := fun _ => fun
  | [d] => { results := [.lit (.bool true)], args := [d] }
  | _ => none }
def intentGoesRow : OpenClaim := { program := "ytojjbijendlpbaa", sum := "c7cbb1967b69e2186d72726f01bec6ec2ad6aaac1291b7e5581df397be60f2d8", func := "sheetpile/sheetpilelaw14.IntentGoes", spec := "intentGoes", unfollowed := true, recurses := true, apart := false }
def IntentGoesSaid : Prop := intentGoesRow.holds Try.pinned (OpenSpec.ofChange intentGoesSpec)

/-- ITS FALSE NEIGHBOUR: 'it returns false'. Refute it at one input. -/
def intentGoesWrong : ChangeSpec := { name := "intentGoes", fn := fun _ => fun
  | [d] => { results := [.lit (.bool false)], args := [d] }
  | _ => none }
def IntentGoesWrongFalsely : Prop := intentGoesRow.holds Try.pinned (OpenSpec.ofChange intentGoesWrong)

/-- 'sheetpilelaw14.IntentCut': WHATEVER THE INPUT: true; the input reads as it did. -/
def intentCutSpec : ChangeSpec := { name := "intentCut", fn := fun _ => fun
  | [d1, d2] => { results := [.lit (.bool true)], args := [d1, d2] }
  | _ => none }
def intentCutRow : OpenClaim := { program := "ytojjbijendlpbaa", sum := "c7cbb1967b69e2186d72726f01bec6ec2ad6aaac1291b7e5581df397be60f2d8", func := "sheetpile/sheetpilelaw14.IntentCut", spec := "intentCut", unfollowed := true, recurses := true, apart := false }
def IntentCutSaid : Prop := intentCutRow.holds Try.pinned (OpenSpec.ofChange intentCutSpec)

/-- ITS FALSE NEIGHBOUR: 'it returns false'. Refute it at one input. -/
def intentCutWrong : ChangeSpec := { name := "intentCut", fn := fun _ => fun
  | [d1, d2] => { results := [.lit (.bool false)], args := [d1, d2] }
  | _ => none }
def IntentCutWrongFalsely : Prop := intentCutRow.holds Try.pinned (OpenSpec.ofChange intentCutWrong)

/-- 'sheetpilelaw14.IntentLonger': WHATEVER THE INPUT: true; the input reads as it did. -/
def intentLongerSpec : ChangeSpec := { name := "intentLonger", fn := fun _ => fun
  | [d1, d2] => { results := [.lit (.bool true)], args := [d1, d2] }
  | _ => none }
def intentLongerRow : OpenClaim := { program := "ytojjbijendlpbaa", sum := "c7cbb1967b69e2186d72726f01bec6ec2ad6aaac1291b7e5581df397be60f2d8", func := "sheetpile/sheetpilelaw14.IntentLonger", spec := "intentLonger", unfollowed := true, recurses := true, apart := false }
def IntentLongerSaid : Prop := intentLongerRow.holds Try.pinned (OpenSpec.ofChange intentLongerSpec)

/-- ITS FALSE NEIGHBOUR: 'it returns false'. Refute it at one input. -/
def intentLongerWrong : ChangeSpec := { name := "intentLonger", fn := fun _ => fun
  | [d1, d2] => { results := [.lit (.bool false)], args := [d1, d2] }
  | _ => none }
def IntentLongerWrongFalsely : Prop := intentLongerRow.holds Try.pinned (OpenSpec.ofChange intentLongerWrong)

/- THE SECOND FORM. 'bulk': how many values and letters a reading holds, each counted each time it is reached (what is shared counts as often as it is met; a slice's spare places count too). A statement '..UptoSaid' is the law's where the arguments, and the package variables that the reading takes, are together of bulk at most 1048576: NARROWER than '..Said'. Prove '..Said' where nothing that the law and all that it calls make is longer than what came in: it says more and counts as full. Else prove '..UptoSaid'. A law counts once. -/
mutual
def uptoBulk {H : Type} : DataW H → Nat
  | .lit (.string bytes) => bytes.length + 1
  | .lit _ => 1
  | .nil => 1
  | .ptr d => uptoBulk d + 1
  | .slice elems spare => uptoBulkAll elems + uptoBulkAll spare + 1
  | .agg parts => uptoBulkAll parts + 1
  | .iface _ d => uptoBulk d + 1
  | .map entries => uptoBulkEntries entries + 1
  | .held _ => 1
def uptoBulkAll {H : Type} : List (DataW H) → Nat
  | [] => 0
  | d :: r => uptoBulk d + uptoBulkAll r
def uptoBulkEntries {H : Type} : List (Lit × DataW H) → Nat
  | [] => 0
  | x :: r => uptoBulkEntry x + uptoBulkEntries r
def uptoBulkEntry {H : Type} : Lit × DataW H → Nat
  | (.string bytes, d) => bytes.length + uptoBulk d + 1
  | (_, d) => uptoBulk d + 1
 end
def uptoSmall : (H : Type) → List (DataW H) → Bool := fun _ ds => decide (uptoBulkAll ds ≤ 1048576)
def OpenSpec.upto (s : _root_.Go.ChangeSpec) : _root_.Go.OpenSpec := { _root_.Go.OpenSpec.ofChange s with cond := some uptoSmall }

/-- 'sheetpilelaw14.IntentTells', WHERE WHAT IT READS IS OF BULK AT MOST 1048576: true; the input reads as it did. -/
def intentTellsUptoRow : OpenClaim := { program := "ytojjbijendlpbaa", sum := "c7cbb1967b69e2186d72726f01bec6ec2ad6aaac1291b7e5581df397be60f2d8", func := "sheetpile/sheetpilelaw14.IntentTells", spec := "intentTells", unfollowed := true, recurses := true, apart := false, narrowed := true }
def IntentTellsUptoSaid : Prop := intentTellsUptoRow.holds Try.pinned (OpenSpec.upto intentTellsSpec)

/-- 'sheetpilelaw14.IntentBack', WHERE WHAT IT READS IS OF BULK AT MOST 1048576: true; the input reads as it did. -/
def intentBackUptoRow : OpenClaim := { program := "ytojjbijendlpbaa", sum := "c7cbb1967b69e2186d72726f01bec6ec2ad6aaac1291b7e5581df397be60f2d8", func := "sheetpile/sheetpilelaw14.IntentBack", spec := "intentBack", unfollowed := true, recurses := true, apart := false, narrowed := true }
def IntentBackUptoSaid : Prop := intentBackUptoRow.holds Try.pinned (OpenSpec.upto intentBackSpec)

/-- 'sheetpilelaw14.IntentApart', WHERE WHAT IT READS IS OF BULK AT MOST 1048576: true; the input reads as it did. -/
def intentApartUptoRow : OpenClaim := { program := "ytojjbijendlpbaa", sum := "c7cbb1967b69e2186d72726f01bec6ec2ad6aaac1291b7e5581df397be60f2d8", func := "sheetpile/sheetpilelaw14.IntentApart", spec := "intentApart", unfollowed := true, recurses := true, apart := false, narrowed := true }
def IntentApartUptoSaid : Prop := intentApartUptoRow.holds Try.pinned (OpenSpec.upto intentApartSpec)

/-- 'sheetpilelaw14.IntentGoes', WHERE WHAT IT READS IS OF BULK AT MOST 1048576: true; the input reads as it did. -/
def intentGoesUptoRow : OpenClaim := { program := "ytojjbijendlpbaa", sum := "c7cbb1967b69e2186d72726f01bec6ec2ad6aaac1291b7e5581df397be60f2d8", func := "sheetpile/sheetpilelaw14.IntentGoes", spec := "intentGoes", unfollowed := true, recurses := true, apart := false, narrowed := true }
def IntentGoesUptoSaid : Prop := intentGoesUptoRow.holds Try.pinned (OpenSpec.upto intentGoesSpec)

/-- 'sheetpilelaw14.IntentCut', WHERE WHAT IT READS IS OF BULK AT MOST 1048576: true; the input reads as it did. -/
def intentCutUptoRow : OpenClaim := { program := "ytojjbijendlpbaa", sum := "c7cbb1967b69e2186d72726f01bec6ec2ad6aaac1291b7e5581df397be60f2d8", func := "sheetpile/sheetpilelaw14.IntentCut", spec := "intentCut", unfollowed := true, recurses := true, apart := false, narrowed := true }
def IntentCutUptoSaid : Prop := intentCutUptoRow.holds Try.pinned (OpenSpec.upto intentCutSpec)

/-- 'sheetpilelaw14.IntentLonger', WHERE WHAT IT READS IS OF BULK AT MOST 1048576: true; the input reads as it did. -/
def intentLongerUptoRow : OpenClaim := { program := "ytojjbijendlpbaa", sum := "c7cbb1967b69e2186d72726f01bec6ec2ad6aaac1291b7e5581df397be60f2d8", func := "sheetpile/sheetpilelaw14.IntentLonger", spec := "intentLonger", unfollowed := true, recurses := true, apart := false, narrowed := true }
def IntentLongerUptoSaid : Prop := intentLongerUptoRow.holds Try.pinned (OpenSpec.upto intentLongerSpec)

end Rows
end Go.Proofs.Ytojjbijendlpbaa
