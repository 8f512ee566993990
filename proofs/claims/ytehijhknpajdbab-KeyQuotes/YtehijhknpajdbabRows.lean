/-
  No cell of these rows narrows 'for every input' (looked for: loops, veiled, ifaces, maps, wideKeys, modest, calm, conditions, laid).
  DERIVED. THE GIVEN ROWS OF THIS SEAT. 6 by the template 'for every input the law returns true; each argument reads behind the call as it read before'; 0 by the template 'total and deterministic' (their statements: YtehijhknpajdbabTotals.lean).
  GIVEN WITH THE SEED: the statements are not yours to turn. If you find one false, say at which input.
  Laid BY PROGRAM, IN A SANDBOX (cutbox-rows.mjs): the forced cells as the released guide's own fill.sh prints them over the translation d8f1a00ae21c0c31… (all of the seat's roots in one cut). By AI agents, Wed Nov 11 2026. No macro, syntax, notation, axiom, sorry.
-/
import Derived.Test.YtehijhknpajdbabChecked
import GoSem.Claim
import GoSem.ClaimJoined
import GoSem.ClaimMapViews
import Derived.JoinedTies
import Derived.KernelRfl
namespace Go.Proofs.Ytehijhknpajdbab
/- THE CELL 'sum', in the pinned program and in every row, IS THE sha256 OF THE DUMP (.gsa) THAT YtehijhknpajdbabProg.lean LOADS. Nothing in Lean hashes anything: it is a label: what it is worth is what the hold of that sum in a sandbox is worth. -/
noncomputable def Try.pinned : Pinned := { name := "ytehijhknpajdbab", sum := "d8f1a00ae21c0c31378aeee3c2fdde97537b1aefa137794f2cc01230ee0b6305", checked := Try.checked }
namespace Rows
def none {H : Type} : Left H := { results := [], args := [] }

/-- 'sheetpilelaw08.KeyChecks': WHATEVER THE INPUT: true; the input reads as it did. -/
def keyChecksSpec : ChangeSpec := { name := "keyChecks", fn := fun _ => fun
  | [d] => { results := [.lit (.bool true)], args := [d] }
  | _ => none }
def keyChecksRow : OpenClaim := { program := "ytehijhknpajdbab", sum := "d8f1a00ae21c0c31378aeee3c2fdde97537b1aefa137794f2cc01230ee0b6305", func := "sheetpile/sheetpilelaw08.KeyChecks", spec := "keyChecks", inPlace := ["internal/bytealg.IndexByteString"], apart := false }
def KeyChecksSaid : Prop := keyChecksRow.holds Try.pinned (OpenSpec.ofChange keyChecksSpec)

/-- ITS FALSE NEIGHBOUR: 'it returns false'. Refute it at one input. -/
def keyChecksWrong : ChangeSpec := { name := "keyChecks", fn := fun _ => fun
  | [d] => { results := [.lit (.bool false)], args := [d] }
  | _ => none }
def KeyChecksWrongFalsely : Prop := keyChecksRow.holds Try.pinned (OpenSpec.ofChange keyChecksWrong)

/-- 'sheetpilelaw08.KeyQuotes': WHATEVER THE INPUT: true; the input reads as it did. -/
def keyQuotesSpec : ChangeSpec := { name := "keyQuotes", fn := fun _ => fun
  | [d] => { results := [.lit (.bool true)], args := [d] }
  | _ => none }
def keyQuotesRow : OpenClaim := { program := "ytehijhknpajdbab", sum := "d8f1a00ae21c0c31378aeee3c2fdde97537b1aefa137794f2cc01230ee0b6305", func := "sheetpile/sheetpilelaw08.KeyQuotes", spec := "keyQuotes", inPlace := ["internal/bytealg.IndexByteString"], apart := false }
def KeyQuotesSaid : Prop := keyQuotesRow.holds Try.pinned (OpenSpec.ofChange keyQuotesSpec)

/-- ITS FALSE NEIGHBOUR: 'it returns false'. Refute it at one input. -/
def keyQuotesWrong : ChangeSpec := { name := "keyQuotes", fn := fun _ => fun
  | [d] => { results := [.lit (.bool false)], args := [d] }
  | _ => none }
def KeyQuotesWrongFalsely : Prop := keyQuotesRow.holds Try.pinned (OpenSpec.ofChange keyQuotesWrong)

/-- 'sheetpilelaw08.KeyBack': WHATEVER THE INPUT: true; the input reads as it did. -/
def keyBackSpec : ChangeSpec := { name := "keyBack", fn := fun _ => fun
  | [d] => { results := [.lit (.bool true)], args := [d] }
  | _ => none }
def keyBackRow : OpenClaim := { program := "ytehijhknpajdbab", sum := "d8f1a00ae21c0c31378aeee3c2fdde97537b1aefa137794f2cc01230ee0b6305", func := "sheetpile/sheetpilelaw08.KeyBack", spec := "keyBack", inPlace := ["internal/bytealg.IndexByteString"], apart := false }
def KeyBackSaid : Prop := keyBackRow.holds Try.pinned (OpenSpec.ofChange keyBackSpec)

/-- ITS FALSE NEIGHBOUR: 'it returns false'. Refute it at one input. -/
def keyBackWrong : ChangeSpec := { name := "keyBack", fn := fun _ => fun
  | [d] => { results := [.lit (.bool false)], args := [d] }
  | _ => none }
def KeyBackWrongFalsely : Prop := keyBackRow.holds Try.pinned (OpenSpec.ofChange keyBackWrong)

/-- 'sheetpilelaw08.KeyJoins': WHATEVER THE INPUT: true; the input reads as it did. -/
def keyJoinsSpec : ChangeSpec := { name := "keyJoins", fn := fun _ => fun
  | [d1, d2] => { results := [.lit (.bool true)], args := [d1, d2] }
  | _ => none }
def keyJoinsRow : OpenClaim := { program := "ytehijhknpajdbab", sum := "d8f1a00ae21c0c31378aeee3c2fdde97537b1aefa137794f2cc01230ee0b6305", func := "sheetpile/sheetpilelaw08.KeyJoins", spec := "keyJoins", inPlace := ["internal/bytealg.IndexByteString"], apart := false }
def KeyJoinsSaid : Prop := keyJoinsRow.holds Try.pinned (OpenSpec.ofChange keyJoinsSpec)

/-- ITS FALSE NEIGHBOUR: 'it returns false'. Refute it at one input. -/
def keyJoinsWrong : ChangeSpec := { name := "keyJoins", fn := fun _ => fun
  | [d1, d2] => { results := [.lit (.bool false)], args := [d1, d2] }
  | _ => none }
def KeyJoinsWrongFalsely : Prop := keyJoinsRow.holds Try.pinned (OpenSpec.ofChange keyJoinsWrong)

/-- 'sheetpilelaw08.KeyApart': WHATEVER THE INPUT: true; the input reads as it did. -/
def keyApartSpec : ChangeSpec := { name := "keyApart", fn := fun _ => fun
  | [d1, d2] => { results := [.lit (.bool true)], args := [d1, d2] }
  | _ => none }
def keyApartRow : OpenClaim := { program := "ytehijhknpajdbab", sum := "d8f1a00ae21c0c31378aeee3c2fdde97537b1aefa137794f2cc01230ee0b6305", func := "sheetpile/sheetpilelaw08.KeyApart", spec := "keyApart", inPlace := ["internal/bytealg.IndexByteString"], apart := false }
def KeyApartSaid : Prop := keyApartRow.holds Try.pinned (OpenSpec.ofChange keyApartSpec)

/-- ITS FALSE NEIGHBOUR: 'it returns false'. Refute it at one input. -/
def keyApartWrong : ChangeSpec := { name := "keyApart", fn := fun _ => fun
  | [d1, d2] => { results := [.lit (.bool false)], args := [d1, d2] }
  | _ => none }
def KeyApartWrongFalsely : Prop := keyApartRow.holds Try.pinned (OpenSpec.ofChange keyApartWrong)

/-- 'sheetpilelaw08.KeyParts': WHATEVER THE INPUT: true; the input reads as it did. -/
def keyPartsSpec : ChangeSpec := { name := "keyParts", fn := fun _ => fun
  | [d1, d2] => { results := [.lit (.bool true)], args := [d1, d2] }
  | _ => none }
def keyPartsRow : OpenClaim := { program := "ytehijhknpajdbab", sum := "d8f1a00ae21c0c31378aeee3c2fdde97537b1aefa137794f2cc01230ee0b6305", func := "sheetpile/sheetpilelaw08.KeyParts", spec := "keyParts", inPlace := ["internal/bytealg.IndexByteString"], apart := false }
def KeyPartsSaid : Prop := keyPartsRow.holds Try.pinned (OpenSpec.ofChange keyPartsSpec)

/-- ITS FALSE NEIGHBOUR: 'it returns false'. Refute it at one input. -/
def keyPartsWrong : ChangeSpec := { name := "keyParts", fn := fun _ => fun
  | [d1, d2] => { results := [.lit (.bool false)], args := [d1, d2] }
  | _ => none }
def KeyPartsWrongFalsely : Prop := keyPartsRow.holds Try.pinned (OpenSpec.ofChange keyPartsWrong)

/- THE SECOND FORM. 'bulk': how many values and letters a reading holds, each counted each time it is reached (what is shared counts as often as it is met; a slice's spare places count too). A statement '..UptoSaid' is the law's where the arguments, and the package variables that the reading takes, are together of bulk at most 1048576: NARROWER than '..Said'. Prove '..Said' where nothing that the law and all that it calls make is longer than what came in: it says more and counts as full. Else prove '..UptoSaid'. A law counts once. -/
mutual
def uptoBulk {H : Type} : DataW H → Nat
  | .lit (.string bytes) => bytes.length + 1
  | .lit _ => 1
  | .nil => 1
  | .ptr d => uptoBulk d + 1
  | .slice elems spare => uptoBulkAll elems + uptoBulkAll spare + 1
  | .agg parts => uptoBulkAll parts + 1
  | .iface _ d => uptoBulk d + 1
  | .map entries => uptoBulkEntries entries + 1
  | .held _ => 1
def uptoBulkAll {H : Type} : List (DataW H) → Nat
  | [] => 0
  | d :: r => uptoBulk d + uptoBulkAll r
def uptoBulkEntries {H : Type} : List (Lit × DataW H) → Nat
  | [] => 0
  | x :: r => uptoBulkEntry x + uptoBulkEntries r
def uptoBulkEntry {H : Type} : Lit × DataW H → Nat
  | (.string bytes, d) => bytes.length + uptoBulk d + 1
  | (_, d) => uptoBulk d + 1
 end
def uptoSmall : (H : Type) → List (DataW H) → Bool := fun _ ds => decide (uptoBulkAll ds ≤ 1048576)
def OpenSpec.upto (s : _root_.Go.ChangeSpec) : _root_.Go.OpenSpec := { _root_.Go.OpenSpec.ofChange s with cond := some uptoSmall }

/-- 'sheetpilelaw08.KeyChecks', WHERE WHAT IT READS IS OF BULK AT MOST 1048576: true; the input reads as it did. -/
def keyChecksUptoRow : OpenClaim := { program := "ytehijhknpajdbab", sum := "d8f1a00ae21c0c31378aeee3c2fdde97537b1aefa137794f2cc01230ee0b6305", func := "sheetpile/sheetpilelaw08.KeyChecks", spec := "keyChecks", inPlace := ["internal/bytealg.IndexByteString"], apart := false, narrowed := true }
def KeyChecksUptoSaid : Prop := keyChecksUptoRow.holds Try.pinned (OpenSpec.upto keyChecksSpec)

/-- 'sheetpilelaw08.KeyQuotes', WHERE WHAT IT READS IS OF BULK AT MOST 1048576: true; the input reads as it did. -/
def keyQuotesUptoRow : OpenClaim := { program := "ytehijhknpajdbab", sum := "d8f1a00ae21c0c31378aeee3c2fdde97537b1aefa137794f2cc01230ee0b6305", func := "sheetpile/sheetpilelaw08.KeyQuotes", spec := "keyQuotes", inPlace := ["internal/bytealg.IndexByteString"], apart := false, narrowed := true }
def KeyQuotesUptoSaid : Prop := keyQuotesUptoRow.holds Try.pinned (OpenSpec.upto keyQuotesSpec)

/-- 'sheetpilelaw08.KeyBack', WHERE WHAT IT READS IS OF BULK AT MOST 1048576: true; the input reads as it did. -/
def keyBackUptoRow : OpenClaim := { program := "ytehijhknpajdbab", sum := "d8f1a00ae21c0c31378aeee3c2fdde97537b1aefa137794f2cc01230ee0b6305", func := "sheetpile/sheetpilelaw08.KeyBack", spec := "keyBack", inPlace := ["internal/bytealg.IndexByteString"], apart := false, narrowed := true }
def KeyBackUptoSaid : Prop := keyBackUptoRow.holds Try.pinned (OpenSpec.upto keyBackSpec)

/-- 'sheetpilelaw08.KeyJoins', WHERE WHAT IT READS IS OF BULK AT MOST 1048576: true; the input reads as it did. -/
def keyJoinsUptoRow : OpenClaim := { program := "ytehijhknpajdbab", sum := "d8f1a00ae21c0c31378aeee3c2fdde97537b1aefa137794f2cc01230ee0b6305", func := "sheetpile/sheetpilelaw08.KeyJoins", spec := "keyJoins", inPlace := ["internal/bytealg.IndexByteString"], apart := false, narrowed := true }
def KeyJoinsUptoSaid : Prop := keyJoinsUptoRow.holds Try.pinned (OpenSpec.upto keyJoinsSpec)

/-- 'sheetpilelaw08.KeyApart', WHERE WHAT IT READS IS OF BULK AT MOST 1048576: true; the input reads as it did. -/
def keyApartUptoRow : OpenClaim := { program := "ytehijhknpajdbab", sum := "d8f1a00ae21c0c31378aeee3c2fdde97537b1aefa137794f2cc01230ee0b6305", func := "sheetpile/sheetpilelaw08.KeyApart", spec := "keyApart", inPlace := ["internal/bytealg.IndexByteString"], apart := false, narrowed := true }
def KeyApartUptoSaid : Prop := keyApartUptoRow.holds Try.pinned (OpenSpec.upto keyApartSpec)

/-- 'sheetpilelaw08.KeyParts', WHERE WHAT IT READS IS OF BULK AT MOST 1048576: true; the input reads as it did. -/
def keyPartsUptoRow : OpenClaim := { program := "ytehijhknpajdbab", sum := "d8f1a00ae21c0c31378aeee3c2fdde97537b1aefa137794f2cc01230ee0b6305", func := "sheetpile/sheetpilelaw08.KeyParts", spec := "keyParts", inPlace := ["internal/bytealg.IndexByteString"], apart := false, narrowed := true }
def KeyPartsUptoSaid : Prop := keyPartsUptoRow.holds Try.pinned (OpenSpec.upto keyPartsSpec)

end Rows
end Go.Proofs.Ytehijhknpajdbab
