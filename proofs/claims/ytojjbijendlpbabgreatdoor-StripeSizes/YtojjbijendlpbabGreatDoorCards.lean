/-
  DERIVED. GIVEN WITH THE SEED: THE CARDS: each row of YtojjbijendlpbabGreatDoorRows.lean that lists a variable, with what it lists TIED to the program's text (the seventh form; the later family's looks); each row that meets fmt, with fmt's text TOLD by the authors' own Lean function (tested against real Go, not proved from fmt's source: count such statements apart). THE CARD IS WHAT COUNTS. Prove the row's statement (the work); the ties are given (YtojjbijendlpbabGreatDoorTie.lean); close each card by the builder's one call (the guide's Derived/Test/ToyasCard.lean, 'card_holds'). Laid BY PROGRAM, IN A SANDBOX (cutbox-door.mjs). By AI agents, Wed Nov 11 2026. No macro, syntax, notation, axiom, sorry.
-/
import Derived.Test.YtojjbijendlpbabGreatDoorRows
import GoSem.ClaimSeven
namespace Go.Proofs.YtojjbijendlpbabGreatDoor
namespace Rows

/-- THE TIED CARD OF 'sheetpilelaw13.StripeSplits'. -/
def stripeSplitsCard : Claim7 := { stood := { row := stripeSplitsRow, standIns := [], harness := (true, "a5cfd5f412c328c2b627c81c3ef0c4e464a161624e1cb3178846fa5cc34fb773"), looks := false }, kinds := [], alts := [], laidByText := true, laidKinds := [.data, .pinned], laidTests := true, laidLooks := .later }
def StripeSplitsCardSaid : Prop := Claim7.holds Tryz.pinned (.plain (OpenSpec.ofChange stripeSplitsSpec)) stripeSplitsCard

/-- THE TIED CARD OF 'sheetpilelaw13.StripeJoins'. -/
def stripeJoinsCard : Claim7 := { stood := { row := stripeJoinsRow, standIns := [], harness := (true, "a5cfd5f412c328c2b627c81c3ef0c4e464a161624e1cb3178846fa5cc34fb773"), looks := false }, kinds := [], alts := [], laidByText := true, laidKinds := [.data, .pinned], laidTests := true, laidLooks := .later }
def StripeJoinsCardSaid : Prop := Claim7.holds Tryz.pinned (.plain (OpenSpec.ofChange stripeJoinsSpec)) stripeJoinsCard

/-- THE TIED CARD OF 'sheetpilelaw13.StripeSizes'. -/
def stripeSizesCard : Claim7 := { stood := { row := stripeSizesRow, standIns := [], harness := (true, "a5cfd5f412c328c2b627c81c3ef0c4e464a161624e1cb3178846fa5cc34fb773"), looks := false }, kinds := [], alts := [], laidByText := true, laidKinds := [.data, .pinned], laidTests := true, laidLooks := .later }
def StripeSizesCardSaid : Prop := Claim7.holds Tryz.pinned (.plain (OpenSpec.ofChange stripeSizesSpec)) stripeSizesCard

/-- THE SECOND FORM's CARD OF 'sheetpilelaw13.StripeSplits'. -/
def stripeSplitsUptoCard : Claim7 := { stood := { row := stripeSplitsUptoRow, standIns := [], harness := (true, "a5cfd5f412c328c2b627c81c3ef0c4e464a161624e1cb3178846fa5cc34fb773"), looks := false }, kinds := [], alts := [], laidByText := true, laidKinds := [.data, .pinned], laidTests := true, laidLooks := .later }
def StripeSplitsUptoCardSaid : Prop := Claim7.holds Tryz.pinned (.plain (OpenSpec.upto stripeSplitsSpec)) stripeSplitsUptoCard

/-- THE SECOND FORM's CARD OF 'sheetpilelaw13.StripeJoins'. -/
def stripeJoinsUptoCard : Claim7 := { stood := { row := stripeJoinsUptoRow, standIns := [], harness := (true, "a5cfd5f412c328c2b627c81c3ef0c4e464a161624e1cb3178846fa5cc34fb773"), looks := false }, kinds := [], alts := [], laidByText := true, laidKinds := [.data, .pinned], laidTests := true, laidLooks := .later }
def StripeJoinsUptoCardSaid : Prop := Claim7.holds Tryz.pinned (.plain (OpenSpec.upto stripeJoinsSpec)) stripeJoinsUptoCard

/-- THE SECOND FORM's CARD OF 'sheetpilelaw13.StripeSizes'. -/
def stripeSizesUptoCard : Claim7 := { stood := { row := stripeSizesUptoRow, standIns := [], harness := (true, "a5cfd5f412c328c2b627c81c3ef0c4e464a161624e1cb3178846fa5cc34fb773"), looks := false }, kinds := [], alts := [], laidByText := true, laidKinds := [.data, .pinned], laidTests := true, laidLooks := .later }
def StripeSizesUptoCardSaid : Prop := Claim7.holds Tryz.pinned (.plain (OpenSpec.upto stripeSizesSpec)) stripeSizesUptoCard
end Rows
end Go.Proofs.YtojjbijendlpbabGreatDoor
