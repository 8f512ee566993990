/-
  DERIVED. GIVEN WITH THE SEED: THE CARDS: each row of YtojjbijendlpbabDoorRows.lean that lists a variable, with what it lists TIED to the program's text (the seventh form; the later family's looks); each row that meets fmt, with fmt's text TOLD by the authors' own Lean function (tested against real Go, not proved from fmt's source: count such statements apart). THE CARD IS WHAT COUNTS. Prove the row's statement (the work); the ties are given (YtojjbijendlpbabDoorTie.lean); close each card by the builder's one call (the guide's Derived/Test/ToyasCard.lean, 'card_holds'). Laid BY PROGRAM, IN A SANDBOX (cutbox-door.mjs). By AI agents, Wed Nov 11 2026. No macro, syntax, notation, axiom, sorry.
-/
import Derived.Test.YtojjbijendlpbabDoorRows
import GoSem.ClaimSeven
namespace Go.Proofs.YtojjbijendlpbabDoor
namespace Rows

/-- THE TIED CARD OF 'sheetpilelaw13.StripeBack'. -/
def stripeBackCard : Claim7 := { stood := { row := stripeBackRow, standIns := [], harness := (true, "4dd26af90e43981cf31496a9f5ee275e1488bdafaabadd89dfb6e034f4489fc4"), looks := false }, kinds := [], alts := [], laidByText := true, laidKinds := [.data, .pinned], laidTests := true, laidLooks := .later }
def StripeBackCardSaid : Prop := Claim7.holds Tryd.pinned (.plain (OpenSpec.ofChange stripeBackSpec)) stripeBackCard

/-- THE TIED CARD OF 'sheetpilelaw13.StripeApart'. -/
def stripeApartCard : Claim7 := { stood := { row := stripeApartRow, standIns := [], harness := (true, "4dd26af90e43981cf31496a9f5ee275e1488bdafaabadd89dfb6e034f4489fc4"), looks := false }, kinds := [], alts := [], laidByText := true, laidKinds := [.data, .pinned], laidTests := true, laidLooks := .later }
def StripeApartCardSaid : Prop := Claim7.holds Tryd.pinned (.plain (OpenSpec.ofChange stripeApartSpec)) stripeApartCard

/-- THE SECOND FORM's CARD OF 'sheetpilelaw13.StripeBack'. -/
def stripeBackUptoCard : Claim7 := { stood := { row := stripeBackUptoRow, standIns := [], harness := (true, "4dd26af90e43981cf31496a9f5ee275e1488bdafaabadd89dfb6e034f4489fc4"), looks := false }, kinds := [], alts := [], laidByText := true, laidKinds := [.data, .pinned], laidTests := true, laidLooks := .later }
def StripeBackUptoCardSaid : Prop := Claim7.holds Tryd.pinned (.plain (OpenSpec.upto stripeBackSpec)) stripeBackUptoCard

/-- THE SECOND FORM's CARD OF 'sheetpilelaw13.StripeApart'. -/
def stripeApartUptoCard : Claim7 := { stood := { row := stripeApartUptoRow, standIns := [], harness := (true, "4dd26af90e43981cf31496a9f5ee275e1488bdafaabadd89dfb6e034f4489fc4"), looks := false }, kinds := [], alts := [], laidByText := true, laidKinds := [.data, .pinned], laidTests := true, laidLooks := .later }
def StripeApartUptoCardSaid : Prop := Claim7.holds Tryd.pinned (.plain (OpenSpec.upto stripeApartSpec)) stripeApartUptoCard
end Rows
end Go.Proofs.YtojjbijendlpbabDoor
