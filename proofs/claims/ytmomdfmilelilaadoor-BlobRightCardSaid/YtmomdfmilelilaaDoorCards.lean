/-
  DERIVED. GIVEN WITH THE SEED: THE CARDS: each row of YtmomdfmilelilaaDoorRows.lean that lists a variable, with what it lists TIED to the program's text (the seventh form; the later family's looks); each row that meets fmt, with fmt's text TOLD by the authors' own Lean function (tested against real Go, not proved from fmt's source: count such statements apart). THE CARD IS WHAT COUNTS. Prove the row's statement (the work); the ties are given (YtmomdfmilelilaaDoorTie.lean); close each card by the builder's one call (the guide's Derived/Test/ToyasCard.lean, 'card_holds'). Laid BY PROGRAM, IN A SANDBOX (cutbox-door.mjs). By AI agents, Wed Nov 11 2026. No macro, syntax, notation, axiom, sorry.
-/
import Derived.Test.YtmomdfmilelilaaDoorRows
import GoSem.ClaimSeven
namespace Go.Proofs.YtmomdfmilelilaaDoor
namespace Rows

/-- THE TIED CARD OF 'hallmarklaw12.BlobRight'. -/
def blobRightCard : Claim7 := { stood := { row := blobRightRow, standIns := [], harness := (true, "e64993a6e39e9c9dcae6ebdab5e2a385e44781574cac218002a687b7d033fe72"), looks := false }, kinds := [], alts := [], laidByText := true, laidKinds := [.data], laidTests := true, laidLooks := .later }
def BlobRightCardSaid : Prop := Claim7.holds Tryd.pinned (.plain (OpenSpec.ofChange blobRightSpec)) blobRightCard

/-- THE SECOND FORM's CARD OF 'hallmarklaw12.BlobRight'. -/
def blobRightUptoCard : Claim7 := { stood := { row := blobRightUptoRow, standIns := [], harness := (true, "e64993a6e39e9c9dcae6ebdab5e2a385e44781574cac218002a687b7d033fe72"), looks := false }, kinds := [], alts := [], laidByText := true, laidKinds := [.data], laidTests := true, laidLooks := .later }
def BlobRightUptoCardSaid : Prop := Claim7.holds Tryd.pinned (.plain (OpenSpec.upto blobRightSpec)) blobRightUptoCard
end Rows
end Go.Proofs.YtmomdfmilelilaaDoor
