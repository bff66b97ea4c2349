/-
  DERIVED. GIVEN WITH THE SEED: THE CARDS: each row of YtbhgpkhpammdeaaDoorRows.lean that lists a variable, with what it lists TIED to the program's text (the seventh form; the later family's looks); each row that meets fmt, with fmt's text TOLD by the authors' own Lean function (tested against real Go, not proved from fmt's source: count such statements apart). THE CARD IS WHAT COUNTS. Prove the row's statement (the work); the ties are given (YtbhgpkhpammdeaaDoorTie.lean); close each card by the builder's one call (the guide's Derived/Test/ToyasCard.lean, 'card_holds'). Laid BY PROGRAM, IN A SANDBOX (cutbox-door.mjs). By AI agents, Wed Nov 11 2026. No macro, syntax, notation, axiom, sorry.
-/
import Derived.Test.YtbhgpkhpammdeaaDoorRows
import GoSem.ClaimSeven
namespace Go.Proofs.YtbhgpkhpammdeaaDoor
namespace Rows

/-- THE TIED CARD OF 'hallmarklaw02.DigestPads'. -/
def digestPadsCard : Claim7 := { stood := { row := digestPadsRow, standIns := [], harness := (true, "8c54bf37e09b4b6721ebcd122ce37e835f9efdce093602d99400f815ab31ac24"), looks := false }, kinds := [], alts := [], laidByText := true, laidKinds := [.data], laidTests := true, laidLooks := .later }
def DigestPadsCardSaid : Prop := Claim7.holds Tryd.pinned (.plain (OpenSpec.ofChange digestPadsSpec)) digestPadsCard

/-- THE TIED CARD OF 'hallmarklaw04.ChainForges'. -/
def chainForgesCard : Claim7 := { stood := { row := chainForgesRow, standIns := [], harness := (true, "8c54bf37e09b4b6721ebcd122ce37e835f9efdce093602d99400f815ab31ac24"), looks := false }, kinds := [], alts := [], laidByText := true, laidKinds := [.data], laidTests := true, laidLooks := .later }
def ChainForgesCardSaid : Prop := Claim7.holds Tryd.pinned (.plain (OpenSpec.ofChange chainForgesSpec)) chainForgesCard

/-- THE SECOND FORM's CARD OF 'hallmarklaw02.DigestPads'. -/
def digestPadsUptoCard : Claim7 := { stood := { row := digestPadsUptoRow, standIns := [], harness := (true, "8c54bf37e09b4b6721ebcd122ce37e835f9efdce093602d99400f815ab31ac24"), looks := false }, kinds := [], alts := [], laidByText := true, laidKinds := [.data], laidTests := true, laidLooks := .later }
def DigestPadsUptoCardSaid : Prop := Claim7.holds Tryd.pinned (.plain (OpenSpec.upto digestPadsSpec)) digestPadsUptoCard

/-- THE SECOND FORM's CARD OF 'hallmarklaw04.ChainForges'. -/
def chainForgesUptoCard : Claim7 := { stood := { row := chainForgesUptoRow, standIns := [], harness := (true, "8c54bf37e09b4b6721ebcd122ce37e835f9efdce093602d99400f815ab31ac24"), looks := false }, kinds := [], alts := [], laidByText := true, laidKinds := [.data], laidTests := true, laidLooks := .later }
def ChainForgesUptoCardSaid : Prop := Claim7.holds Tryd.pinned (.plain (OpenSpec.upto chainForgesSpec)) chainForgesUptoCard
end Rows
end Go.Proofs.YtbhgpkhpammdeaaDoor
