/-
  DERIVED. GIVEN WITH THE SEED: THE CARDS: each row of YtlnblfdddellmaaDoorRows.lean that lists a variable, with what it lists TIED to the program's text (the seventh form; the later family's looks); each row that meets fmt, with fmt's text TOLD by the authors' own Lean function (tested against real Go, not proved from fmt's source: count such statements apart). THE CARD IS WHAT COUNTS. Prove the row's statement (the work); the ties are given (YtlnblfdddellmaaDoorTie.lean); close each card by the builder's one call (the guide's Derived/Test/ToyasCard.lean, 'card_holds'). Laid BY PROGRAM, IN A SANDBOX (cutbox-door.mjs). By AI agents, Wed Nov 11 2026. No macro, syntax, notation, axiom, sorry.
-/
import Derived.Test.YtlnblfdddellmaaDoorRows
import GoSem.ClaimSeven
namespace Go.Proofs.YtlnblfdddellmaaDoor
namespace Rows

/-- THE TIED CARD OF 'hallmarklaw03.MerkleFrontiers'. -/
def merkleFrontiersCard : Claim7 := { stood := { row := merkleFrontiersRow, standIns := [], harness := (true, "a38d10417b3623414867500509021f95a06118234f4b5ce470378c52fda8d9cb"), looks := false }, kinds := [], alts := [], laidByText := true, laidKinds := [.data], laidTests := true, laidLooks := .later }
def MerkleFrontiersCardSaid : Prop := Claim7.holds Tryd.pinned (.plain (OpenSpec.ofChange merkleFrontiersSpec)) merkleFrontiersCard

/-- THE TIED CARD OF 'hallmarklaw03.MerkleLoads'. -/
def merkleLoadsCard : Claim7 := { stood := { row := merkleLoadsRow, standIns := [], harness := (true, "a38d10417b3623414867500509021f95a06118234f4b5ce470378c52fda8d9cb"), looks := false }, kinds := [], alts := [], laidByText := true, laidKinds := [.data], laidTests := true, laidLooks := .later }
def MerkleLoadsCardSaid : Prop := Claim7.holds Tryd.pinned (.plain (OpenSpec.ofChange merkleLoadsSpec)) merkleLoadsCard

/-- THE TIED CARD OF 'hallmarklaw04.ChainForges'. -/
def chainForgesCard : Claim7 := { stood := { row := chainForgesRow, standIns := [], harness := (true, "a38d10417b3623414867500509021f95a06118234f4b5ce470378c52fda8d9cb"), looks := false }, kinds := [], alts := [], laidByText := true, laidKinds := [.data], laidTests := true, laidLooks := .later }
def ChainForgesCardSaid : Prop := Claim7.holds Tryd.pinned (.plain (OpenSpec.ofChange chainForgesSpec)) chainForgesCard

/-- THE SECOND FORM's CARD OF 'hallmarklaw03.MerkleFrontiers'. -/
def merkleFrontiersUptoCard : Claim7 := { stood := { row := merkleFrontiersUptoRow, standIns := [], harness := (true, "a38d10417b3623414867500509021f95a06118234f4b5ce470378c52fda8d9cb"), looks := false }, kinds := [], alts := [], laidByText := true, laidKinds := [.data], laidTests := true, laidLooks := .later }
def MerkleFrontiersUptoCardSaid : Prop := Claim7.holds Tryd.pinned (.plain (OpenSpec.upto merkleFrontiersSpec)) merkleFrontiersUptoCard

/-- THE SECOND FORM's CARD OF 'hallmarklaw03.MerkleLoads'. -/
def merkleLoadsUptoCard : Claim7 := { stood := { row := merkleLoadsUptoRow, standIns := [], harness := (true, "a38d10417b3623414867500509021f95a06118234f4b5ce470378c52fda8d9cb"), looks := false }, kinds := [], alts := [], laidByText := true, laidKinds := [.data], laidTests := true, laidLooks := .later }
def MerkleLoadsUptoCardSaid : Prop := Claim7.holds Tryd.pinned (.plain (OpenSpec.upto merkleLoadsSpec)) merkleLoadsUptoCard

/-- THE SECOND FORM's CARD OF 'hallmarklaw04.ChainForges'. -/
def chainForgesUptoCard : Claim7 := { stood := { row := chainForgesUptoRow, standIns := [], harness := (true, "a38d10417b3623414867500509021f95a06118234f4b5ce470378c52fda8d9cb"), looks := false }, kinds := [], alts := [], laidByText := true, laidKinds := [.data], laidTests := true, laidLooks := .later }
def ChainForgesUptoCardSaid : Prop := Claim7.holds Tryd.pinned (.plain (OpenSpec.upto chainForgesSpec)) chainForgesUptoCard
end Rows
end Go.Proofs.YtlnblfdddellmaaDoor
