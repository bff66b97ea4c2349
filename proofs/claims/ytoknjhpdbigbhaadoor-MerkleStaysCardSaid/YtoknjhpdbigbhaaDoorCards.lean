/-
  DERIVED. GIVEN WITH THE SEED: THE CARDS: each row of YtoknjhpdbigbhaaDoorRows.lean that lists a variable, with what it lists TIED to the program's text (the seventh form; the later family's looks); each row that meets fmt, with fmt's text TOLD by the authors' own Lean function (tested against real Go, not proved from fmt's source: count such statements apart). THE CARD IS WHAT COUNTS. Prove the row's statement (the work); the ties are given (YtoknjhpdbigbhaaDoorTie.lean); close each card by the builder's one call (the guide's Derived/Test/ToyasCard.lean, 'card_holds'). Laid BY PROGRAM, IN A SANDBOX (cutbox-door.mjs). By AI agents, Wed Nov 11 2026. No macro, syntax, notation, axiom, sorry.
-/
import Derived.Test.YtoknjhpdbigbhaaDoorRows
import GoSem.ClaimSeven
namespace Go.Proofs.YtoknjhpdbigbhaaDoor
namespace Rows

/-- THE TIED CARD OF 'hallmarklaw03.MerkleFrontiers'. -/
def merkleFrontiersCard : Claim7 := { stood := { row := merkleFrontiersRow, standIns := [], harness := (true, "0a97b3b2c88acb772121cc4b879c340623d83a7dbd274279d4d319d0e4085d6e"), looks := false }, kinds := [], alts := [], laidByText := true, laidKinds := [.data], laidTests := true, laidLooks := .later }
def MerkleFrontiersCardSaid : Prop := Claim7.holds Tryd.pinned (.plain (OpenSpec.ofChange merkleFrontiersSpec)) merkleFrontiersCard

/-- THE TIED CARD OF 'hallmarklaw03.MerkleLoads'. -/
def merkleLoadsCard : Claim7 := { stood := { row := merkleLoadsRow, standIns := [], harness := (true, "0a97b3b2c88acb772121cc4b879c340623d83a7dbd274279d4d319d0e4085d6e"), looks := false }, kinds := [], alts := [], laidByText := true, laidKinds := [.data], laidTests := true, laidLooks := .later }
def MerkleLoadsCardSaid : Prop := Claim7.holds Tryd.pinned (.plain (OpenSpec.ofChange merkleLoadsSpec)) merkleLoadsCard

/-- THE TIED CARD OF 'hallmarklaw03.MerkleStays'. -/
def merkleStaysCard : Claim7 := { stood := { row := merkleStaysRow, standIns := [], harness := (true, "0a97b3b2c88acb772121cc4b879c340623d83a7dbd274279d4d319d0e4085d6e"), looks := false }, kinds := [], alts := [], laidByText := true, laidKinds := [.data], laidTests := true, laidLooks := .later }
def MerkleStaysCardSaid : Prop := Claim7.holds Tryd.pinned (.plain (OpenSpec.ofChange merkleStaysSpec)) merkleStaysCard

/-- THE SECOND FORM's CARD OF 'hallmarklaw03.MerkleFrontiers'. -/
def merkleFrontiersUptoCard : Claim7 := { stood := { row := merkleFrontiersUptoRow, standIns := [], harness := (true, "0a97b3b2c88acb772121cc4b879c340623d83a7dbd274279d4d319d0e4085d6e"), looks := false }, kinds := [], alts := [], laidByText := true, laidKinds := [.data], laidTests := true, laidLooks := .later }
def MerkleFrontiersUptoCardSaid : Prop := Claim7.holds Tryd.pinned (.plain (OpenSpec.upto merkleFrontiersSpec)) merkleFrontiersUptoCard

/-- THE SECOND FORM's CARD OF 'hallmarklaw03.MerkleLoads'. -/
def merkleLoadsUptoCard : Claim7 := { stood := { row := merkleLoadsUptoRow, standIns := [], harness := (true, "0a97b3b2c88acb772121cc4b879c340623d83a7dbd274279d4d319d0e4085d6e"), looks := false }, kinds := [], alts := [], laidByText := true, laidKinds := [.data], laidTests := true, laidLooks := .later }
def MerkleLoadsUptoCardSaid : Prop := Claim7.holds Tryd.pinned (.plain (OpenSpec.upto merkleLoadsSpec)) merkleLoadsUptoCard

/-- THE SECOND FORM's CARD OF 'hallmarklaw03.MerkleStays'. -/
def merkleStaysUptoCard : Claim7 := { stood := { row := merkleStaysUptoRow, standIns := [], harness := (true, "0a97b3b2c88acb772121cc4b879c340623d83a7dbd274279d4d319d0e4085d6e"), looks := false }, kinds := [], alts := [], laidByText := true, laidKinds := [.data], laidTests := true, laidLooks := .later }
def MerkleStaysUptoCardSaid : Prop := Claim7.holds Tryd.pinned (.plain (OpenSpec.upto merkleStaysSpec)) merkleStaysUptoCard
end Rows
end Go.Proofs.YtoknjhpdbigbhaaDoor
