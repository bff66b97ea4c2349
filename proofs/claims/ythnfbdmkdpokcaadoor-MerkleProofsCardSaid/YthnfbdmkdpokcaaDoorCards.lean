/-
  DERIVED. GIVEN WITH THE SEED: THE CARDS: each row of YthnfbdmkdpokcaaDoorRows.lean that lists a variable, with what it lists TIED to the program's text (the seventh form; the later family's looks); each row that meets fmt, with fmt's text TOLD by the authors' own Lean function (tested against real Go, not proved from fmt's source: count such statements apart). THE CARD IS WHAT COUNTS. Prove the row's statement (the work); the ties are given (YthnfbdmkdpokcaaDoorTie.lean); close each card by the builder's one call (the guide's Derived/Test/ToyasCard.lean, 'card_holds'). Laid BY PROGRAM, IN A SANDBOX (cutbox-door.mjs). By AI agents, Wed Nov 11 2026. No macro, syntax, notation, axiom, sorry.
-/
import Derived.Test.YthnfbdmkdpokcaaDoorRows
import GoSem.ClaimSeven
namespace Go.Proofs.YthnfbdmkdpokcaaDoor
namespace Rows

/-- THE TIED CARD OF 'hallmarklaw03.MerkleRoots'. -/
def merkleRootsCard : Claim7 := { stood := { row := merkleRootsRow, standIns := [], harness := (true, "d1ed518009894c53ca4b30443fc4e391a4836c9124f032d610f787cf28c0b91c"), looks := false }, kinds := [], alts := [], laidByText := true, laidKinds := [.data], laidTests := true, laidLooks := .later }
def MerkleRootsCardSaid : Prop := Claim7.holds Tryd.pinned (.plain (OpenSpec.ofChange merkleRootsSpec)) merkleRootsCard

/-- THE TIED CARD OF 'hallmarklaw03.MerklePaths'. -/
def merklePathsCard : Claim7 := { stood := { row := merklePathsRow, standIns := [], harness := (true, "d1ed518009894c53ca4b30443fc4e391a4836c9124f032d610f787cf28c0b91c"), looks := false }, kinds := [], alts := [], laidByText := true, laidKinds := [.data], laidTests := true, laidLooks := .later }
def MerklePathsCardSaid : Prop := Claim7.holds Tryd.pinned (.plain (OpenSpec.ofChange merklePathsSpec)) merklePathsCard

/-- THE TIED CARD OF 'hallmarklaw03.MerkleChecks'. -/
def merkleChecksCard : Claim7 := { stood := { row := merkleChecksRow, standIns := [], harness := (true, "d1ed518009894c53ca4b30443fc4e391a4836c9124f032d610f787cf28c0b91c"), looks := false }, kinds := [], alts := [], laidByText := true, laidKinds := [.data], laidTests := true, laidLooks := .later }
def MerkleChecksCardSaid : Prop := Claim7.holds Tryd.pinned (.plain (OpenSpec.ofChange merkleChecksSpec)) merkleChecksCard

/-- THE TIED CARD OF 'hallmarklaw03.MerkleProofs'. -/
def merkleProofsCard : Claim7 := { stood := { row := merkleProofsRow, standIns := [], harness := (true, "d1ed518009894c53ca4b30443fc4e391a4836c9124f032d610f787cf28c0b91c"), looks := false }, kinds := [], alts := [], laidByText := true, laidKinds := [.data], laidTests := true, laidLooks := .later }
def MerkleProofsCardSaid : Prop := Claim7.holds Tryd.pinned (.plain (OpenSpec.ofChange merkleProofsSpec)) merkleProofsCard

/-- THE TIED CARD OF 'hallmarklaw03.MerkleExtends'. -/
def merkleExtendsCard : Claim7 := { stood := { row := merkleExtendsRow, standIns := [], harness := (true, "d1ed518009894c53ca4b30443fc4e391a4836c9124f032d610f787cf28c0b91c"), looks := false }, kinds := [], alts := [], laidByText := true, laidKinds := [.data], laidTests := true, laidLooks := .later }
def MerkleExtendsCardSaid : Prop := Claim7.holds Tryd.pinned (.plain (OpenSpec.ofChange merkleExtendsSpec)) merkleExtendsCard

/-- THE TIED CARD OF 'hallmarklaw03.MerkleFrontiers'. -/
def merkleFrontiersCard : Claim7 := { stood := { row := merkleFrontiersRow, standIns := [], harness := (true, "d1ed518009894c53ca4b30443fc4e391a4836c9124f032d610f787cf28c0b91c"), looks := false }, kinds := [], alts := [], laidByText := true, laidKinds := [.data], laidTests := true, laidLooks := .later }
def MerkleFrontiersCardSaid : Prop := Claim7.holds Tryd.pinned (.plain (OpenSpec.ofChange merkleFrontiersSpec)) merkleFrontiersCard

/-- THE TIED CARD OF 'hallmarklaw03.MerkleLoads'. -/
def merkleLoadsCard : Claim7 := { stood := { row := merkleLoadsRow, standIns := [], harness := (true, "d1ed518009894c53ca4b30443fc4e391a4836c9124f032d610f787cf28c0b91c"), looks := false }, kinds := [], alts := [], laidByText := true, laidKinds := [.data], laidTests := true, laidLooks := .later }
def MerkleLoadsCardSaid : Prop := Claim7.holds Tryd.pinned (.plain (OpenSpec.ofChange merkleLoadsSpec)) merkleLoadsCard

/-- THE TIED CARD OF 'hallmarklaw03.MerkleApart'. -/
def merkleApartCard : Claim7 := { stood := { row := merkleApartRow, standIns := [], harness := (true, "d1ed518009894c53ca4b30443fc4e391a4836c9124f032d610f787cf28c0b91c"), looks := false }, kinds := [], alts := [], laidByText := true, laidKinds := [.data], laidTests := true, laidLooks := .later }
def MerkleApartCardSaid : Prop := Claim7.holds Tryd.pinned (.plain (OpenSpec.ofChange merkleApartSpec)) merkleApartCard

/-- THE TIED CARD OF 'hallmarklaw03.MerkleStays'. -/
def merkleStaysCard : Claim7 := { stood := { row := merkleStaysRow, standIns := [], harness := (true, "d1ed518009894c53ca4b30443fc4e391a4836c9124f032d610f787cf28c0b91c"), looks := false }, kinds := [], alts := [], laidByText := true, laidKinds := [.data], laidTests := true, laidLooks := .later }
def MerkleStaysCardSaid : Prop := Claim7.holds Tryd.pinned (.plain (OpenSpec.ofChange merkleStaysSpec)) merkleStaysCard

/-- THE TIED CARD OF 'hallmarklaw03.MerkleNil'. -/
def merkleNilCard : Claim7 := { stood := { row := merkleNilRow, standIns := [], harness := (true, "d1ed518009894c53ca4b30443fc4e391a4836c9124f032d610f787cf28c0b91c"), looks := false }, kinds := [], alts := [], laidByText := true, laidKinds := [.data], laidTests := true, laidLooks := .later }
def MerkleNilCardSaid : Prop := Claim7.holds Tryd.pinned (.plain (OpenSpec.ofChange merkleNilSpec)) merkleNilCard

/-- THE SECOND FORM's CARD OF 'hallmarklaw03.MerkleRoots'. -/
def merkleRootsUptoCard : Claim7 := { stood := { row := merkleRootsUptoRow, standIns := [], harness := (true, "d1ed518009894c53ca4b30443fc4e391a4836c9124f032d610f787cf28c0b91c"), looks := false }, kinds := [], alts := [], laidByText := true, laidKinds := [.data], laidTests := true, laidLooks := .later }
def MerkleRootsUptoCardSaid : Prop := Claim7.holds Tryd.pinned (.plain (OpenSpec.upto merkleRootsSpec)) merkleRootsUptoCard

/-- THE SECOND FORM's CARD OF 'hallmarklaw03.MerklePaths'. -/
def merklePathsUptoCard : Claim7 := { stood := { row := merklePathsUptoRow, standIns := [], harness := (true, "d1ed518009894c53ca4b30443fc4e391a4836c9124f032d610f787cf28c0b91c"), looks := false }, kinds := [], alts := [], laidByText := true, laidKinds := [.data], laidTests := true, laidLooks := .later }
def MerklePathsUptoCardSaid : Prop := Claim7.holds Tryd.pinned (.plain (OpenSpec.upto merklePathsSpec)) merklePathsUptoCard

/-- THE SECOND FORM's CARD OF 'hallmarklaw03.MerkleChecks'. -/
def merkleChecksUptoCard : Claim7 := { stood := { row := merkleChecksUptoRow, standIns := [], harness := (true, "d1ed518009894c53ca4b30443fc4e391a4836c9124f032d610f787cf28c0b91c"), looks := false }, kinds := [], alts := [], laidByText := true, laidKinds := [.data], laidTests := true, laidLooks := .later }
def MerkleChecksUptoCardSaid : Prop := Claim7.holds Tryd.pinned (.plain (OpenSpec.upto merkleChecksSpec)) merkleChecksUptoCard

/-- THE SECOND FORM's CARD OF 'hallmarklaw03.MerkleProofs'. -/
def merkleProofsUptoCard : Claim7 := { stood := { row := merkleProofsUptoRow, standIns := [], harness := (true, "d1ed518009894c53ca4b30443fc4e391a4836c9124f032d610f787cf28c0b91c"), looks := false }, kinds := [], alts := [], laidByText := true, laidKinds := [.data], laidTests := true, laidLooks := .later }
def MerkleProofsUptoCardSaid : Prop := Claim7.holds Tryd.pinned (.plain (OpenSpec.upto merkleProofsSpec)) merkleProofsUptoCard

/-- THE SECOND FORM's CARD OF 'hallmarklaw03.MerkleExtends'. -/
def merkleExtendsUptoCard : Claim7 := { stood := { row := merkleExtendsUptoRow, standIns := [], harness := (true, "d1ed518009894c53ca4b30443fc4e391a4836c9124f032d610f787cf28c0b91c"), looks := false }, kinds := [], alts := [], laidByText := true, laidKinds := [.data], laidTests := true, laidLooks := .later }
def MerkleExtendsUptoCardSaid : Prop := Claim7.holds Tryd.pinned (.plain (OpenSpec.upto merkleExtendsSpec)) merkleExtendsUptoCard

/-- THE SECOND FORM's CARD OF 'hallmarklaw03.MerkleFrontiers'. -/
def merkleFrontiersUptoCard : Claim7 := { stood := { row := merkleFrontiersUptoRow, standIns := [], harness := (true, "d1ed518009894c53ca4b30443fc4e391a4836c9124f032d610f787cf28c0b91c"), looks := false }, kinds := [], alts := [], laidByText := true, laidKinds := [.data], laidTests := true, laidLooks := .later }
def MerkleFrontiersUptoCardSaid : Prop := Claim7.holds Tryd.pinned (.plain (OpenSpec.upto merkleFrontiersSpec)) merkleFrontiersUptoCard

/-- THE SECOND FORM's CARD OF 'hallmarklaw03.MerkleLoads'. -/
def merkleLoadsUptoCard : Claim7 := { stood := { row := merkleLoadsUptoRow, standIns := [], harness := (true, "d1ed518009894c53ca4b30443fc4e391a4836c9124f032d610f787cf28c0b91c"), looks := false }, kinds := [], alts := [], laidByText := true, laidKinds := [.data], laidTests := true, laidLooks := .later }
def MerkleLoadsUptoCardSaid : Prop := Claim7.holds Tryd.pinned (.plain (OpenSpec.upto merkleLoadsSpec)) merkleLoadsUptoCard

/-- THE SECOND FORM's CARD OF 'hallmarklaw03.MerkleApart'. -/
def merkleApartUptoCard : Claim7 := { stood := { row := merkleApartUptoRow, standIns := [], harness := (true, "d1ed518009894c53ca4b30443fc4e391a4836c9124f032d610f787cf28c0b91c"), looks := false }, kinds := [], alts := [], laidByText := true, laidKinds := [.data], laidTests := true, laidLooks := .later }
def MerkleApartUptoCardSaid : Prop := Claim7.holds Tryd.pinned (.plain (OpenSpec.upto merkleApartSpec)) merkleApartUptoCard

/-- THE SECOND FORM's CARD OF 'hallmarklaw03.MerkleStays'. -/
def merkleStaysUptoCard : Claim7 := { stood := { row := merkleStaysUptoRow, standIns := [], harness := (true, "d1ed518009894c53ca4b30443fc4e391a4836c9124f032d610f787cf28c0b91c"), looks := false }, kinds := [], alts := [], laidByText := true, laidKinds := [.data], laidTests := true, laidLooks := .later }
def MerkleStaysUptoCardSaid : Prop := Claim7.holds Tryd.pinned (.plain (OpenSpec.upto merkleStaysSpec)) merkleStaysUptoCard

/-- THE SECOND FORM's CARD OF 'hallmarklaw03.MerkleNil'. -/
def merkleNilUptoCard : Claim7 := { stood := { row := merkleNilUptoRow, standIns := [], harness := (true, "d1ed518009894c53ca4b30443fc4e391a4836c9124f032d610f787cf28c0b91c"), looks := false }, kinds := [], alts := [], laidByText := true, laidKinds := [.data], laidTests := true, laidLooks := .later }
def MerkleNilUptoCardSaid : Prop := Claim7.holds Tryd.pinned (.plain (OpenSpec.upto merkleNilSpec)) merkleNilUptoCard
end Rows
end Go.Proofs.YthnfbdmkdpokcaaDoor
