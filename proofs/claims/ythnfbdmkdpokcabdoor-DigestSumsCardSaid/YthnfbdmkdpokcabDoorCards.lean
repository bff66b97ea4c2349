/-
  DERIVED. GIVEN WITH THE SEED: THE CARDS: each row of YthnfbdmkdpokcabDoorRows.lean that lists a variable, with what it lists TIED to the program's text (the seventh form; the later family's looks); each row that meets fmt, with fmt's text TOLD by the authors' own Lean function (tested against real Go, not proved from fmt's source: count such statements apart). THE CARD IS WHAT COUNTS. Prove the row's statement (the work); the ties are given (YthnfbdmkdpokcabDoorTie.lean); close each card by the builder's one call (the guide's Derived/Test/ToyasCard.lean, 'card_holds'). Laid BY PROGRAM, IN A SANDBOX (cutbox-door.mjs). By AI agents, Wed Nov 11 2026. No macro, syntax, notation, axiom, sorry.
-/
import Derived.Test.YthnfbdmkdpokcabDoorRows
import GoSem.ClaimSeven
namespace Go.Proofs.YthnfbdmkdpokcabDoor
namespace Rows

/-- THE TIED CARD OF 'hallmarklaw02.DigestSums'. -/
def digestSumsCard : Claim7 := { stood := { row := digestSumsRow, standIns := [], harness := (true, "022ee2ed23f8fd9ffc19853c15febcba9acea399a5d69a40c5d4683229697d4c"), looks := false }, kinds := [], alts := [], laidByText := true, laidKinds := [.data], laidTests := true, laidLooks := .later }
def DigestSumsCardSaid : Prop := Claim7.holds Tryd.pinned (.plain (OpenSpec.ofChange digestSumsSpec)) digestSumsCard

/-- THE TIED CARD OF 'hallmarklaw02.DigestPads'. -/
def digestPadsCard : Claim7 := { stood := { row := digestPadsRow, standIns := [], harness := (true, "022ee2ed23f8fd9ffc19853c15febcba9acea399a5d69a40c5d4683229697d4c"), looks := false }, kinds := [], alts := [], laidByText := true, laidKinds := [.data], laidTests := true, laidLooks := .later }
def DigestPadsCardSaid : Prop := Claim7.holds Tryd.pinned (.plain (OpenSpec.ofChange digestPadsSpec)) digestPadsCard

/-- THE TIED CARD OF 'hallmarklaw02.DigestParts'. -/
def digestPartsCard : Claim7 := { stood := { row := digestPartsRow, standIns := [], harness := (true, "022ee2ed23f8fd9ffc19853c15febcba9acea399a5d69a40c5d4683229697d4c"), looks := false }, kinds := [], alts := [], laidByText := true, laidKinds := [.data], laidTests := true, laidLooks := .later }
def DigestPartsCardSaid : Prop := Claim7.holds Tryd.pinned (.plain (OpenSpec.ofChange digestPartsSpec)) digestPartsCard

/-- THE TIED CARD OF 'hallmarklaw02.DigestSaves'. -/
def digestSavesCard : Claim7 := { stood := { row := digestSavesRow, standIns := [], harness := (true, "022ee2ed23f8fd9ffc19853c15febcba9acea399a5d69a40c5d4683229697d4c"), looks := false }, kinds := [], alts := [], laidByText := true, laidKinds := [.data], laidTests := true, laidLooks := .later }
def DigestSavesCardSaid : Prop := Claim7.holds Tryd.pinned (.plain (OpenSpec.ofChange digestSavesSpec)) digestSavesCard

/-- THE TIED CARD OF 'hallmarklaw02.DigestLoads'. -/
def digestLoadsCard : Claim7 := { stood := { row := digestLoadsRow, standIns := [], harness := (true, "022ee2ed23f8fd9ffc19853c15febcba9acea399a5d69a40c5d4683229697d4c"), looks := false }, kinds := [], alts := [], laidByText := true, laidKinds := [.data], laidTests := true, laidLooks := .later }
def DigestLoadsCardSaid : Prop := Claim7.holds Tryd.pinned (.plain (OpenSpec.ofChange digestLoadsSpec)) digestLoadsCard

/-- THE SECOND FORM's CARD OF 'hallmarklaw02.DigestSums'. -/
def digestSumsUptoCard : Claim7 := { stood := { row := digestSumsUptoRow, standIns := [], harness := (true, "022ee2ed23f8fd9ffc19853c15febcba9acea399a5d69a40c5d4683229697d4c"), looks := false }, kinds := [], alts := [], laidByText := true, laidKinds := [.data], laidTests := true, laidLooks := .later }
def DigestSumsUptoCardSaid : Prop := Claim7.holds Tryd.pinned (.plain (OpenSpec.upto digestSumsSpec)) digestSumsUptoCard

/-- THE SECOND FORM's CARD OF 'hallmarklaw02.DigestPads'. -/
def digestPadsUptoCard : Claim7 := { stood := { row := digestPadsUptoRow, standIns := [], harness := (true, "022ee2ed23f8fd9ffc19853c15febcba9acea399a5d69a40c5d4683229697d4c"), looks := false }, kinds := [], alts := [], laidByText := true, laidKinds := [.data], laidTests := true, laidLooks := .later }
def DigestPadsUptoCardSaid : Prop := Claim7.holds Tryd.pinned (.plain (OpenSpec.upto digestPadsSpec)) digestPadsUptoCard

/-- THE SECOND FORM's CARD OF 'hallmarklaw02.DigestParts'. -/
def digestPartsUptoCard : Claim7 := { stood := { row := digestPartsUptoRow, standIns := [], harness := (true, "022ee2ed23f8fd9ffc19853c15febcba9acea399a5d69a40c5d4683229697d4c"), looks := false }, kinds := [], alts := [], laidByText := true, laidKinds := [.data], laidTests := true, laidLooks := .later }
def DigestPartsUptoCardSaid : Prop := Claim7.holds Tryd.pinned (.plain (OpenSpec.upto digestPartsSpec)) digestPartsUptoCard

/-- THE SECOND FORM's CARD OF 'hallmarklaw02.DigestSaves'. -/
def digestSavesUptoCard : Claim7 := { stood := { row := digestSavesUptoRow, standIns := [], harness := (true, "022ee2ed23f8fd9ffc19853c15febcba9acea399a5d69a40c5d4683229697d4c"), looks := false }, kinds := [], alts := [], laidByText := true, laidKinds := [.data], laidTests := true, laidLooks := .later }
def DigestSavesUptoCardSaid : Prop := Claim7.holds Tryd.pinned (.plain (OpenSpec.upto digestSavesSpec)) digestSavesUptoCard

/-- THE SECOND FORM's CARD OF 'hallmarklaw02.DigestLoads'. -/
def digestLoadsUptoCard : Claim7 := { stood := { row := digestLoadsUptoRow, standIns := [], harness := (true, "022ee2ed23f8fd9ffc19853c15febcba9acea399a5d69a40c5d4683229697d4c"), looks := false }, kinds := [], alts := [], laidByText := true, laidKinds := [.data], laidTests := true, laidLooks := .later }
def DigestLoadsUptoCardSaid : Prop := Claim7.holds Tryd.pinned (.plain (OpenSpec.upto digestLoadsSpec)) digestLoadsUptoCard
end Rows
end Go.Proofs.YthnfbdmkdpokcabDoor
