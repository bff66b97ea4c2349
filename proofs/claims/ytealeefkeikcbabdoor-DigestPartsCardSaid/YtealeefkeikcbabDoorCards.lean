/-
  DERIVED. GIVEN WITH THE SEED: THE CARDS: each row of YtealeefkeikcbabDoorRows.lean that lists a variable, with what it lists TIED to the program's text (the seventh form; the later family's looks); each row that meets fmt, with fmt's text TOLD by the authors' own Lean function (tested against real Go, not proved from fmt's source: count such statements apart). THE CARD IS WHAT COUNTS. Prove the row's statement (the work); the ties are given (YtealeefkeikcbabDoorTie.lean); close each card by the builder's one call (the guide's Derived/Test/ToyasCard.lean, 'card_holds'). Laid BY PROGRAM, IN A SANDBOX (cutbox-door.mjs). By AI agents, Wed Nov 11 2026. No macro, syntax, notation, axiom, sorry.
-/
import Derived.Test.YtealeefkeikcbabDoorRows
import GoSem.ClaimSeven
namespace Go.Proofs.YtealeefkeikcbabDoor
namespace Rows

/-- THE TIED CARD OF 'hallmarklaw04.ChainSteps'. -/
def chainStepsCard : Claim7 := { stood := { row := chainStepsRow, standIns := [], harness := (true, "03c1b5032e20b6ced074e81e69f91cffa4dac33fc8337f3d432aed401b8aa6e4"), looks := false }, kinds := [], alts := [], laidByText := true, laidKinds := [.data], laidTests := true, laidLooks := .later }
def ChainStepsCardSaid : Prop := Claim7.holds Tryd.pinned (.plain (OpenSpec.ofChange chainStepsSpec)) chainStepsCard

/-- THE TIED CARD OF 'hallmarklaw04.ChainClimbs'. -/
def chainClimbsCard : Claim7 := { stood := { row := chainClimbsRow, standIns := [], harness := (true, "03c1b5032e20b6ced074e81e69f91cffa4dac33fc8337f3d432aed401b8aa6e4"), looks := false }, kinds := [], alts := [], laidByText := true, laidKinds := [.data], laidTests := true, laidLooks := .later }
def ChainClimbsCardSaid : Prop := Claim7.holds Tryd.pinned (.plain (OpenSpec.ofChange chainClimbsSpec)) chainClimbsCard

/-- THE TIED CARD OF 'hallmarklaw04.ChainDigits'. -/
def chainDigitsCard : Claim7 := { stood := { row := chainDigitsRow, standIns := [], harness := (true, "03c1b5032e20b6ced074e81e69f91cffa4dac33fc8337f3d432aed401b8aa6e4"), looks := false }, kinds := [], alts := [], laidByText := true, laidKinds := [.data], laidTests := true, laidLooks := .later }
def ChainDigitsCardSaid : Prop := Claim7.holds Tryd.pinned (.plain (OpenSpec.ofChange chainDigitsSpec)) chainDigitsCard

/-- THE TIED CARD OF 'hallmarklaw04.ChainCrosses'. -/
def chainCrossesCard : Claim7 := { stood := { row := chainCrossesRow, standIns := [], harness := (true, "03c1b5032e20b6ced074e81e69f91cffa4dac33fc8337f3d432aed401b8aa6e4"), looks := false }, kinds := [], alts := [], laidByText := true, laidKinds := [.data], laidTests := true, laidLooks := .later }
def ChainCrossesCardSaid : Prop := Claim7.holds Tryd.pinned (.plain (OpenSpec.ofChange chainCrossesSpec)) chainCrossesCard

/-- THE TIED CARD OF 'hallmarklaw04.ChainSigns'. -/
def chainSignsCard : Claim7 := { stood := { row := chainSignsRow, standIns := [], harness := (true, "03c1b5032e20b6ced074e81e69f91cffa4dac33fc8337f3d432aed401b8aa6e4"), looks := false }, kinds := [], alts := [], laidByText := true, laidKinds := [.data], laidTests := true, laidLooks := .later }
def ChainSignsCardSaid : Prop := Claim7.holds Tryd.pinned (.plain (OpenSpec.ofChange chainSignsSpec)) chainSignsCard

/-- THE TIED CARD OF 'hallmarklaw04.ChainRecovers'. -/
def chainRecoversCard : Claim7 := { stood := { row := chainRecoversRow, standIns := [], harness := (true, "03c1b5032e20b6ced074e81e69f91cffa4dac33fc8337f3d432aed401b8aa6e4"), looks := false }, kinds := [], alts := [], laidByText := true, laidKinds := [.data], laidTests := true, laidLooks := .later }
def ChainRecoversCardSaid : Prop := Claim7.holds Tryd.pinned (.plain (OpenSpec.ofChange chainRecoversSpec)) chainRecoversCard

/-- THE TIED CARD OF 'hallmarklaw04.ChainForges'. -/
def chainForgesCard : Claim7 := { stood := { row := chainForgesRow, standIns := [], harness := (true, "03c1b5032e20b6ced074e81e69f91cffa4dac33fc8337f3d432aed401b8aa6e4"), looks := false }, kinds := [], alts := [], laidByText := true, laidKinds := [.data], laidTests := true, laidLooks := .later }
def ChainForgesCardSaid : Prop := Claim7.holds Tryd.pinned (.plain (OpenSpec.ofChange chainForgesSpec)) chainForgesCard

/-- THE TIED CARD OF 'hallmarklaw02.DigestPads'. -/
def digestPadsCard : Claim7 := { stood := { row := digestPadsRow, standIns := [], harness := (true, "03c1b5032e20b6ced074e81e69f91cffa4dac33fc8337f3d432aed401b8aa6e4"), looks := false }, kinds := [], alts := [], laidByText := true, laidKinds := [.data], laidTests := true, laidLooks := .later }
def DigestPadsCardSaid : Prop := Claim7.holds Tryd.pinned (.plain (OpenSpec.ofChange digestPadsSpec)) digestPadsCard

/-- THE TIED CARD OF 'hallmarklaw02.DigestParts'. -/
def digestPartsCard : Claim7 := { stood := { row := digestPartsRow, standIns := [], harness := (true, "03c1b5032e20b6ced074e81e69f91cffa4dac33fc8337f3d432aed401b8aa6e4"), looks := false }, kinds := [], alts := [], laidByText := true, laidKinds := [.data], laidTests := true, laidLooks := .later }
def DigestPartsCardSaid : Prop := Claim7.holds Tryd.pinned (.plain (OpenSpec.ofChange digestPartsSpec)) digestPartsCard

/-- THE TIED CARD OF 'hallmarklaw02.DigestSaves'. -/
def digestSavesCard : Claim7 := { stood := { row := digestSavesRow, standIns := [], harness := (true, "03c1b5032e20b6ced074e81e69f91cffa4dac33fc8337f3d432aed401b8aa6e4"), looks := false }, kinds := [], alts := [], laidByText := true, laidKinds := [.data], laidTests := true, laidLooks := .later }
def DigestSavesCardSaid : Prop := Claim7.holds Tryd.pinned (.plain (OpenSpec.ofChange digestSavesSpec)) digestSavesCard

/-- THE TIED CARD OF 'hallmarklaw02.DigestLoads'. -/
def digestLoadsCard : Claim7 := { stood := { row := digestLoadsRow, standIns := [], harness := (true, "03c1b5032e20b6ced074e81e69f91cffa4dac33fc8337f3d432aed401b8aa6e4"), looks := false }, kinds := [], alts := [], laidByText := true, laidKinds := [.data], laidTests := true, laidLooks := .later }
def DigestLoadsCardSaid : Prop := Claim7.holds Tryd.pinned (.plain (OpenSpec.ofChange digestLoadsSpec)) digestLoadsCard

/-- THE SECOND FORM's CARD OF 'hallmarklaw04.ChainSteps'. -/
def chainStepsUptoCard : Claim7 := { stood := { row := chainStepsUptoRow, standIns := [], harness := (true, "03c1b5032e20b6ced074e81e69f91cffa4dac33fc8337f3d432aed401b8aa6e4"), looks := false }, kinds := [], alts := [], laidByText := true, laidKinds := [.data], laidTests := true, laidLooks := .later }
def ChainStepsUptoCardSaid : Prop := Claim7.holds Tryd.pinned (.plain (OpenSpec.upto chainStepsSpec)) chainStepsUptoCard

/-- THE SECOND FORM's CARD OF 'hallmarklaw04.ChainClimbs'. -/
def chainClimbsUptoCard : Claim7 := { stood := { row := chainClimbsUptoRow, standIns := [], harness := (true, "03c1b5032e20b6ced074e81e69f91cffa4dac33fc8337f3d432aed401b8aa6e4"), looks := false }, kinds := [], alts := [], laidByText := true, laidKinds := [.data], laidTests := true, laidLooks := .later }
def ChainClimbsUptoCardSaid : Prop := Claim7.holds Tryd.pinned (.plain (OpenSpec.upto chainClimbsSpec)) chainClimbsUptoCard

/-- THE SECOND FORM's CARD OF 'hallmarklaw04.ChainDigits'. -/
def chainDigitsUptoCard : Claim7 := { stood := { row := chainDigitsUptoRow, standIns := [], harness := (true, "03c1b5032e20b6ced074e81e69f91cffa4dac33fc8337f3d432aed401b8aa6e4"), looks := false }, kinds := [], alts := [], laidByText := true, laidKinds := [.data], laidTests := true, laidLooks := .later }
def ChainDigitsUptoCardSaid : Prop := Claim7.holds Tryd.pinned (.plain (OpenSpec.upto chainDigitsSpec)) chainDigitsUptoCard

/-- THE SECOND FORM's CARD OF 'hallmarklaw04.ChainCrosses'. -/
def chainCrossesUptoCard : Claim7 := { stood := { row := chainCrossesUptoRow, standIns := [], harness := (true, "03c1b5032e20b6ced074e81e69f91cffa4dac33fc8337f3d432aed401b8aa6e4"), looks := false }, kinds := [], alts := [], laidByText := true, laidKinds := [.data], laidTests := true, laidLooks := .later }
def ChainCrossesUptoCardSaid : Prop := Claim7.holds Tryd.pinned (.plain (OpenSpec.upto chainCrossesSpec)) chainCrossesUptoCard

/-- THE SECOND FORM's CARD OF 'hallmarklaw04.ChainSigns'. -/
def chainSignsUptoCard : Claim7 := { stood := { row := chainSignsUptoRow, standIns := [], harness := (true, "03c1b5032e20b6ced074e81e69f91cffa4dac33fc8337f3d432aed401b8aa6e4"), looks := false }, kinds := [], alts := [], laidByText := true, laidKinds := [.data], laidTests := true, laidLooks := .later }
def ChainSignsUptoCardSaid : Prop := Claim7.holds Tryd.pinned (.plain (OpenSpec.upto chainSignsSpec)) chainSignsUptoCard

/-- THE SECOND FORM's CARD OF 'hallmarklaw04.ChainRecovers'. -/
def chainRecoversUptoCard : Claim7 := { stood := { row := chainRecoversUptoRow, standIns := [], harness := (true, "03c1b5032e20b6ced074e81e69f91cffa4dac33fc8337f3d432aed401b8aa6e4"), looks := false }, kinds := [], alts := [], laidByText := true, laidKinds := [.data], laidTests := true, laidLooks := .later }
def ChainRecoversUptoCardSaid : Prop := Claim7.holds Tryd.pinned (.plain (OpenSpec.upto chainRecoversSpec)) chainRecoversUptoCard

/-- THE SECOND FORM's CARD OF 'hallmarklaw04.ChainForges'. -/
def chainForgesUptoCard : Claim7 := { stood := { row := chainForgesUptoRow, standIns := [], harness := (true, "03c1b5032e20b6ced074e81e69f91cffa4dac33fc8337f3d432aed401b8aa6e4"), looks := false }, kinds := [], alts := [], laidByText := true, laidKinds := [.data], laidTests := true, laidLooks := .later }
def ChainForgesUptoCardSaid : Prop := Claim7.holds Tryd.pinned (.plain (OpenSpec.upto chainForgesSpec)) chainForgesUptoCard

/-- THE SECOND FORM's CARD OF 'hallmarklaw02.DigestPads'. -/
def digestPadsUptoCard : Claim7 := { stood := { row := digestPadsUptoRow, standIns := [], harness := (true, "03c1b5032e20b6ced074e81e69f91cffa4dac33fc8337f3d432aed401b8aa6e4"), looks := false }, kinds := [], alts := [], laidByText := true, laidKinds := [.data], laidTests := true, laidLooks := .later }
def DigestPadsUptoCardSaid : Prop := Claim7.holds Tryd.pinned (.plain (OpenSpec.upto digestPadsSpec)) digestPadsUptoCard

/-- THE SECOND FORM's CARD OF 'hallmarklaw02.DigestParts'. -/
def digestPartsUptoCard : Claim7 := { stood := { row := digestPartsUptoRow, standIns := [], harness := (true, "03c1b5032e20b6ced074e81e69f91cffa4dac33fc8337f3d432aed401b8aa6e4"), looks := false }, kinds := [], alts := [], laidByText := true, laidKinds := [.data], laidTests := true, laidLooks := .later }
def DigestPartsUptoCardSaid : Prop := Claim7.holds Tryd.pinned (.plain (OpenSpec.upto digestPartsSpec)) digestPartsUptoCard

/-- THE SECOND FORM's CARD OF 'hallmarklaw02.DigestSaves'. -/
def digestSavesUptoCard : Claim7 := { stood := { row := digestSavesUptoRow, standIns := [], harness := (true, "03c1b5032e20b6ced074e81e69f91cffa4dac33fc8337f3d432aed401b8aa6e4"), looks := false }, kinds := [], alts := [], laidByText := true, laidKinds := [.data], laidTests := true, laidLooks := .later }
def DigestSavesUptoCardSaid : Prop := Claim7.holds Tryd.pinned (.plain (OpenSpec.upto digestSavesSpec)) digestSavesUptoCard

/-- THE SECOND FORM's CARD OF 'hallmarklaw02.DigestLoads'. -/
def digestLoadsUptoCard : Claim7 := { stood := { row := digestLoadsUptoRow, standIns := [], harness := (true, "03c1b5032e20b6ced074e81e69f91cffa4dac33fc8337f3d432aed401b8aa6e4"), looks := false }, kinds := [], alts := [], laidByText := true, laidKinds := [.data], laidTests := true, laidLooks := .later }
def DigestLoadsUptoCardSaid : Prop := Claim7.holds Tryd.pinned (.plain (OpenSpec.upto digestLoadsSpec)) digestLoadsUptoCard
end Rows
end Go.Proofs.YtealeefkeikcbabDoor
