/-
  DERIVED. GIVEN WITH THE SEED: THE CARDS: each row of YtcjlbonflecbkaaDoorRows.lean that lists a variable, with what it lists TIED to the program's text (the seventh form; the later family's looks); each row that meets fmt, with fmt's text TOLD by the authors' own Lean function (tested against real Go, not proved from fmt's source: count such statements apart). THE CARD IS WHAT COUNTS. Prove the row's statement (the work); the ties are given (YtcjlbonflecbkaaDoorTie.lean); close each card by the builder's one call (the guide's Derived/Test/ToyasCard.lean, 'card_holds'). Laid BY PROGRAM, IN A SANDBOX (cutbox-door.mjs). By AI agents, Wed Nov 11 2026. No macro, syntax, notation, axiom, sorry.
-/
import Derived.Test.YtcjlbonflecbkaaDoorRows
import GoSem.ClaimSeven
namespace Go.Proofs.YtcjlbonflecbkaaDoor
namespace Rows

/-- THE TIED CARD OF 'hallmarklaw12.BlobRight'. -/
def blobRightCard : Claim7 := { stood := { row := blobRightRow, standIns := [], harness := (true, "112c10d660b225ebf7b7a74e13e38db85dd0659a5f86b45e4384440507a4ccc4"), looks := false }, kinds := [], alts := [], laidByText := true, laidKinds := [.data], laidTests := true, laidLooks := .later }
def BlobRightCardSaid : Prop := Claim7.holds Tryd.pinned (.plain (OpenSpec.ofChange blobRightSpec)) blobRightCard

/-- THE TIED CARD OF 'hallmarklaw12.BlobOnce'. -/
def blobOnceCard : Claim7 := { stood := { row := blobOnceRow, standIns := [], harness := (true, "112c10d660b225ebf7b7a74e13e38db85dd0659a5f86b45e4384440507a4ccc4"), looks := false }, kinds := [], alts := [], laidByText := true, laidKinds := [.data], laidTests := true, laidLooks := .later }
def BlobOnceCardSaid : Prop := Claim7.holds Tryd.pinned (.plain (OpenSpec.ofChange blobOnceSpec)) blobOnceCard

/-- THE TIED CARD OF 'hallmarklaw12.BlobAdopts'. -/
def blobAdoptsCard : Claim7 := { stood := { row := blobAdoptsRow, standIns := [], harness := (true, "112c10d660b225ebf7b7a74e13e38db85dd0659a5f86b45e4384440507a4ccc4"), looks := false }, kinds := [], alts := [], laidByText := true, laidKinds := [.data], laidTests := true, laidLooks := .later }
def BlobAdoptsCardSaid : Prop := Claim7.holds Tryd.pinned (.plain (OpenSpec.ofChange blobAdoptsSpec)) blobAdoptsCard

/-- THE TIED CARD OF 'hallmarklaw12.BlobNil'. -/
def blobNilCard : Claim7 := { stood := { row := blobNilRow, standIns := [], harness := (true, "112c10d660b225ebf7b7a74e13e38db85dd0659a5f86b45e4384440507a4ccc4"), looks := false }, kinds := [], alts := [], laidByText := true, laidKinds := [.data], laidTests := true, laidLooks := .later }
def BlobNilCardSaid : Prop := Claim7.holds Tryd.pinned (.plain (OpenSpec.ofChange blobNilSpec)) blobNilCard

/-- THE SECOND FORM's CARD OF 'hallmarklaw12.BlobRight'. -/
def blobRightUptoCard : Claim7 := { stood := { row := blobRightUptoRow, standIns := [], harness := (true, "112c10d660b225ebf7b7a74e13e38db85dd0659a5f86b45e4384440507a4ccc4"), looks := false }, kinds := [], alts := [], laidByText := true, laidKinds := [.data], laidTests := true, laidLooks := .later }
def BlobRightUptoCardSaid : Prop := Claim7.holds Tryd.pinned (.plain (OpenSpec.upto blobRightSpec)) blobRightUptoCard

/-- THE SECOND FORM's CARD OF 'hallmarklaw12.BlobOnce'. -/
def blobOnceUptoCard : Claim7 := { stood := { row := blobOnceUptoRow, standIns := [], harness := (true, "112c10d660b225ebf7b7a74e13e38db85dd0659a5f86b45e4384440507a4ccc4"), looks := false }, kinds := [], alts := [], laidByText := true, laidKinds := [.data], laidTests := true, laidLooks := .later }
def BlobOnceUptoCardSaid : Prop := Claim7.holds Tryd.pinned (.plain (OpenSpec.upto blobOnceSpec)) blobOnceUptoCard

/-- THE SECOND FORM's CARD OF 'hallmarklaw12.BlobAdopts'. -/
def blobAdoptsUptoCard : Claim7 := { stood := { row := blobAdoptsUptoRow, standIns := [], harness := (true, "112c10d660b225ebf7b7a74e13e38db85dd0659a5f86b45e4384440507a4ccc4"), looks := false }, kinds := [], alts := [], laidByText := true, laidKinds := [.data], laidTests := true, laidLooks := .later }
def BlobAdoptsUptoCardSaid : Prop := Claim7.holds Tryd.pinned (.plain (OpenSpec.upto blobAdoptsSpec)) blobAdoptsUptoCard

/-- THE SECOND FORM's CARD OF 'hallmarklaw12.BlobNil'. -/
def blobNilUptoCard : Claim7 := { stood := { row := blobNilUptoRow, standIns := [], harness := (true, "112c10d660b225ebf7b7a74e13e38db85dd0659a5f86b45e4384440507a4ccc4"), looks := false }, kinds := [], alts := [], laidByText := true, laidKinds := [.data], laidTests := true, laidLooks := .later }
def BlobNilUptoCardSaid : Prop := Claim7.holds Tryd.pinned (.plain (OpenSpec.upto blobNilSpec)) blobNilUptoCard
end Rows
end Go.Proofs.YtcjlbonflecbkaaDoor
