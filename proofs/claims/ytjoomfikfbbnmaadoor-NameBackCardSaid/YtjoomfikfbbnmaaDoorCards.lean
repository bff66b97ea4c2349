/-
  DERIVED. GIVEN WITH THE SEED: THE CARDS: each row of YtjoomfikfbbnmaaDoorRows.lean that lists a variable, with what it lists TIED to the program's text (the seventh form; the later family's looks); each row that meets fmt, with fmt's text TOLD by the authors' own Lean function (tested against real Go, not proved from fmt's source: count such statements apart). THE CARD IS WHAT COUNTS. Prove the row's statement (the work); the ties are given (YtjoomfikfbbnmaaDoorTie.lean); close each card by the builder's one call (the guide's Derived/Test/ToyasCard.lean, 'card_holds'). Laid BY PROGRAM, IN A SANDBOX (cutbox-door.mjs). By AI agents, Wed Nov 11 2026. No macro, syntax, notation, axiom, sorry.
-/
import Derived.Test.YtjoomfikfbbnmaaDoorRows
import GoSem.ClaimSeven
namespace Go.Proofs.YtjoomfikfbbnmaaDoor
namespace Rows

/-- THE TIED CARD OF 'hallmarklaw07.NameRepos'. -/
def nameReposCard : Claim7 := { stood := { row := nameReposRow, standIns := [], harness := (true, "09e72aa04e76db94c8874cd9cc2fccf79a6f7550aabd5ab3f5904d10900252e4"), looks := false }, kinds := [], alts := [], laidByText := true, laidKinds := [.data, .pinned], laidTests := true, laidLooks := .later }
def NameReposCardSaid : Prop := Claim7.holds Tryd.pinned (.plain (OpenSpec.ofChange nameReposSpec)) nameReposCard

/-- THE TIED CARD OF 'hallmarklaw07.NameTags'. -/
def nameTagsCard : Claim7 := { stood := { row := nameTagsRow, standIns := [], harness := (true, "09e72aa04e76db94c8874cd9cc2fccf79a6f7550aabd5ab3f5904d10900252e4"), looks := false }, kinds := [], alts := [], laidByText := true, laidKinds := [.data, .pinned], laidTests := true, laidLooks := .later }
def NameTagsCardSaid : Prop := Claim7.holds Tryd.pinned (.plain (OpenSpec.ofChange nameTagsSpec)) nameTagsCard

/-- THE TIED CARD OF 'hallmarklaw07.NameMedias'. -/
def nameMediasCard : Claim7 := { stood := { row := nameMediasRow, standIns := [], harness := (true, "09e72aa04e76db94c8874cd9cc2fccf79a6f7550aabd5ab3f5904d10900252e4"), looks := false }, kinds := [], alts := [], laidByText := true, laidKinds := [.data, .pinned], laidTests := true, laidLooks := .later }
def NameMediasCardSaid : Prop := Claim7.holds Tryd.pinned (.plain (OpenSpec.ofChange nameMediasSpec)) nameMediasCard

/-- THE TIED CARD OF 'hallmarklaw07.NameParts'. -/
def namePartsCard : Claim7 := { stood := { row := namePartsRow, standIns := [], harness := (true, "09e72aa04e76db94c8874cd9cc2fccf79a6f7550aabd5ab3f5904d10900252e4"), looks := false }, kinds := [], alts := [], laidByText := true, laidKinds := [.data, .pinned], laidTests := true, laidLooks := .later }
def NamePartsCardSaid : Prop := Claim7.holds Tryd.pinned (.plain (OpenSpec.ofChange namePartsSpec)) namePartsCard

/-- THE TIED CARD OF 'hallmarklaw07.NameReads'. -/
def nameReadsCard : Claim7 := { stood := { row := nameReadsRow, standIns := [], harness := (true, "09e72aa04e76db94c8874cd9cc2fccf79a6f7550aabd5ab3f5904d10900252e4"), looks := false }, kinds := [], alts := [], laidByText := true, laidKinds := [.data, .pinned], laidTests := true, laidLooks := .later }
def NameReadsCardSaid : Prop := Claim7.holds Tryd.pinned (.plain (OpenSpec.ofChange nameReadsSpec)) nameReadsCard

/-- THE TIED CARD OF 'hallmarklaw07.NameShows'. -/
def nameShowsCard : Claim7 := { stood := { row := nameShowsRow, standIns := [], harness := (true, "09e72aa04e76db94c8874cd9cc2fccf79a6f7550aabd5ab3f5904d10900252e4"), looks := false }, kinds := [], alts := [], laidByText := true, laidKinds := [.data, .pinned], laidTests := true, laidLooks := .later }
def NameShowsCardSaid : Prop := Claim7.holds Tryd.pinned (.plain (OpenSpec.ofChange nameShowsSpec)) nameShowsCard

/-- THE TIED CARD OF 'hallmarklaw07.NameBack'. -/
def nameBackCard : Claim7 := { stood := { row := nameBackRow, standIns := [], harness := (true, "09e72aa04e76db94c8874cd9cc2fccf79a6f7550aabd5ab3f5904d10900252e4"), looks := false }, kinds := [], alts := [], laidByText := true, laidKinds := [.data, .pinned], laidTests := true, laidLooks := .later }
def NameBackCardSaid : Prop := Claim7.holds Tryd.pinned (.plain (OpenSpec.ofChange nameBackSpec)) nameBackCard

/-- THE SECOND FORM's CARD OF 'hallmarklaw07.NameRepos'. -/
def nameReposUptoCard : Claim7 := { stood := { row := nameReposUptoRow, standIns := [], harness := (true, "09e72aa04e76db94c8874cd9cc2fccf79a6f7550aabd5ab3f5904d10900252e4"), looks := false }, kinds := [], alts := [], laidByText := true, laidKinds := [.data, .pinned], laidTests := true, laidLooks := .later }
def NameReposUptoCardSaid : Prop := Claim7.holds Tryd.pinned (.plain (OpenSpec.upto nameReposSpec)) nameReposUptoCard

/-- THE SECOND FORM's CARD OF 'hallmarklaw07.NameTags'. -/
def nameTagsUptoCard : Claim7 := { stood := { row := nameTagsUptoRow, standIns := [], harness := (true, "09e72aa04e76db94c8874cd9cc2fccf79a6f7550aabd5ab3f5904d10900252e4"), looks := false }, kinds := [], alts := [], laidByText := true, laidKinds := [.data, .pinned], laidTests := true, laidLooks := .later }
def NameTagsUptoCardSaid : Prop := Claim7.holds Tryd.pinned (.plain (OpenSpec.upto nameTagsSpec)) nameTagsUptoCard

/-- THE SECOND FORM's CARD OF 'hallmarklaw07.NameMedias'. -/
def nameMediasUptoCard : Claim7 := { stood := { row := nameMediasUptoRow, standIns := [], harness := (true, "09e72aa04e76db94c8874cd9cc2fccf79a6f7550aabd5ab3f5904d10900252e4"), looks := false }, kinds := [], alts := [], laidByText := true, laidKinds := [.data, .pinned], laidTests := true, laidLooks := .later }
def NameMediasUptoCardSaid : Prop := Claim7.holds Tryd.pinned (.plain (OpenSpec.upto nameMediasSpec)) nameMediasUptoCard

/-- THE SECOND FORM's CARD OF 'hallmarklaw07.NameParts'. -/
def namePartsUptoCard : Claim7 := { stood := { row := namePartsUptoRow, standIns := [], harness := (true, "09e72aa04e76db94c8874cd9cc2fccf79a6f7550aabd5ab3f5904d10900252e4"), looks := false }, kinds := [], alts := [], laidByText := true, laidKinds := [.data, .pinned], laidTests := true, laidLooks := .later }
def NamePartsUptoCardSaid : Prop := Claim7.holds Tryd.pinned (.plain (OpenSpec.upto namePartsSpec)) namePartsUptoCard

/-- THE SECOND FORM's CARD OF 'hallmarklaw07.NameReads'. -/
def nameReadsUptoCard : Claim7 := { stood := { row := nameReadsUptoRow, standIns := [], harness := (true, "09e72aa04e76db94c8874cd9cc2fccf79a6f7550aabd5ab3f5904d10900252e4"), looks := false }, kinds := [], alts := [], laidByText := true, laidKinds := [.data, .pinned], laidTests := true, laidLooks := .later }
def NameReadsUptoCardSaid : Prop := Claim7.holds Tryd.pinned (.plain (OpenSpec.upto nameReadsSpec)) nameReadsUptoCard

/-- THE SECOND FORM's CARD OF 'hallmarklaw07.NameShows'. -/
def nameShowsUptoCard : Claim7 := { stood := { row := nameShowsUptoRow, standIns := [], harness := (true, "09e72aa04e76db94c8874cd9cc2fccf79a6f7550aabd5ab3f5904d10900252e4"), looks := false }, kinds := [], alts := [], laidByText := true, laidKinds := [.data, .pinned], laidTests := true, laidLooks := .later }
def NameShowsUptoCardSaid : Prop := Claim7.holds Tryd.pinned (.plain (OpenSpec.upto nameShowsSpec)) nameShowsUptoCard

/-- THE SECOND FORM's CARD OF 'hallmarklaw07.NameBack'. -/
def nameBackUptoCard : Claim7 := { stood := { row := nameBackUptoRow, standIns := [], harness := (true, "09e72aa04e76db94c8874cd9cc2fccf79a6f7550aabd5ab3f5904d10900252e4"), looks := false }, kinds := [], alts := [], laidByText := true, laidKinds := [.data, .pinned], laidTests := true, laidLooks := .later }
def NameBackUptoCardSaid : Prop := Claim7.holds Tryd.pinned (.plain (OpenSpec.upto nameBackSpec)) nameBackUptoCard
end Rows
end Go.Proofs.YtjoomfikfbbnmaaDoor
