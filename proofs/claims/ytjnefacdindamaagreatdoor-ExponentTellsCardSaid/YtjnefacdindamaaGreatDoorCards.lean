/-
  DERIVED. GIVEN WITH THE SEED: THE CARDS: each row of YtjnefacdindamaaGreatDoorRows.lean that lists a variable, with what it lists TIED to the program's text (the seventh form; the later family's looks); each row that meets fmt, with fmt's text TOLD by the authors' own Lean function (tested against real Go, not proved from fmt's source: count such statements apart). THE CARD IS WHAT COUNTS. Prove the row's statement (the work); the ties are given (YtjnefacdindamaaGreatDoorTie.lean); close each card by the builder's one call (the guide's Derived/Test/ToyasCard.lean, 'card_holds'). Laid BY PROGRAM, IN A SANDBOX (cutbox-door.mjs). By AI agents, Wed Nov 11 2026. No macro, syntax, notation, axiom, sorry.
-/
import Derived.Test.YtjnefacdindamaaGreatDoorRows
import GoSem.ClaimSeven
namespace Go.Proofs.YtjnefacdindamaaGreatDoor
namespace Rows

/-- THE TIED CARD OF 'lodgelaw14.ExponentTells'. -/
def exponentTellsCard : Claim7 := { stood := { row := exponentTellsRow, standIns := [], harness := (true, "1c284188df38db22c8ada10d277001fb4ca4c7ce6ff422ec1a5f3c814dadcab9"), looks := false }, kinds := [], alts := [], laidByText := true, laidKinds := [.data, .data, .data], laidTests := true, laidLooks := .later }
def ExponentTellsCardSaid : Prop := Claim7.holds Tryz.pinned (.plain (OpenSpec.ofChange exponentTellsSpec)) exponentTellsCard

/-- THE TIED CARD OF 'lodgelaw14.ExponentHalves'. -/
def exponentHalvesCard : Claim7 := { stood := { row := exponentHalvesRow, standIns := [], harness := (true, "1c284188df38db22c8ada10d277001fb4ca4c7ce6ff422ec1a5f3c814dadcab9"), looks := false }, kinds := [], alts := [], laidByText := true, laidKinds := [.data, .data, .data], laidTests := true, laidLooks := .later }
def ExponentHalvesCardSaid : Prop := Claim7.holds Tryz.pinned (.plain (OpenSpec.ofChange exponentHalvesSpec)) exponentHalvesCard

/-- THE TIED CARD OF 'lodgelaw14.ExponentOwn'. -/
def exponentOwnCard : Claim7 := { stood := { row := exponentOwnRow, standIns := [], harness := (true, "1c284188df38db22c8ada10d277001fb4ca4c7ce6ff422ec1a5f3c814dadcab9"), looks := false }, kinds := [], alts := [], laidByText := true, laidKinds := [.data, .data, .data], laidTests := true, laidLooks := .later }
def ExponentOwnCardSaid : Prop := Claim7.holds Tryz.pinned (.plain (OpenSpec.ofChange exponentOwnSpec)) exponentOwnCard

/-- THE TIED CARD OF 'lodgelaw14.ExponentForms'. -/
def exponentFormsCard : Claim7 := { stood := { row := exponentFormsRow, standIns := [], harness := (true, "1c284188df38db22c8ada10d277001fb4ca4c7ce6ff422ec1a5f3c814dadcab9"), looks := false }, kinds := [], alts := [], laidByText := true, laidKinds := [.data, .data, .data], laidTests := true, laidLooks := .later }
def ExponentFormsCardSaid : Prop := Claim7.holds Tryz.pinned (.plain (OpenSpec.ofChange exponentFormsSpec)) exponentFormsCard

/-- THE TIED CARD OF 'lodgelaw14.ExponentPlaces'. -/
def exponentPlacesCard : Claim7 := { stood := { row := exponentPlacesRow, standIns := [], harness := (true, "1c284188df38db22c8ada10d277001fb4ca4c7ce6ff422ec1a5f3c814dadcab9"), looks := false }, kinds := [], alts := [], laidByText := true, laidKinds := [.data, .data, .data], laidTests := true, laidLooks := .later }
def ExponentPlacesCardSaid : Prop := Claim7.holds Tryz.pinned (.plain (OpenSpec.ofChange exponentPlacesSpec)) exponentPlacesCard

/-- THE SECOND FORM's CARD OF 'lodgelaw14.ExponentTells'. -/
def exponentTellsUptoCard : Claim7 := { stood := { row := exponentTellsUptoRow, standIns := [], harness := (true, "1c284188df38db22c8ada10d277001fb4ca4c7ce6ff422ec1a5f3c814dadcab9"), looks := false }, kinds := [], alts := [], laidByText := true, laidKinds := [.data, .data, .data], laidTests := true, laidLooks := .later }
def ExponentTellsUptoCardSaid : Prop := Claim7.holds Tryz.pinned (.plain (OpenSpec.upto exponentTellsSpec)) exponentTellsUptoCard

/-- THE SECOND FORM's CARD OF 'lodgelaw14.ExponentHalves'. -/
def exponentHalvesUptoCard : Claim7 := { stood := { row := exponentHalvesUptoRow, standIns := [], harness := (true, "1c284188df38db22c8ada10d277001fb4ca4c7ce6ff422ec1a5f3c814dadcab9"), looks := false }, kinds := [], alts := [], laidByText := true, laidKinds := [.data, .data, .data], laidTests := true, laidLooks := .later }
def ExponentHalvesUptoCardSaid : Prop := Claim7.holds Tryz.pinned (.plain (OpenSpec.upto exponentHalvesSpec)) exponentHalvesUptoCard

/-- THE SECOND FORM's CARD OF 'lodgelaw14.ExponentOwn'. -/
def exponentOwnUptoCard : Claim7 := { stood := { row := exponentOwnUptoRow, standIns := [], harness := (true, "1c284188df38db22c8ada10d277001fb4ca4c7ce6ff422ec1a5f3c814dadcab9"), looks := false }, kinds := [], alts := [], laidByText := true, laidKinds := [.data, .data, .data], laidTests := true, laidLooks := .later }
def ExponentOwnUptoCardSaid : Prop := Claim7.holds Tryz.pinned (.plain (OpenSpec.upto exponentOwnSpec)) exponentOwnUptoCard

/-- THE SECOND FORM's CARD OF 'lodgelaw14.ExponentForms'. -/
def exponentFormsUptoCard : Claim7 := { stood := { row := exponentFormsUptoRow, standIns := [], harness := (true, "1c284188df38db22c8ada10d277001fb4ca4c7ce6ff422ec1a5f3c814dadcab9"), looks := false }, kinds := [], alts := [], laidByText := true, laidKinds := [.data, .data, .data], laidTests := true, laidLooks := .later }
def ExponentFormsUptoCardSaid : Prop := Claim7.holds Tryz.pinned (.plain (OpenSpec.upto exponentFormsSpec)) exponentFormsUptoCard

/-- THE SECOND FORM's CARD OF 'lodgelaw14.ExponentPlaces'. -/
def exponentPlacesUptoCard : Claim7 := { stood := { row := exponentPlacesUptoRow, standIns := [], harness := (true, "1c284188df38db22c8ada10d277001fb4ca4c7ce6ff422ec1a5f3c814dadcab9"), looks := false }, kinds := [], alts := [], laidByText := true, laidKinds := [.data, .data, .data], laidTests := true, laidLooks := .later }
def ExponentPlacesUptoCardSaid : Prop := Claim7.holds Tryz.pinned (.plain (OpenSpec.upto exponentPlacesSpec)) exponentPlacesUptoCard
end Rows
end Go.Proofs.YtjnefacdindamaaGreatDoor
