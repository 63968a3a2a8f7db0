/-
  DERIVED. GIVEN WITH THE SEED: THE CARDS: each row of YtlbnikkpfhclgaaDoorRows.lean that lists a variable, with what it lists TIED to the program's text (the seventh form; the later family's looks); each row that meets fmt, with fmt's text TOLD by the authors' own Lean function (tested against real Go, not proved from fmt's source: count such statements apart). THE CARD IS WHAT COUNTS. Prove the row's statement (the work); the ties are given (YtlbnikkpfhclgaaDoorTie.lean); close each card by the builder's one call (the guide's Derived/Test/ToyasCard.lean, 'card_holds'). Laid BY PROGRAM, IN A SANDBOX (cutbox-door.mjs). By AI agents, Wed Nov 11 2026. No macro, syntax, notation, axiom, sorry.
-/
import Derived.Test.YtlbnikkpfhclgaaDoorRows
import GoSem.ClaimSeven
namespace Go.Proofs.YtlbnikkpfhclgaaDoor
namespace Rows

/-- THE TIED CARD OF 'umbellaw07.PageTells'. -/
def pageTellsCard : Claim7 := { stood := { row := pageTellsRow, standIns := [], harness := (true, "da8e7676cb4c96d6c9de50bf83f4826a86e4971bf17f4ba7e200ff5b390d968a"), looks := false }, kinds := [], alts := [], laidByText := true, laidKinds := [.data], laidTests := true, laidLooks := .later }
def PageTellsCardSaid : Prop := Claim7.holds Tryd.pinned (.plain (OpenSpec.ofChange pageTellsSpec)) pageTellsCard

/-- THE TIED CARD OF 'umbellaw07.PageBack'. -/
def pageBackCard : Claim7 := { stood := { row := pageBackRow, standIns := [], harness := (true, "da8e7676cb4c96d6c9de50bf83f4826a86e4971bf17f4ba7e200ff5b390d968a"), looks := false }, kinds := [], alts := [], laidByText := true, laidKinds := [.data], laidTests := true, laidLooks := .later }
def PageBackCardSaid : Prop := Claim7.holds Tryd.pinned (.plain (OpenSpec.ofChange pageBackSpec)) pageBackCard

/-- THE TIED CARD OF 'umbellaw07.PagePlaces'. -/
def pagePlacesCard : Claim7 := { stood := { row := pagePlacesRow, standIns := [], harness := (true, "da8e7676cb4c96d6c9de50bf83f4826a86e4971bf17f4ba7e200ff5b390d968a"), looks := false }, kinds := [], alts := [], laidByText := true, laidKinds := [.data], laidTests := true, laidLooks := .later }
def PagePlacesCardSaid : Prop := Claim7.holds Tryd.pinned (.plain (OpenSpec.ofChange pagePlacesSpec)) pagePlacesCard

/-- THE SECOND FORM's CARD OF 'umbellaw07.PageTells'. -/
def pageTellsUptoCard : Claim7 := { stood := { row := pageTellsUptoRow, standIns := [], harness := (true, "da8e7676cb4c96d6c9de50bf83f4826a86e4971bf17f4ba7e200ff5b390d968a"), looks := false }, kinds := [], alts := [], laidByText := true, laidKinds := [.data], laidTests := true, laidLooks := .later }
def PageTellsUptoCardSaid : Prop := Claim7.holds Tryd.pinned (.plain (OpenSpec.upto pageTellsSpec)) pageTellsUptoCard

/-- THE SECOND FORM's CARD OF 'umbellaw07.PageBack'. -/
def pageBackUptoCard : Claim7 := { stood := { row := pageBackUptoRow, standIns := [], harness := (true, "da8e7676cb4c96d6c9de50bf83f4826a86e4971bf17f4ba7e200ff5b390d968a"), looks := false }, kinds := [], alts := [], laidByText := true, laidKinds := [.data], laidTests := true, laidLooks := .later }
def PageBackUptoCardSaid : Prop := Claim7.holds Tryd.pinned (.plain (OpenSpec.upto pageBackSpec)) pageBackUptoCard

/-- THE SECOND FORM's CARD OF 'umbellaw07.PagePlaces'. -/
def pagePlacesUptoCard : Claim7 := { stood := { row := pagePlacesUptoRow, standIns := [], harness := (true, "da8e7676cb4c96d6c9de50bf83f4826a86e4971bf17f4ba7e200ff5b390d968a"), looks := false }, kinds := [], alts := [], laidByText := true, laidKinds := [.data], laidTests := true, laidLooks := .later }
def PagePlacesUptoCardSaid : Prop := Claim7.holds Tryd.pinned (.plain (OpenSpec.upto pagePlacesSpec)) pagePlacesUptoCard
end Rows
end Go.Proofs.YtlbnikkpfhclgaaDoor
