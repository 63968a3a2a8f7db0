/-
  DERIVED. GIVEN WITH THE SEED: THE CARDS: each row of YtopnagligeihgaaDoorRows.lean that lists a variable, with what it lists TIED to the program's text (the seventh form; the later family's looks); each row that meets fmt, with fmt's text TOLD by the authors' own Lean function (tested against real Go, not proved from fmt's source: count such statements apart). THE CARD IS WHAT COUNTS. Prove the row's statement (the work); the ties are given (YtopnagligeihgaaDoorTie.lean); close each card by the builder's one call (the guide's Derived/Test/ToyasCard.lean, 'card_holds'). Laid BY PROGRAM, IN A SANDBOX (cutbox-door.mjs). By AI agents, Wed Nov 11 2026. No macro, syntax, notation, axiom, sorry.
-/
import Derived.Test.YtopnagligeihgaaDoorRows
import GoSem.ClaimSeven
namespace Go.Proofs.YtopnagligeihgaaDoor
namespace Rows

/-- THE TIED CARD OF 'umbellaw02.NibbleTells'. -/
def nibbleTellsCard : Claim7 := { stood := { row := nibbleTellsRow, standIns := [], harness := (true, "4ed8ba6602aa30e2de03589f498db00861738228f83d98f0982f4f6b4e24488c"), looks := false }, kinds := [], alts := [], laidByText := true, laidKinds := [.data], laidTests := true, laidLooks := .later }
def NibbleTellsCardSaid : Prop := Claim7.holds Tryd.pinned (.plain (OpenSpec.ofChange nibbleTellsSpec)) nibbleTellsCard

/-- THE TIED CARD OF 'umbellaw02.NibbleBack'. -/
def nibbleBackCard : Claim7 := { stood := { row := nibbleBackRow, standIns := [], harness := (true, "4ed8ba6602aa30e2de03589f498db00861738228f83d98f0982f4f6b4e24488c"), looks := false }, kinds := [], alts := [], laidByText := true, laidKinds := [.data], laidTests := true, laidLooks := .later }
def NibbleBackCardSaid : Prop := Claim7.holds Tryd.pinned (.plain (OpenSpec.ofChange nibbleBackSpec)) nibbleBackCard

/-- THE TIED CARD OF 'umbellaw02.NibbleCommon'. -/
def nibbleCommonCard : Claim7 := { stood := { row := nibbleCommonRow, standIns := [], harness := (true, "4ed8ba6602aa30e2de03589f498db00861738228f83d98f0982f4f6b4e24488c"), looks := false }, kinds := [], alts := [], laidByText := true, laidKinds := [.data], laidTests := true, laidLooks := .later }
def NibbleCommonCardSaid : Prop := Claim7.holds Tryd.pinned (.plain (OpenSpec.ofChange nibbleCommonSpec)) nibbleCommonCard

/-- THE TIED CARD OF 'umbellaw02.NibblePlaces'. -/
def nibblePlacesCard : Claim7 := { stood := { row := nibblePlacesRow, standIns := [], harness := (true, "4ed8ba6602aa30e2de03589f498db00861738228f83d98f0982f4f6b4e24488c"), looks := false }, kinds := [], alts := [], laidByText := true, laidKinds := [.data], laidTests := true, laidLooks := .later }
def NibblePlacesCardSaid : Prop := Claim7.holds Tryd.pinned (.plain (OpenSpec.ofChange nibblePlacesSpec)) nibblePlacesCard

/-- THE TIED CARD OF 'umbellaw02.NibbleOrder'. -/
def nibbleOrderCard : Claim7 := { stood := { row := nibbleOrderRow, standIns := [], harness := (true, "4ed8ba6602aa30e2de03589f498db00861738228f83d98f0982f4f6b4e24488c"), looks := false }, kinds := [], alts := [], laidByText := true, laidKinds := [.data], laidTests := true, laidLooks := .later }
def NibbleOrderCardSaid : Prop := Claim7.holds Tryd.pinned (.plain (OpenSpec.ofChange nibbleOrderSpec)) nibbleOrderCard

/-- THE SECOND FORM's CARD OF 'umbellaw02.NibbleTells'. -/
def nibbleTellsUptoCard : Claim7 := { stood := { row := nibbleTellsUptoRow, standIns := [], harness := (true, "4ed8ba6602aa30e2de03589f498db00861738228f83d98f0982f4f6b4e24488c"), looks := false }, kinds := [], alts := [], laidByText := true, laidKinds := [.data], laidTests := true, laidLooks := .later }
def NibbleTellsUptoCardSaid : Prop := Claim7.holds Tryd.pinned (.plain (OpenSpec.upto nibbleTellsSpec)) nibbleTellsUptoCard

/-- THE SECOND FORM's CARD OF 'umbellaw02.NibbleBack'. -/
def nibbleBackUptoCard : Claim7 := { stood := { row := nibbleBackUptoRow, standIns := [], harness := (true, "4ed8ba6602aa30e2de03589f498db00861738228f83d98f0982f4f6b4e24488c"), looks := false }, kinds := [], alts := [], laidByText := true, laidKinds := [.data], laidTests := true, laidLooks := .later }
def NibbleBackUptoCardSaid : Prop := Claim7.holds Tryd.pinned (.plain (OpenSpec.upto nibbleBackSpec)) nibbleBackUptoCard

/-- THE SECOND FORM's CARD OF 'umbellaw02.NibbleCommon'. -/
def nibbleCommonUptoCard : Claim7 := { stood := { row := nibbleCommonUptoRow, standIns := [], harness := (true, "4ed8ba6602aa30e2de03589f498db00861738228f83d98f0982f4f6b4e24488c"), looks := false }, kinds := [], alts := [], laidByText := true, laidKinds := [.data], laidTests := true, laidLooks := .later }
def NibbleCommonUptoCardSaid : Prop := Claim7.holds Tryd.pinned (.plain (OpenSpec.upto nibbleCommonSpec)) nibbleCommonUptoCard

/-- THE SECOND FORM's CARD OF 'umbellaw02.NibblePlaces'. -/
def nibblePlacesUptoCard : Claim7 := { stood := { row := nibblePlacesUptoRow, standIns := [], harness := (true, "4ed8ba6602aa30e2de03589f498db00861738228f83d98f0982f4f6b4e24488c"), looks := false }, kinds := [], alts := [], laidByText := true, laidKinds := [.data], laidTests := true, laidLooks := .later }
def NibblePlacesUptoCardSaid : Prop := Claim7.holds Tryd.pinned (.plain (OpenSpec.upto nibblePlacesSpec)) nibblePlacesUptoCard

/-- THE SECOND FORM's CARD OF 'umbellaw02.NibbleOrder'. -/
def nibbleOrderUptoCard : Claim7 := { stood := { row := nibbleOrderUptoRow, standIns := [], harness := (true, "4ed8ba6602aa30e2de03589f498db00861738228f83d98f0982f4f6b4e24488c"), looks := false }, kinds := [], alts := [], laidByText := true, laidKinds := [.data], laidTests := true, laidLooks := .later }
def NibbleOrderUptoCardSaid : Prop := Claim7.holds Tryd.pinned (.plain (OpenSpec.upto nibbleOrderSpec)) nibbleOrderUptoCard
end Rows
end Go.Proofs.YtopnagligeihgaaDoor
