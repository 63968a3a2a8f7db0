/-
  DERIVED. GIVEN WITH THE SEED: THE CARDS: each row of YtimmbnipagnbfaaDoorRows.lean that lists a variable, with what it lists TIED to the program's text (the seventh form; the later family's looks); each row that meets fmt, with fmt's text TOLD by the authors' own Lean function (tested against real Go, not proved from fmt's source: count such statements apart). THE CARD IS WHAT COUNTS. Prove the row's statement (the work); the ties are given (YtimmbnipagnbfaaDoorTie.lean); close each card by the builder's one call (the guide's Derived/Test/ToyasCard.lean, 'card_holds'). Laid BY PROGRAM, IN A SANDBOX (cutbox-door.mjs). By AI agents, Wed Nov 11 2026. No macro, syntax, notation, axiom, sorry.
-/
import Derived.Test.YtimmbnipagnbfaaDoorRows
import GoSem.ClaimSeven
namespace Go.Proofs.YtimmbnipagnbfaaDoor
namespace Rows

/-- THE TIED CARD OF 'umbellaw12.GetTells'. -/
def getTellsCard : Claim7 := { stood := { row := getTellsRow, standIns := [], harness := (true, "2bf49b5f0dbfffc51dd568baf4b56bb4848142e385bf1e9ddcc2bb478d1bb1e7"), looks := false }, kinds := [], alts := [], laidByText := true, laidKinds := [.data], laidTests := true, laidLooks := .later }
def GetTellsCardSaid : Prop := Claim7.holds Tryd.pinned (.plain (OpenSpec.ofChange getTellsSpec)) getTellsCard

/-- THE TIED CARD OF 'umbellaw12.GetPairs'. -/
def getPairsCard : Claim7 := { stood := { row := getPairsRow, standIns := [], harness := (true, "2bf49b5f0dbfffc51dd568baf4b56bb4848142e385bf1e9ddcc2bb478d1bb1e7"), looks := false }, kinds := [], alts := [], laidByText := true, laidKinds := [.data], laidTests := true, laidLooks := .later }
def GetPairsCardSaid : Prop := Claim7.holds Tryd.pinned (.plain (OpenSpec.ofChange getPairsSpec)) getPairsCard

/-- THE TIED CARD OF 'umbellaw12.GetWalks'. -/
def getWalksCard : Claim7 := { stood := { row := getWalksRow, standIns := [], harness := (true, "2bf49b5f0dbfffc51dd568baf4b56bb4848142e385bf1e9ddcc2bb478d1bb1e7"), looks := false }, kinds := [], alts := [], laidByText := true, laidKinds := [.data], laidTests := true, laidLooks := .later }
def GetWalksCardSaid : Prop := Claim7.holds Tryd.pinned (.plain (OpenSpec.ofChange getWalksSpec)) getWalksCard

/-- THE TIED CARD OF 'umbellaw12.GetPrefix'. -/
def getPrefixCard : Claim7 := { stood := { row := getPrefixRow, standIns := [], harness := (true, "2bf49b5f0dbfffc51dd568baf4b56bb4848142e385bf1e9ddcc2bb478d1bb1e7"), looks := false }, kinds := [], alts := [], laidByText := true, laidKinds := [.data], laidTests := true, laidLooks := .later }
def GetPrefixCardSaid : Prop := Claim7.holds Tryd.pinned (.plain (OpenSpec.ofChange getPrefixSpec)) getPrefixCard

/-- THE TIED CARD OF 'umbellaw12.GetWay'. -/
def getWayCard : Claim7 := { stood := { row := getWayRow, standIns := [], harness := (true, "2bf49b5f0dbfffc51dd568baf4b56bb4848142e385bf1e9ddcc2bb478d1bb1e7"), looks := false }, kinds := [], alts := [], laidByText := true, laidKinds := [.data], laidTests := true, laidLooks := .later }
def GetWayCardSaid : Prop := Claim7.holds Tryd.pinned (.plain (OpenSpec.ofChange getWaySpec)) getWayCard

/-- THE SECOND FORM's CARD OF 'umbellaw12.GetTells'. -/
def getTellsUptoCard : Claim7 := { stood := { row := getTellsUptoRow, standIns := [], harness := (true, "2bf49b5f0dbfffc51dd568baf4b56bb4848142e385bf1e9ddcc2bb478d1bb1e7"), looks := false }, kinds := [], alts := [], laidByText := true, laidKinds := [.data], laidTests := true, laidLooks := .later }
def GetTellsUptoCardSaid : Prop := Claim7.holds Tryd.pinned (.plain (OpenSpec.upto getTellsSpec)) getTellsUptoCard

/-- THE SECOND FORM's CARD OF 'umbellaw12.GetPairs'. -/
def getPairsUptoCard : Claim7 := { stood := { row := getPairsUptoRow, standIns := [], harness := (true, "2bf49b5f0dbfffc51dd568baf4b56bb4848142e385bf1e9ddcc2bb478d1bb1e7"), looks := false }, kinds := [], alts := [], laidByText := true, laidKinds := [.data], laidTests := true, laidLooks := .later }
def GetPairsUptoCardSaid : Prop := Claim7.holds Tryd.pinned (.plain (OpenSpec.upto getPairsSpec)) getPairsUptoCard

/-- THE SECOND FORM's CARD OF 'umbellaw12.GetWalks'. -/
def getWalksUptoCard : Claim7 := { stood := { row := getWalksUptoRow, standIns := [], harness := (true, "2bf49b5f0dbfffc51dd568baf4b56bb4848142e385bf1e9ddcc2bb478d1bb1e7"), looks := false }, kinds := [], alts := [], laidByText := true, laidKinds := [.data], laidTests := true, laidLooks := .later }
def GetWalksUptoCardSaid : Prop := Claim7.holds Tryd.pinned (.plain (OpenSpec.upto getWalksSpec)) getWalksUptoCard

/-- THE SECOND FORM's CARD OF 'umbellaw12.GetPrefix'. -/
def getPrefixUptoCard : Claim7 := { stood := { row := getPrefixUptoRow, standIns := [], harness := (true, "2bf49b5f0dbfffc51dd568baf4b56bb4848142e385bf1e9ddcc2bb478d1bb1e7"), looks := false }, kinds := [], alts := [], laidByText := true, laidKinds := [.data], laidTests := true, laidLooks := .later }
def GetPrefixUptoCardSaid : Prop := Claim7.holds Tryd.pinned (.plain (OpenSpec.upto getPrefixSpec)) getPrefixUptoCard

/-- THE SECOND FORM's CARD OF 'umbellaw12.GetWay'. -/
def getWayUptoCard : Claim7 := { stood := { row := getWayUptoRow, standIns := [], harness := (true, "2bf49b5f0dbfffc51dd568baf4b56bb4848142e385bf1e9ddcc2bb478d1bb1e7"), looks := false }, kinds := [], alts := [], laidByText := true, laidKinds := [.data], laidTests := true, laidLooks := .later }
def GetWayUptoCardSaid : Prop := Claim7.holds Tryd.pinned (.plain (OpenSpec.upto getWaySpec)) getWayUptoCard
end Rows
end Go.Proofs.YtimmbnipagnbfaaDoor
