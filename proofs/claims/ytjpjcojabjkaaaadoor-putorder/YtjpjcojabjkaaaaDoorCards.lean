/-
  DERIVED. GIVEN WITH THE SEED: THE CARDS: each row of YtjpjcojabjkaaaaDoorRows.lean that lists a variable, with what it lists TIED to the program's text (the seventh form; the later family's looks); each row that meets fmt, with fmt's text TOLD by the authors' own Lean function (tested against real Go, not proved from fmt's source: count such statements apart). THE CARD IS WHAT COUNTS. Prove the row's statement (the work); the ties are given (YtjpjcojabjkaaaaDoorTie.lean); close each card by the builder's one call (the guide's Derived/Test/ToyasCard.lean, 'card_holds'). Laid BY PROGRAM, IN A SANDBOX (cutbox-door.mjs). By AI agents, Wed Nov 11 2026. No macro, syntax, notation, axiom, sorry.
-/
import Derived.Test.YtjpjcojabjkaaaaDoorRows
import GoSem.ClaimSeven
namespace Go.Proofs.YtjpjcojabjkaaaaDoor
namespace Rows

/-- THE TIED CARD OF 'umbellaw13.PutTells'. -/
def putTellsCard : Claim7 := { stood := { row := putTellsRow, standIns := [], harness := (true, "55f9a1d1dae7ebf001d611525c7753544648ddadd8f930c540ee2605e83329b9"), looks := false }, kinds := [], alts := [], laidByText := true, laidKinds := [.data], laidTests := true, laidLooks := .later }
def PutTellsCardSaid : Prop := Claim7.holds Tryd.pinned (.plain (OpenSpec.ofChange putTellsSpec)) putTellsCard

/-- THE TIED CARD OF 'umbellaw13.PutGets'. -/
def putGetsCard : Claim7 := { stood := { row := putGetsRow, standIns := [], harness := (true, "55f9a1d1dae7ebf001d611525c7753544648ddadd8f930c540ee2605e83329b9"), looks := false }, kinds := [], alts := [], laidByText := true, laidKinds := [.data], laidTests := true, laidLooks := .later }
def PutGetsCardSaid : Prop := Claim7.holds Tryd.pinned (.plain (OpenSpec.ofChange putGetsSpec)) putGetsCard

/-- THE TIED CARD OF 'umbellaw13.PutOrder'. -/
def putOrderCard : Claim7 := { stood := { row := putOrderRow, standIns := [], harness := (true, "55f9a1d1dae7ebf001d611525c7753544648ddadd8f930c540ee2605e83329b9"), looks := false }, kinds := [], alts := [], laidByText := true, laidKinds := [.data], laidTests := true, laidLooks := .later }
def PutOrderCardSaid : Prop := Claim7.holds Tryd.pinned (.plain (OpenSpec.ofChange putOrderSpec)) putOrderCard

/-- THE TIED CARD OF 'umbellaw13.PutNodes'. -/
def putNodesCard : Claim7 := { stood := { row := putNodesRow, standIns := [], harness := (true, "55f9a1d1dae7ebf001d611525c7753544648ddadd8f930c540ee2605e83329b9"), looks := false }, kinds := [], alts := [], laidByText := true, laidKinds := [.data], laidTests := true, laidLooks := .later }
def PutNodesCardSaid : Prop := Claim7.holds Tryd.pinned (.plain (OpenSpec.ofChange putNodesSpec)) putNodesCard

/-- THE TIED CARD OF 'umbellaw13.PutErrors'. -/
def putErrorsCard : Claim7 := { stood := { row := putErrorsRow, standIns := [], harness := (true, "55f9a1d1dae7ebf001d611525c7753544648ddadd8f930c540ee2605e83329b9"), looks := false }, kinds := [], alts := [], laidByText := true, laidKinds := [.data], laidTests := true, laidLooks := .later }
def PutErrorsCardSaid : Prop := Claim7.holds Tryd.pinned (.plain (OpenSpec.ofChange putErrorsSpec)) putErrorsCard

/-- THE SECOND FORM's CARD OF 'umbellaw13.PutTells'. -/
def putTellsUptoCard : Claim7 := { stood := { row := putTellsUptoRow, standIns := [], harness := (true, "55f9a1d1dae7ebf001d611525c7753544648ddadd8f930c540ee2605e83329b9"), looks := false }, kinds := [], alts := [], laidByText := true, laidKinds := [.data], laidTests := true, laidLooks := .later }
def PutTellsUptoCardSaid : Prop := Claim7.holds Tryd.pinned (.plain (OpenSpec.upto putTellsSpec)) putTellsUptoCard

/-- THE SECOND FORM's CARD OF 'umbellaw13.PutGets'. -/
def putGetsUptoCard : Claim7 := { stood := { row := putGetsUptoRow, standIns := [], harness := (true, "55f9a1d1dae7ebf001d611525c7753544648ddadd8f930c540ee2605e83329b9"), looks := false }, kinds := [], alts := [], laidByText := true, laidKinds := [.data], laidTests := true, laidLooks := .later }
def PutGetsUptoCardSaid : Prop := Claim7.holds Tryd.pinned (.plain (OpenSpec.upto putGetsSpec)) putGetsUptoCard

/-- THE SECOND FORM's CARD OF 'umbellaw13.PutOrder'. -/
def putOrderUptoCard : Claim7 := { stood := { row := putOrderUptoRow, standIns := [], harness := (true, "55f9a1d1dae7ebf001d611525c7753544648ddadd8f930c540ee2605e83329b9"), looks := false }, kinds := [], alts := [], laidByText := true, laidKinds := [.data], laidTests := true, laidLooks := .later }
def PutOrderUptoCardSaid : Prop := Claim7.holds Tryd.pinned (.plain (OpenSpec.upto putOrderSpec)) putOrderUptoCard

/-- THE SECOND FORM's CARD OF 'umbellaw13.PutNodes'. -/
def putNodesUptoCard : Claim7 := { stood := { row := putNodesUptoRow, standIns := [], harness := (true, "55f9a1d1dae7ebf001d611525c7753544648ddadd8f930c540ee2605e83329b9"), looks := false }, kinds := [], alts := [], laidByText := true, laidKinds := [.data], laidTests := true, laidLooks := .later }
def PutNodesUptoCardSaid : Prop := Claim7.holds Tryd.pinned (.plain (OpenSpec.upto putNodesSpec)) putNodesUptoCard

/-- THE SECOND FORM's CARD OF 'umbellaw13.PutErrors'. -/
def putErrorsUptoCard : Claim7 := { stood := { row := putErrorsUptoRow, standIns := [], harness := (true, "55f9a1d1dae7ebf001d611525c7753544648ddadd8f930c540ee2605e83329b9"), looks := false }, kinds := [], alts := [], laidByText := true, laidKinds := [.data], laidTests := true, laidLooks := .later }
def PutErrorsUptoCardSaid : Prop := Claim7.holds Tryd.pinned (.plain (OpenSpec.upto putErrorsSpec)) putErrorsUptoCard
end Rows
end Go.Proofs.YtjpjcojabjkaaaaDoor
