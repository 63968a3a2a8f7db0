/-
  DERIVED. GIVEN WITH THE SEED: THE CARDS: each row of YtjikdbmdaeonlaaDoorRows.lean that lists a variable, with what it lists TIED to the program's text (the seventh form; the later family's looks); each row that meets fmt, with fmt's text TOLD by the authors' own Lean function (tested against real Go, not proved from fmt's source: count such statements apart). THE CARD IS WHAT COUNTS. Prove the row's statement (the work); the ties are given (YtjikdbmdaeonlaaDoorTie.lean); close each card by the builder's one call (the guide's Derived/Test/ToyasCard.lean, 'card_holds'). Laid BY PROGRAM, IN A SANDBOX (cutbox-door.mjs). By AI agents, Wed Nov 11 2026. No macro, syntax, notation, axiom, sorry.
-/
import Derived.Test.YtjikdbmdaeonlaaDoorRows
import GoSem.ClaimSeven
namespace Go.Proofs.YtjikdbmdaeonlaaDoor
namespace Rows

/-- THE TIED CARD OF 'umbellaw11.RootTells'. -/
def rootTellsCard : Claim7 := { stood := { row := rootTellsRow, standIns := [], harness := (true, "3ed167c002ab93a86b396963dacc6d5bf36a7420a4d4f3e5ba8aadc29eb0605c"), looks := false }, kinds := [], alts := [], laidByText := true, laidKinds := [.data, .data, .data], laidTests := true, laidLooks := .later }
def RootTellsCardSaid : Prop := Claim7.holds Tryd.pinned (.plain (OpenSpec.ofChange rootTellsSpec)) rootTellsCard

/-- THE TIED CARD OF 'umbellaw11.RootContents'. -/
def rootContentsCard : Claim7 := { stood := { row := rootContentsRow, standIns := [], harness := (true, "3ed167c002ab93a86b396963dacc6d5bf36a7420a4d4f3e5ba8aadc29eb0605c"), looks := false }, kinds := [], alts := [], laidByText := true, laidKinds := [.data, .data, .data], laidTests := true, laidLooks := .later }
def RootContentsCardSaid : Prop := Claim7.holds Tryd.pinned (.plain (OpenSpec.ofChange rootContentsSpec)) rootContentsCard

/-- THE TIED CARD OF 'umbellaw11.RootItems'. -/
def rootItemsCard : Claim7 := { stood := { row := rootItemsRow, standIns := [], harness := (true, "3ed167c002ab93a86b396963dacc6d5bf36a7420a4d4f3e5ba8aadc29eb0605c"), looks := false }, kinds := [], alts := [], laidByText := true, laidKinds := [.data, .data, .data], laidTests := true, laidLooks := .later }
def RootItemsCardSaid : Prop := Claim7.holds Tryd.pinned (.plain (OpenSpec.ofChange rootItemsSpec)) rootItemsCard

/-- THE TIED CARD OF 'umbellaw11.RootValue'. -/
def rootValueCard : Claim7 := { stood := { row := rootValueRow, standIns := [], harness := (true, "3ed167c002ab93a86b396963dacc6d5bf36a7420a4d4f3e5ba8aadc29eb0605c"), looks := false }, kinds := [], alts := [], laidByText := true, laidKinds := [.data, .data, .data], laidTests := true, laidLooks := .later }
def RootValueCardSaid : Prop := Claim7.holds Tryd.pinned (.plain (OpenSpec.ofChange rootValueSpec)) rootValueCard

/-- THE TIED CARD OF 'umbellaw11.RootLeaf'. -/
def rootLeafCard : Claim7 := { stood := { row := rootLeafRow, standIns := [], harness := (true, "3ed167c002ab93a86b396963dacc6d5bf36a7420a4d4f3e5ba8aadc29eb0605c"), looks := false }, kinds := [], alts := [], laidByText := true, laidKinds := [.data, .data, .data], laidTests := true, laidLooks := .later }
def RootLeafCardSaid : Prop := Claim7.holds Tryd.pinned (.plain (OpenSpec.ofChange rootLeafSpec)) rootLeafCard

/-- THE SECOND FORM's CARD OF 'umbellaw11.RootTells'. -/
def rootTellsUptoCard : Claim7 := { stood := { row := rootTellsUptoRow, standIns := [], harness := (true, "3ed167c002ab93a86b396963dacc6d5bf36a7420a4d4f3e5ba8aadc29eb0605c"), looks := false }, kinds := [], alts := [], laidByText := true, laidKinds := [.data, .data, .data], laidTests := true, laidLooks := .later }
def RootTellsUptoCardSaid : Prop := Claim7.holds Tryd.pinned (.plain (OpenSpec.upto rootTellsSpec)) rootTellsUptoCard

/-- THE SECOND FORM's CARD OF 'umbellaw11.RootContents'. -/
def rootContentsUptoCard : Claim7 := { stood := { row := rootContentsUptoRow, standIns := [], harness := (true, "3ed167c002ab93a86b396963dacc6d5bf36a7420a4d4f3e5ba8aadc29eb0605c"), looks := false }, kinds := [], alts := [], laidByText := true, laidKinds := [.data, .data, .data], laidTests := true, laidLooks := .later }
def RootContentsUptoCardSaid : Prop := Claim7.holds Tryd.pinned (.plain (OpenSpec.upto rootContentsSpec)) rootContentsUptoCard

/-- THE SECOND FORM's CARD OF 'umbellaw11.RootItems'. -/
def rootItemsUptoCard : Claim7 := { stood := { row := rootItemsUptoRow, standIns := [], harness := (true, "3ed167c002ab93a86b396963dacc6d5bf36a7420a4d4f3e5ba8aadc29eb0605c"), looks := false }, kinds := [], alts := [], laidByText := true, laidKinds := [.data, .data, .data], laidTests := true, laidLooks := .later }
def RootItemsUptoCardSaid : Prop := Claim7.holds Tryd.pinned (.plain (OpenSpec.upto rootItemsSpec)) rootItemsUptoCard

/-- THE SECOND FORM's CARD OF 'umbellaw11.RootValue'. -/
def rootValueUptoCard : Claim7 := { stood := { row := rootValueUptoRow, standIns := [], harness := (true, "3ed167c002ab93a86b396963dacc6d5bf36a7420a4d4f3e5ba8aadc29eb0605c"), looks := false }, kinds := [], alts := [], laidByText := true, laidKinds := [.data, .data, .data], laidTests := true, laidLooks := .later }
def RootValueUptoCardSaid : Prop := Claim7.holds Tryd.pinned (.plain (OpenSpec.upto rootValueSpec)) rootValueUptoCard

/-- THE SECOND FORM's CARD OF 'umbellaw11.RootLeaf'. -/
def rootLeafUptoCard : Claim7 := { stood := { row := rootLeafUptoRow, standIns := [], harness := (true, "3ed167c002ab93a86b396963dacc6d5bf36a7420a4d4f3e5ba8aadc29eb0605c"), looks := false }, kinds := [], alts := [], laidByText := true, laidKinds := [.data, .data, .data], laidTests := true, laidLooks := .later }
def RootLeafUptoCardSaid : Prop := Claim7.holds Tryd.pinned (.plain (OpenSpec.upto rootLeafSpec)) rootLeafUptoCard
end Rows
end Go.Proofs.YtjikdbmdaeonlaaDoor
