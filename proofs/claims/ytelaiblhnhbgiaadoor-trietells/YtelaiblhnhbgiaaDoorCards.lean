/-
  DERIVED. GIVEN WITH THE SEED: THE CARDS: each row of YtelaiblhnhbgiaaDoorRows.lean that lists a variable, with what it lists TIED to the program's text (the seventh form; the later family's looks); each row that meets fmt, with fmt's text TOLD by the authors' own Lean function (tested against real Go, not proved from fmt's source: count such statements apart). THE CARD IS WHAT COUNTS. Prove the row's statement (the work); the ties are given (YtelaiblhnhbgiaaDoorTie.lean); close each card by the builder's one call (the guide's Derived/Test/ToyasCard.lean, 'card_holds'). Laid BY PROGRAM, IN A SANDBOX (cutbox-door.mjs). By AI agents, Wed Nov 11 2026. No macro, syntax, notation, axiom, sorry.
-/
import Derived.Test.YtelaiblhnhbgiaaDoorRows
import GoSem.ClaimSeven
namespace Go.Proofs.YtelaiblhnhbgiaaDoor
namespace Rows

/-- THE TIED CARD OF 'umbellaw10.TrieTells'. -/
def trieTellsCard : Claim7 := { stood := { row := trieTellsRow, standIns := [], harness := (true, "d7c99bc74918f6459bf12135e4145c59532d2448c8351472a2cb5e2c6ed4b41b"), looks := false }, kinds := [], alts := [], laidByText := true, laidKinds := [.data], laidTests := true, laidLooks := .later }
def TrieTellsCardSaid : Prop := Claim7.holds Tryd.pinned (.plain (OpenSpec.ofChange trieTellsSpec)) trieTellsCard

/-- THE TIED CARD OF 'umbellaw10.TrieBack'. -/
def trieBackCard : Claim7 := { stood := { row := trieBackRow, standIns := [], harness := (true, "d7c99bc74918f6459bf12135e4145c59532d2448c8351472a2cb5e2c6ed4b41b"), looks := false }, kinds := [], alts := [], laidByText := true, laidKinds := [.data], laidTests := true, laidLooks := .later }
def TrieBackCardSaid : Prop := Claim7.holds Tryd.pinned (.plain (OpenSpec.ofChange trieBackSpec)) trieBackCard

/-- THE TIED CARD OF 'umbellaw10.TrieShape'. -/
def trieShapeCard : Claim7 := { stood := { row := trieShapeRow, standIns := [], harness := (true, "d7c99bc74918f6459bf12135e4145c59532d2448c8351472a2cb5e2c6ed4b41b"), looks := false }, kinds := [], alts := [], laidByText := true, laidKinds := [.data], laidTests := true, laidLooks := .later }
def TrieShapeCardSaid : Prop := Claim7.holds Tryd.pinned (.plain (OpenSpec.ofChange trieShapeSpec)) trieShapeCard

/-- THE TIED CARD OF 'umbellaw10.TriePrefix'. -/
def triePrefixCard : Claim7 := { stood := { row := triePrefixRow, standIns := [], harness := (true, "d7c99bc74918f6459bf12135e4145c59532d2448c8351472a2cb5e2c6ed4b41b"), looks := false }, kinds := [], alts := [], laidByText := true, laidKinds := [.data], laidTests := true, laidLooks := .later }
def TriePrefixCardSaid : Prop := Claim7.holds Tryd.pinned (.plain (OpenSpec.ofChange triePrefixSpec)) triePrefixCard

/-- THE TIED CARD OF 'umbellaw10.TrieRefused'. -/
def trieRefusedCard : Claim7 := { stood := { row := trieRefusedRow, standIns := [], harness := (true, "d7c99bc74918f6459bf12135e4145c59532d2448c8351472a2cb5e2c6ed4b41b"), looks := false }, kinds := [], alts := [], laidByText := true, laidKinds := [.data], laidTests := true, laidLooks := .later }
def TrieRefusedCardSaid : Prop := Claim7.holds Tryd.pinned (.plain (OpenSpec.ofChange trieRefusedSpec)) trieRefusedCard

/-- THE SECOND FORM's CARD OF 'umbellaw10.TrieTells'. -/
def trieTellsUptoCard : Claim7 := { stood := { row := trieTellsUptoRow, standIns := [], harness := (true, "d7c99bc74918f6459bf12135e4145c59532d2448c8351472a2cb5e2c6ed4b41b"), looks := false }, kinds := [], alts := [], laidByText := true, laidKinds := [.data], laidTests := true, laidLooks := .later }
def TrieTellsUptoCardSaid : Prop := Claim7.holds Tryd.pinned (.plain (OpenSpec.upto trieTellsSpec)) trieTellsUptoCard

/-- THE SECOND FORM's CARD OF 'umbellaw10.TrieBack'. -/
def trieBackUptoCard : Claim7 := { stood := { row := trieBackUptoRow, standIns := [], harness := (true, "d7c99bc74918f6459bf12135e4145c59532d2448c8351472a2cb5e2c6ed4b41b"), looks := false }, kinds := [], alts := [], laidByText := true, laidKinds := [.data], laidTests := true, laidLooks := .later }
def TrieBackUptoCardSaid : Prop := Claim7.holds Tryd.pinned (.plain (OpenSpec.upto trieBackSpec)) trieBackUptoCard

/-- THE SECOND FORM's CARD OF 'umbellaw10.TrieShape'. -/
def trieShapeUptoCard : Claim7 := { stood := { row := trieShapeUptoRow, standIns := [], harness := (true, "d7c99bc74918f6459bf12135e4145c59532d2448c8351472a2cb5e2c6ed4b41b"), looks := false }, kinds := [], alts := [], laidByText := true, laidKinds := [.data], laidTests := true, laidLooks := .later }
def TrieShapeUptoCardSaid : Prop := Claim7.holds Tryd.pinned (.plain (OpenSpec.upto trieShapeSpec)) trieShapeUptoCard

/-- THE SECOND FORM's CARD OF 'umbellaw10.TriePrefix'. -/
def triePrefixUptoCard : Claim7 := { stood := { row := triePrefixUptoRow, standIns := [], harness := (true, "d7c99bc74918f6459bf12135e4145c59532d2448c8351472a2cb5e2c6ed4b41b"), looks := false }, kinds := [], alts := [], laidByText := true, laidKinds := [.data], laidTests := true, laidLooks := .later }
def TriePrefixUptoCardSaid : Prop := Claim7.holds Tryd.pinned (.plain (OpenSpec.upto triePrefixSpec)) triePrefixUptoCard

/-- THE SECOND FORM's CARD OF 'umbellaw10.TrieRefused'. -/
def trieRefusedUptoCard : Claim7 := { stood := { row := trieRefusedUptoRow, standIns := [], harness := (true, "d7c99bc74918f6459bf12135e4145c59532d2448c8351472a2cb5e2c6ed4b41b"), looks := false }, kinds := [], alts := [], laidByText := true, laidKinds := [.data], laidTests := true, laidLooks := .later }
def TrieRefusedUptoCardSaid : Prop := Claim7.holds Tryd.pinned (.plain (OpenSpec.upto trieRefusedSpec)) trieRefusedUptoCard
end Rows
end Go.Proofs.YtelaiblhnhbgiaaDoor
