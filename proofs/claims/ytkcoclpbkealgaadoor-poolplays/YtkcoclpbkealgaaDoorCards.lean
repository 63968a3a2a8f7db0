/-
  DERIVED. GIVEN WITH THE SEED: THE CARDS: each row of YtkcoclpbkealgaaDoorRows.lean that lists a variable, with what it lists TIED to the program's text (the seventh form; the later family's looks); each row that meets fmt, with fmt's text TOLD by the authors' own Lean function (tested against real Go, not proved from fmt's source: count such statements apart). THE CARD IS WHAT COUNTS. Prove the row's statement (the work); the ties are given (YtkcoclpbkealgaaDoorTie.lean); close each card by the builder's one call (the guide's Derived/Test/ToyasCard.lean, 'card_holds'). Laid BY PROGRAM, IN A SANDBOX (cutbox-door.mjs). By AI agents, Wed Nov 11 2026. No macro, syntax, notation, axiom, sorry.
-/
import Derived.Test.YtkcoclpbkealgaaDoorRows
import GoSem.ClaimSeven
namespace Go.Proofs.YtkcoclpbkealgaaDoor
namespace Rows

/-- THE TIED CARD OF 'umbellaw08.PoolPlays'. -/
def poolPlaysCard : Claim7 := { stood := { row := poolPlaysRow, standIns := [], harness := (true, "8996bcf06126b3306cbbcab8eda9a82e1fec9ef501813cb37d58b15dc40a24f1"), looks := false }, kinds := [], alts := [], laidByText := true, laidKinds := [.data], laidTests := true, laidLooks := .later }
def PoolPlaysCardSaid : Prop := Claim7.holds Tryd.pinned (.plain (OpenSpec.ofChange poolPlaysSpec)) poolPlaysCard

/-- THE TIED CARD OF 'umbellaw08.PoolReads'. -/
def poolReadsCard : Claim7 := { stood := { row := poolReadsRow, standIns := [], harness := (true, "8996bcf06126b3306cbbcab8eda9a82e1fec9ef501813cb37d58b15dc40a24f1"), looks := false }, kinds := [], alts := [], laidByText := true, laidKinds := [.data], laidTests := true, laidLooks := .later }
def PoolReadsCardSaid : Prop := Claim7.holds Tryd.pinned (.plain (OpenSpec.ofChange poolReadsSpec)) poolReadsCard

/-- THE TIED CARD OF 'umbellaw08.PoolNone'. -/
def poolNoneCard : Claim7 := { stood := { row := poolNoneRow, standIns := [], harness := (true, "8996bcf06126b3306cbbcab8eda9a82e1fec9ef501813cb37d58b15dc40a24f1"), looks := false }, kinds := [], alts := [], laidByText := true, laidKinds := [.data], laidTests := true, laidLooks := .later }
def PoolNoneCardSaid : Prop := Claim7.holds Tryd.pinned (.plain (OpenSpec.ofChange poolNoneSpec)) poolNoneCard

/-- THE TIED CARD OF 'umbellaw08.PoolPins'. -/
def poolPinsCard : Claim7 := { stood := { row := poolPinsRow, standIns := [], harness := (true, "8996bcf06126b3306cbbcab8eda9a82e1fec9ef501813cb37d58b15dc40a24f1"), looks := false }, kinds := [], alts := [], laidByText := true, laidKinds := [.data], laidTests := true, laidLooks := .later }
def PoolPinsCardSaid : Prop := Claim7.holds Tryd.pinned (.plain (OpenSpec.ofChange poolPinsSpec)) poolPinsCard

/-- THE TIED CARD OF 'umbellaw08.PoolDirty'. -/
def poolDirtyCard : Claim7 := { stood := { row := poolDirtyRow, standIns := [], harness := (true, "8996bcf06126b3306cbbcab8eda9a82e1fec9ef501813cb37d58b15dc40a24f1"), looks := false }, kinds := [], alts := [], laidByText := true, laidKinds := [.data], laidTests := true, laidLooks := .later }
def PoolDirtyCardSaid : Prop := Claim7.holds Tryd.pinned (.plain (OpenSpec.ofChange poolDirtySpec)) poolDirtyCard

/-- THE SECOND FORM's CARD OF 'umbellaw08.PoolPlays'. -/
def poolPlaysUptoCard : Claim7 := { stood := { row := poolPlaysUptoRow, standIns := [], harness := (true, "8996bcf06126b3306cbbcab8eda9a82e1fec9ef501813cb37d58b15dc40a24f1"), looks := false }, kinds := [], alts := [], laidByText := true, laidKinds := [.data], laidTests := true, laidLooks := .later }
def PoolPlaysUptoCardSaid : Prop := Claim7.holds Tryd.pinned (.plain (OpenSpec.upto poolPlaysSpec)) poolPlaysUptoCard

/-- THE SECOND FORM's CARD OF 'umbellaw08.PoolReads'. -/
def poolReadsUptoCard : Claim7 := { stood := { row := poolReadsUptoRow, standIns := [], harness := (true, "8996bcf06126b3306cbbcab8eda9a82e1fec9ef501813cb37d58b15dc40a24f1"), looks := false }, kinds := [], alts := [], laidByText := true, laidKinds := [.data], laidTests := true, laidLooks := .later }
def PoolReadsUptoCardSaid : Prop := Claim7.holds Tryd.pinned (.plain (OpenSpec.upto poolReadsSpec)) poolReadsUptoCard

/-- THE SECOND FORM's CARD OF 'umbellaw08.PoolNone'. -/
def poolNoneUptoCard : Claim7 := { stood := { row := poolNoneUptoRow, standIns := [], harness := (true, "8996bcf06126b3306cbbcab8eda9a82e1fec9ef501813cb37d58b15dc40a24f1"), looks := false }, kinds := [], alts := [], laidByText := true, laidKinds := [.data], laidTests := true, laidLooks := .later }
def PoolNoneUptoCardSaid : Prop := Claim7.holds Tryd.pinned (.plain (OpenSpec.upto poolNoneSpec)) poolNoneUptoCard

/-- THE SECOND FORM's CARD OF 'umbellaw08.PoolPins'. -/
def poolPinsUptoCard : Claim7 := { stood := { row := poolPinsUptoRow, standIns := [], harness := (true, "8996bcf06126b3306cbbcab8eda9a82e1fec9ef501813cb37d58b15dc40a24f1"), looks := false }, kinds := [], alts := [], laidByText := true, laidKinds := [.data], laidTests := true, laidLooks := .later }
def PoolPinsUptoCardSaid : Prop := Claim7.holds Tryd.pinned (.plain (OpenSpec.upto poolPinsSpec)) poolPinsUptoCard

/-- THE SECOND FORM's CARD OF 'umbellaw08.PoolDirty'. -/
def poolDirtyUptoCard : Claim7 := { stood := { row := poolDirtyUptoRow, standIns := [], harness := (true, "8996bcf06126b3306cbbcab8eda9a82e1fec9ef501813cb37d58b15dc40a24f1"), looks := false }, kinds := [], alts := [], laidByText := true, laidKinds := [.data], laidTests := true, laidLooks := .later }
def PoolDirtyUptoCardSaid : Prop := Claim7.holds Tryd.pinned (.plain (OpenSpec.upto poolDirtySpec)) poolDirtyUptoCard
end Rows
end Go.Proofs.YtkcoclpbkealgaaDoor
