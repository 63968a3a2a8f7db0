/-
  NARROWER THAN 'FOR EVERY INPUT', by the rows' own cells (each row's printed sentence says how): NibbleTells: laid · NibbleBack: laid · NibbleCommon: laid · NibblePlaces: laid · NibbleOrder: laid.
  DERIVED. THE GIVEN ROWS OF THIS SEAT. 5 by the template 'for every input the law returns true; each argument reads behind the call as it read before'; 0 by the template 'total and deterministic' (their statements: YtopnagligeihgaaDoorTotals.lean).
  GIVEN WITH THE SEED: the statements are not yours to turn. If you find one false, say at which input.
  Laid BY PROGRAM, IN A SANDBOX (cutbox-rows.mjs): the forced cells as the released guide's own fill.sh prints them over the translation 6aba9a129d4ad20b… (all of the seat's roots in one cut). By AI agents, Wed Nov 11 2026. No macro, syntax, notation, axiom, sorry.
-/
import Derived.Test.YtopnagligeihgaaDoorChecked
import GoSem.Claim
import GoSem.ClaimJoined
import GoSem.ClaimMapViews
import Derived.JoinedTies
import Derived.KernelRfl
namespace Go.Proofs.YtopnagligeihgaaDoor
/- THE CELL 'sum', in the pinned program and in every row, IS THE sha256 OF THE DUMP (.gsa) THAT YtopnagligeihgaaDoorProg.lean LOADS. Nothing in Lean hashes anything: it is a label: what it is worth is what the hold of that sum in a sandbox is worth. -/
noncomputable def Tryd.pinned : Pinned := { name := "ytopnagligeihgaadoor", sum := "6aba9a129d4ad20beb7b2c56b2335bd5c78e72ae9d226de12c5fbd983edf1253", checked := Tryd.checked }
namespace Rows
def none {H : Type} : Left H := { results := [], args := [] }

/- WHAT THE LISTED PACKAGE-LEVEL VARIABLES READ AS WHEN THE CALL BEGINS. Each datum BY PROGRAM (the guide's laid-datum.mjs) off the statement by which the dump's own 'gosem.cut.vars' lays the variable. In a bare row this is a premise. The card (YtopnagligeihgaaDoorCards.lean) ties it to the program's text. -/
def laid_umbel_nibble_upper {H : Type} : DataW H := .agg [.lit (.int .u8 0), .lit (.int .u8 16), .lit (.int .u8 32), .lit (.int .u8 48), .lit (.int .u8 64), .lit (.int .u8 80), .lit (.int .u8 96), .lit (.int .u8 112), .lit (.int .u8 128), .lit (.int .u8 144), .lit (.int .u8 160), .lit (.int .u8 176), .lit (.int .u8 192), .lit (.int .u8 208), .lit (.int .u8 224), .lit (.int .u8 240)]

/-- 'umbellaw02.NibbleTells': WHATEVER THE INPUT: true; the input reads as it did. -/
def nibbleTellsSpec : ChangeSpec := { name := "nibbleTells", fn := fun _ => fun
  | [d1, d2] => { results := [.lit (.bool true)], args := [d1, d2] }
  | _ => none }
def nibbleTellsRow : OpenClaim := { program := "ytopnagligeihgaadoor", sum := "6aba9a129d4ad20beb7b2c56b2335bd5c78e72ae9d226de12c5fbd983edf1253", func := "umbel/umbellaw02.NibbleTells", spec := "nibbleTells", named := ["umbel/nibble.upper"], apart := false, laid := [("umbel/nibble.upper", laid_umbel_nibble_upper)] }
def NibbleTellsSaid : Prop := nibbleTellsRow.holds Tryd.pinned (OpenSpec.ofChange nibbleTellsSpec)

/-- ITS FALSE NEIGHBOUR: 'it returns false'. Refute it at one input. -/
def nibbleTellsWrong : ChangeSpec := { name := "nibbleTells", fn := fun _ => fun
  | [d1, d2] => { results := [.lit (.bool false)], args := [d1, d2] }
  | _ => none }
def NibbleTellsWrongFalsely : Prop := nibbleTellsRow.holds Tryd.pinned (OpenSpec.ofChange nibbleTellsWrong)

/-- 'umbellaw02.NibbleBack': WHATEVER THE INPUT: true; the input reads as it did. -/
def nibbleBackSpec : ChangeSpec := { name := "nibbleBack", fn := fun _ => fun
  | [d1, d2, d3] => { results := [.lit (.bool true)], args := [d1, d2, d3] }
  | _ => none }
def nibbleBackRow : OpenClaim := { program := "ytopnagligeihgaadoor", sum := "6aba9a129d4ad20beb7b2c56b2335bd5c78e72ae9d226de12c5fbd983edf1253", func := "umbel/umbellaw02.NibbleBack", spec := "nibbleBack", named := ["umbel/nibble.upper"], apart := false, laid := [("umbel/nibble.upper", laid_umbel_nibble_upper)] }
def NibbleBackSaid : Prop := nibbleBackRow.holds Tryd.pinned (OpenSpec.ofChange nibbleBackSpec)

/-- ITS FALSE NEIGHBOUR: 'it returns false'. Refute it at one input. -/
def nibbleBackWrong : ChangeSpec := { name := "nibbleBack", fn := fun _ => fun
  | [d1, d2, d3] => { results := [.lit (.bool false)], args := [d1, d2, d3] }
  | _ => none }
def NibbleBackWrongFalsely : Prop := nibbleBackRow.holds Tryd.pinned (OpenSpec.ofChange nibbleBackWrong)

/-- 'umbellaw02.NibbleCommon': WHATEVER THE INPUT: true; the input reads as it did. -/
def nibbleCommonSpec : ChangeSpec := { name := "nibbleCommon", fn := fun _ => fun
  | [d1, d2] => { results := [.lit (.bool true)], args := [d1, d2] }
  | _ => none }
def nibbleCommonRow : OpenClaim := { program := "ytopnagligeihgaadoor", sum := "6aba9a129d4ad20beb7b2c56b2335bd5c78e72ae9d226de12c5fbd983edf1253", func := "umbel/umbellaw02.NibbleCommon", spec := "nibbleCommon", named := ["umbel/nibble.upper"], apart := false, laid := [("umbel/nibble.upper", laid_umbel_nibble_upper)] }
def NibbleCommonSaid : Prop := nibbleCommonRow.holds Tryd.pinned (OpenSpec.ofChange nibbleCommonSpec)

/-- ITS FALSE NEIGHBOUR: 'it returns false'. Refute it at one input. -/
def nibbleCommonWrong : ChangeSpec := { name := "nibbleCommon", fn := fun _ => fun
  | [d1, d2] => { results := [.lit (.bool false)], args := [d1, d2] }
  | _ => none }
def NibbleCommonWrongFalsely : Prop := nibbleCommonRow.holds Tryd.pinned (OpenSpec.ofChange nibbleCommonWrong)

/-- 'umbellaw02.NibblePlaces': WHATEVER THE INPUT: true; the input reads as it did. -/
def nibblePlacesSpec : ChangeSpec := { name := "nibblePlaces", fn := fun _ => fun
  | [d1, d2] => { results := [.lit (.bool true)], args := [d1, d2] }
  | _ => none }
def nibblePlacesRow : OpenClaim := { program := "ytopnagligeihgaadoor", sum := "6aba9a129d4ad20beb7b2c56b2335bd5c78e72ae9d226de12c5fbd983edf1253", func := "umbel/umbellaw02.NibblePlaces", spec := "nibblePlaces", named := ["umbel/nibble.upper"], apart := false, laid := [("umbel/nibble.upper", laid_umbel_nibble_upper)] }
def NibblePlacesSaid : Prop := nibblePlacesRow.holds Tryd.pinned (OpenSpec.ofChange nibblePlacesSpec)

/-- ITS FALSE NEIGHBOUR: 'it returns false'. Refute it at one input. -/
def nibblePlacesWrong : ChangeSpec := { name := "nibblePlaces", fn := fun _ => fun
  | [d1, d2] => { results := [.lit (.bool false)], args := [d1, d2] }
  | _ => none }
def NibblePlacesWrongFalsely : Prop := nibblePlacesRow.holds Tryd.pinned (OpenSpec.ofChange nibblePlacesWrong)

/-- 'umbellaw02.NibbleOrder': WHATEVER THE INPUT: true; the input reads as it did. -/
def nibbleOrderSpec : ChangeSpec := { name := "nibbleOrder", fn := fun _ => fun
  | [d1, d2] => { results := [.lit (.bool true)], args := [d1, d2] }
  | _ => none }
def nibbleOrderRow : OpenClaim := { program := "ytopnagligeihgaadoor", sum := "6aba9a129d4ad20beb7b2c56b2335bd5c78e72ae9d226de12c5fbd983edf1253", func := "umbel/umbellaw02.NibbleOrder", spec := "nibbleOrder", named := ["umbel/nibble.upper"], apart := false, laid := [("umbel/nibble.upper", laid_umbel_nibble_upper)] }
def NibbleOrderSaid : Prop := nibbleOrderRow.holds Tryd.pinned (OpenSpec.ofChange nibbleOrderSpec)

/-- ITS FALSE NEIGHBOUR: 'it returns false'. Refute it at one input. -/
def nibbleOrderWrong : ChangeSpec := { name := "nibbleOrder", fn := fun _ => fun
  | [d1, d2] => { results := [.lit (.bool false)], args := [d1, d2] }
  | _ => none }
def NibbleOrderWrongFalsely : Prop := nibbleOrderRow.holds Tryd.pinned (OpenSpec.ofChange nibbleOrderWrong)

/- THE SECOND FORM. 'bulk': how many values and letters a reading holds, each counted each time it is reached (what is shared counts as often as it is met; a slice's spare places count too). A statement '..UptoSaid' is the law's where the arguments, and the package variables that the reading takes, are together of bulk at most 1048576: NARROWER than '..Said'. Prove '..Said' where nothing that the law and all that it calls make is longer than what came in: it says more and counts as full. Else prove '..UptoSaid'. A law counts once. -/
mutual
def uptoBulk {H : Type} : DataW H → Nat
  | .lit (.string bytes) => bytes.length + 1
  | .lit _ => 1
  | .nil => 1
  | .ptr d => uptoBulk d + 1
  | .slice elems spare => uptoBulkAll elems + uptoBulkAll spare + 1
  | .agg parts => uptoBulkAll parts + 1
  | .iface _ d => uptoBulk d + 1
  | .map entries => uptoBulkEntries entries + 1
  | .held _ => 1
def uptoBulkAll {H : Type} : List (DataW H) → Nat
  | [] => 0
  | d :: r => uptoBulk d + uptoBulkAll r
def uptoBulkEntries {H : Type} : List (Lit × DataW H) → Nat
  | [] => 0
  | x :: r => uptoBulkEntry x + uptoBulkEntries r
def uptoBulkEntry {H : Type} : Lit × DataW H → Nat
  | (.string bytes, d) => bytes.length + uptoBulk d + 1
  | (_, d) => uptoBulk d + 1
 end
def uptoSmall : (H : Type) → List (DataW H) → Bool := fun _ ds => decide (uptoBulkAll ds ≤ 1048576)
def OpenSpec.upto (s : _root_.Go.ChangeSpec) : _root_.Go.OpenSpec := { _root_.Go.OpenSpec.ofChange s with cond := some uptoSmall }

/-- 'umbellaw02.NibbleTells', WHERE WHAT IT READS IS OF BULK AT MOST 1048576: true; the input reads as it did. -/
def nibbleTellsUptoRow : OpenClaim := { program := "ytopnagligeihgaadoor", sum := "6aba9a129d4ad20beb7b2c56b2335bd5c78e72ae9d226de12c5fbd983edf1253", func := "umbel/umbellaw02.NibbleTells", spec := "nibbleTells", named := ["umbel/nibble.upper"], apart := false, laid := [("umbel/nibble.upper", laid_umbel_nibble_upper)], narrowed := true }
def NibbleTellsUptoSaid : Prop := nibbleTellsUptoRow.holds Tryd.pinned (OpenSpec.upto nibbleTellsSpec)

/-- 'umbellaw02.NibbleBack', WHERE WHAT IT READS IS OF BULK AT MOST 1048576: true; the input reads as it did. -/
def nibbleBackUptoRow : OpenClaim := { program := "ytopnagligeihgaadoor", sum := "6aba9a129d4ad20beb7b2c56b2335bd5c78e72ae9d226de12c5fbd983edf1253", func := "umbel/umbellaw02.NibbleBack", spec := "nibbleBack", named := ["umbel/nibble.upper"], apart := false, laid := [("umbel/nibble.upper", laid_umbel_nibble_upper)], narrowed := true }
def NibbleBackUptoSaid : Prop := nibbleBackUptoRow.holds Tryd.pinned (OpenSpec.upto nibbleBackSpec)

/-- 'umbellaw02.NibbleCommon', WHERE WHAT IT READS IS OF BULK AT MOST 1048576: true; the input reads as it did. -/
def nibbleCommonUptoRow : OpenClaim := { program := "ytopnagligeihgaadoor", sum := "6aba9a129d4ad20beb7b2c56b2335bd5c78e72ae9d226de12c5fbd983edf1253", func := "umbel/umbellaw02.NibbleCommon", spec := "nibbleCommon", named := ["umbel/nibble.upper"], apart := false, laid := [("umbel/nibble.upper", laid_umbel_nibble_upper)], narrowed := true }
def NibbleCommonUptoSaid : Prop := nibbleCommonUptoRow.holds Tryd.pinned (OpenSpec.upto nibbleCommonSpec)

/-- 'umbellaw02.NibblePlaces', WHERE WHAT IT READS IS OF BULK AT MOST 1048576: true; the input reads as it did. -/
def nibblePlacesUptoRow : OpenClaim := { program := "ytopnagligeihgaadoor", sum := "6aba9a129d4ad20beb7b2c56b2335bd5c78e72ae9d226de12c5fbd983edf1253", func := "umbel/umbellaw02.NibblePlaces", spec := "nibblePlaces", named := ["umbel/nibble.upper"], apart := false, laid := [("umbel/nibble.upper", laid_umbel_nibble_upper)], narrowed := true }
def NibblePlacesUptoSaid : Prop := nibblePlacesUptoRow.holds Tryd.pinned (OpenSpec.upto nibblePlacesSpec)

/-- 'umbellaw02.NibbleOrder', WHERE WHAT IT READS IS OF BULK AT MOST 1048576: true; the input reads as it did. -/
def nibbleOrderUptoRow : OpenClaim := { program := "ytopnagligeihgaadoor", sum := "6aba9a129d4ad20beb7b2c56b2335bd5c78e72ae9d226de12c5fbd983edf1253", func := "umbel/umbellaw02.NibbleOrder", spec := "nibbleOrder", named := ["umbel/nibble.upper"], apart := false, laid := [("umbel/nibble.upper", laid_umbel_nibble_upper)], narrowed := true }
def NibbleOrderUptoSaid : Prop := nibbleOrderUptoRow.holds Tryd.pinned (OpenSpec.upto nibbleOrderSpec)

end Rows
end Go.Proofs.YtopnagligeihgaaDoor
