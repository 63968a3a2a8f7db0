/-
  NARROWER THAN 'FOR EVERY INPUT', by the rows' own cells (each row's printed sentence says how): PutTells: laid · PutGets: laid · PutOrder: laid · PutNodes: laid · PutErrors: laid.
  DERIVED. THE GIVEN ROWS OF THIS SEAT. 5 by the template 'for every input the law returns true; each argument reads behind the call as it read before'; 0 by the template 'total and deterministic' (their statements: YtjpjcojabjkaaaaDoorTotals.lean).
  GIVEN WITH THE SEED: the statements are not yours to turn. If you find one false, say at which input.
  Laid BY PROGRAM, IN A SANDBOX (cutbox-rows.mjs): the forced cells as the released guide's own fill.sh prints them over the translation 104f04564a9b6705… (all of the seat's roots in one cut). By AI agents, Wed Nov 11 2026. No macro, syntax, notation, axiom, sorry.
-/
import Derived.Test.YtjpjcojabjkaaaaDoorChecked
import GoSem.Claim
import GoSem.ClaimJoined
import GoSem.ClaimMapViews
import Derived.JoinedTies
import Derived.KernelRfl
namespace Go.Proofs.YtjpjcojabjkaaaaDoor
/- THE CELL 'sum', in the pinned program and in every row, IS THE sha256 OF THE DUMP (.gsa) THAT YtjpjcojabjkaaaaDoorProg.lean LOADS. Nothing in Lean hashes anything: it is a label: what it is worth is what the hold of that sum in a sandbox is worth. -/
noncomputable def Tryd.pinned : Pinned := { name := "ytjpjcojabjkaaaadoor", sum := "104f04564a9b670575bf5411f96dccdbea340861f1a078237534b3bbb7dac78a", checked := Tryd.checked }
namespace Rows
def none {H : Type} : Left H := { results := [], args := [] }

/- WHAT THE LISTED PACKAGE-LEVEL VARIABLES READ AS WHEN THE CALL BEGINS. Each datum BY PROGRAM (the guide's laid-datum.mjs) off the statement by which the dump's own 'gosem.cut.vars' lays the variable. In a bare row this is a premise. The card (YtjpjcojabjkaaaaDoorCards.lean) ties it to the program's text. -/
def laid_umbel_nibble_upper {H : Type} : DataW H := .agg [.lit (.int .u8 0), .lit (.int .u8 16), .lit (.int .u8 32), .lit (.int .u8 48), .lit (.int .u8 64), .lit (.int .u8 80), .lit (.int .u8 96), .lit (.int .u8 112), .lit (.int .u8 128), .lit (.int .u8 144), .lit (.int .u8 160), .lit (.int .u8 176), .lit (.int .u8 192), .lit (.int .u8 208), .lit (.int .u8 224), .lit (.int .u8 240)]

/-- 'umbellaw13.PutTells': WHATEVER THE INPUT: true; the input reads as it did. -/
def putTellsSpec : ChangeSpec := { name := "putTells", fn := fun _ => fun
  | [d1, d2, d3] => { results := [.lit (.bool true)], args := [d1, d2, d3] }
  | _ => none }
def putTellsRow : OpenClaim := { program := "ytjpjcojabjkaaaadoor", sum := "104f04564a9b670575bf5411f96dccdbea340861f1a078237534b3bbb7dac78a", func := "umbel/umbellaw13.PutTells", spec := "putTells", recurses := true, named := ["umbel/nibble.upper"], apart := false, laid := [("umbel/nibble.upper", laid_umbel_nibble_upper)] }
def PutTellsSaid : Prop := putTellsRow.holds Tryd.pinned (OpenSpec.ofChange putTellsSpec)

/-- ITS FALSE NEIGHBOUR: 'it returns false'. Refute it at one input. -/
def putTellsWrong : ChangeSpec := { name := "putTells", fn := fun _ => fun
  | [d1, d2, d3] => { results := [.lit (.bool false)], args := [d1, d2, d3] }
  | _ => none }
def PutTellsWrongFalsely : Prop := putTellsRow.holds Tryd.pinned (OpenSpec.ofChange putTellsWrong)

/-- 'umbellaw13.PutGets': WHATEVER THE INPUT: true; the input reads as it did. -/
def putGetsSpec : ChangeSpec := { name := "putGets", fn := fun _ => fun
  | [d1, d2, d3] => { results := [.lit (.bool true)], args := [d1, d2, d3] }
  | _ => none }
def putGetsRow : OpenClaim := { program := "ytjpjcojabjkaaaadoor", sum := "104f04564a9b670575bf5411f96dccdbea340861f1a078237534b3bbb7dac78a", func := "umbel/umbellaw13.PutGets", spec := "putGets", recurses := true, named := ["umbel/nibble.upper"], apart := false, laid := [("umbel/nibble.upper", laid_umbel_nibble_upper)] }
def PutGetsSaid : Prop := putGetsRow.holds Tryd.pinned (OpenSpec.ofChange putGetsSpec)

/-- ITS FALSE NEIGHBOUR: 'it returns false'. Refute it at one input. -/
def putGetsWrong : ChangeSpec := { name := "putGets", fn := fun _ => fun
  | [d1, d2, d3] => { results := [.lit (.bool false)], args := [d1, d2, d3] }
  | _ => none }
def PutGetsWrongFalsely : Prop := putGetsRow.holds Tryd.pinned (OpenSpec.ofChange putGetsWrong)

/-- 'umbellaw13.PutOrder': WHATEVER THE INPUT: true; the input reads as it did. -/
def putOrderSpec : ChangeSpec := { name := "putOrder", fn := fun _ => fun
  | [d1, d2] => { results := [.lit (.bool true)], args := [d1, d2] }
  | _ => none }
def putOrderRow : OpenClaim := { program := "ytjpjcojabjkaaaadoor", sum := "104f04564a9b670575bf5411f96dccdbea340861f1a078237534b3bbb7dac78a", func := "umbel/umbellaw13.PutOrder", spec := "putOrder", recurses := true, named := ["umbel/nibble.upper"], apart := false, laid := [("umbel/nibble.upper", laid_umbel_nibble_upper)] }
def PutOrderSaid : Prop := putOrderRow.holds Tryd.pinned (OpenSpec.ofChange putOrderSpec)

/-- ITS FALSE NEIGHBOUR: 'it returns false'. Refute it at one input. -/
def putOrderWrong : ChangeSpec := { name := "putOrder", fn := fun _ => fun
  | [d1, d2] => { results := [.lit (.bool false)], args := [d1, d2] }
  | _ => none }
def PutOrderWrongFalsely : Prop := putOrderRow.holds Tryd.pinned (OpenSpec.ofChange putOrderWrong)

/-- 'umbellaw13.PutNodes': WHATEVER THE INPUT: true; the input reads as it did. -/
def putNodesSpec : ChangeSpec := { name := "putNodes", fn := fun _ => fun
  | [d1, d2] => { results := [.lit (.bool true)], args := [d1, d2] }
  | _ => none }
def putNodesRow : OpenClaim := { program := "ytjpjcojabjkaaaadoor", sum := "104f04564a9b670575bf5411f96dccdbea340861f1a078237534b3bbb7dac78a", func := "umbel/umbellaw13.PutNodes", spec := "putNodes", recurses := true, named := ["umbel/nibble.upper"], apart := false, laid := [("umbel/nibble.upper", laid_umbel_nibble_upper)] }
def PutNodesSaid : Prop := putNodesRow.holds Tryd.pinned (OpenSpec.ofChange putNodesSpec)

/-- ITS FALSE NEIGHBOUR: 'it returns false'. Refute it at one input. -/
def putNodesWrong : ChangeSpec := { name := "putNodes", fn := fun _ => fun
  | [d1, d2] => { results := [.lit (.bool false)], args := [d1, d2] }
  | _ => none }
def PutNodesWrongFalsely : Prop := putNodesRow.holds Tryd.pinned (OpenSpec.ofChange putNodesWrong)

/-- 'umbellaw13.PutErrors': WHATEVER THE INPUT: true; the input reads as it did. -/
def putErrorsSpec : ChangeSpec := { name := "putErrors", fn := fun _ => fun
  | [d1, d2] => { results := [.lit (.bool true)], args := [d1, d2] }
  | _ => none }
def putErrorsRow : OpenClaim := { program := "ytjpjcojabjkaaaadoor", sum := "104f04564a9b670575bf5411f96dccdbea340861f1a078237534b3bbb7dac78a", func := "umbel/umbellaw13.PutErrors", spec := "putErrors", recurses := true, named := ["umbel/nibble.upper"], apart := false, laid := [("umbel/nibble.upper", laid_umbel_nibble_upper)] }
def PutErrorsSaid : Prop := putErrorsRow.holds Tryd.pinned (OpenSpec.ofChange putErrorsSpec)

/-- ITS FALSE NEIGHBOUR: 'it returns false'. Refute it at one input. -/
def putErrorsWrong : ChangeSpec := { name := "putErrors", fn := fun _ => fun
  | [d1, d2] => { results := [.lit (.bool false)], args := [d1, d2] }
  | _ => none }
def PutErrorsWrongFalsely : Prop := putErrorsRow.holds Tryd.pinned (OpenSpec.ofChange putErrorsWrong)

/- THE SECOND FORM. 'bulk': how many values and letters a reading holds, each counted each time it is reached (what is shared counts as often as it is met; a slice's spare places count too). A statement '..UptoSaid' is the law's where the arguments, and the package variables that the reading takes, are together of bulk at most 1048576: NARROWER than '..Said'. Prove '..Said' where nothing that the law and all that it calls make is longer than what came in: it says more and counts as full. Else prove '..UptoSaid'. A law counts once. -/
mutual
def uptoBulk {H : Type} : DataW H → Nat
  | .lit (.string bytes) => bytes.length + 1
  | .lit _ => 1
  | .nil => 1
  | .ptr d => uptoBulk d + 1
  | .slice elems spare => uptoBulkAll elems + uptoBulkAll spare + 1
  | .agg parts => uptoBulkAll parts + 1
  | .iface _ d => uptoBulk d + 1
  | .map entries => uptoBulkEntries entries + 1
  | .held _ => 1
def uptoBulkAll {H : Type} : List (DataW H) → Nat
  | [] => 0
  | d :: r => uptoBulk d + uptoBulkAll r
def uptoBulkEntries {H : Type} : List (Lit × DataW H) → Nat
  | [] => 0
  | x :: r => uptoBulkEntry x + uptoBulkEntries r
def uptoBulkEntry {H : Type} : Lit × DataW H → Nat
  | (.string bytes, d) => bytes.length + uptoBulk d + 1
  | (_, d) => uptoBulk d + 1
 end
def uptoSmall : (H : Type) → List (DataW H) → Bool := fun _ ds => decide (uptoBulkAll ds ≤ 1048576)
def OpenSpec.upto (s : _root_.Go.ChangeSpec) : _root_.Go.OpenSpec := { _root_.Go.OpenSpec.ofChange s with cond := some uptoSmall }

/-- 'umbellaw13.PutTells', WHERE WHAT IT READS IS OF BULK AT MOST 1048576: true; the input reads as it did. -/
def putTellsUptoRow : OpenClaim := { program := "ytjpjcojabjkaaaadoor", sum := "104f04564a9b670575bf5411f96dccdbea340861f1a078237534b3bbb7dac78a", func := "umbel/umbellaw13.PutTells", spec := "putTells", recurses := true, named := ["umbel/nibble.upper"], apart := false, laid := [("umbel/nibble.upper", laid_umbel_nibble_upper)], narrowed := true }
def PutTellsUptoSaid : Prop := putTellsUptoRow.holds Tryd.pinned (OpenSpec.upto putTellsSpec)

/-- 'umbellaw13.PutGets', WHERE WHAT IT READS IS OF BULK AT MOST 1048576: true; the input reads as it did. -/
def putGetsUptoRow : OpenClaim := { program := "ytjpjcojabjkaaaadoor", sum := "104f04564a9b670575bf5411f96dccdbea340861f1a078237534b3bbb7dac78a", func := "umbel/umbellaw13.PutGets", spec := "putGets", recurses := true, named := ["umbel/nibble.upper"], apart := false, laid := [("umbel/nibble.upper", laid_umbel_nibble_upper)], narrowed := true }
def PutGetsUptoSaid : Prop := putGetsUptoRow.holds Tryd.pinned (OpenSpec.upto putGetsSpec)

/-- 'umbellaw13.PutOrder', WHERE WHAT IT READS IS OF BULK AT MOST 1048576: true; the input reads as it did. -/
def putOrderUptoRow : OpenClaim := { program := "ytjpjcojabjkaaaadoor", sum := "104f04564a9b670575bf5411f96dccdbea340861f1a078237534b3bbb7dac78a", func := "umbel/umbellaw13.PutOrder", spec := "putOrder", recurses := true, named := ["umbel/nibble.upper"], apart := false, laid := [("umbel/nibble.upper", laid_umbel_nibble_upper)], narrowed := true }
def PutOrderUptoSaid : Prop := putOrderUptoRow.holds Tryd.pinned (OpenSpec.upto putOrderSpec)

/-- 'umbellaw13.PutNodes', WHERE WHAT IT READS IS OF BULK AT MOST 1048576: true; the input reads as it did. -/
def putNodesUptoRow : OpenClaim := { program := "ytjpjcojabjkaaaadoor", sum := "104f04564a9b670575bf5411f96dccdbea340861f1a078237534b3bbb7dac78a", func := "umbel/umbellaw13.PutNodes", spec := "putNodes", recurses := true, named := ["umbel/nibble.upper"], apart := false, laid := [("umbel/nibble.upper", laid_umbel_nibble_upper)], narrowed := true }
def PutNodesUptoSaid : Prop := putNodesUptoRow.holds Tryd.pinned (OpenSpec.upto putNodesSpec)

/-- 'umbellaw13.PutErrors', WHERE WHAT IT READS IS OF BULK AT MOST 1048576: true; the input reads as it did. -/
def putErrorsUptoRow : OpenClaim := { program := "ytjpjcojabjkaaaadoor", sum := "104f04564a9b670575bf5411f96dccdbea340861f1a078237534b3bbb7dac78a", func := "umbel/umbellaw13.PutErrors", spec := "putErrors", recurses := true, named := ["umbel/nibble.upper"], apart := false, laid := [("umbel/nibble.upper", laid_umbel_nibble_upper)], narrowed := true }
def PutErrorsUptoSaid : Prop := putErrorsUptoRow.holds Tryd.pinned (OpenSpec.upto putErrorsSpec)

end Rows
end Go.Proofs.YtjpjcojabjkaaaaDoor
