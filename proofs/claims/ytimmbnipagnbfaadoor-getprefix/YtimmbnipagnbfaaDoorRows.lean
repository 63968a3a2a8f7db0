/-
  NARROWER THAN 'FOR EVERY INPUT', by the rows' own cells (each row's printed sentence says how): GetTells: laid · GetPairs: laid · GetWalks: laid · GetPrefix: laid · GetWay: laid.
  DERIVED. THE GIVEN ROWS OF THIS SEAT. 5 by the template 'for every input the law returns true; each argument reads behind the call as it read before'; 0 by the template 'total and deterministic' (their statements: YtimmbnipagnbfaaDoorTotals.lean).
  GIVEN WITH THE SEED: the statements are not yours to turn. If you find one false, say at which input.
  Laid BY PROGRAM, IN A SANDBOX (cutbox-rows.mjs): the forced cells as the released guide's own fill.sh prints them over the translation 1f8ce95f29933d42… (all of the seat's roots in one cut). By AI agents, Wed Nov 11 2026. No macro, syntax, notation, axiom, sorry.
-/
import Derived.Test.YtimmbnipagnbfaaDoorChecked
import GoSem.Claim
import GoSem.ClaimJoined
import GoSem.ClaimMapViews
import Derived.JoinedTies
import Derived.KernelRfl
namespace Go.Proofs.YtimmbnipagnbfaaDoor
/- THE CELL 'sum', in the pinned program and in every row, IS THE sha256 OF THE DUMP (.gsa) THAT YtimmbnipagnbfaaDoorProg.lean LOADS. Nothing in Lean hashes anything: it is a label: what it is worth is what the hold of that sum in a sandbox is worth. -/
noncomputable def Tryd.pinned : Pinned := { name := "ytimmbnipagnbfaadoor", sum := "1f8ce95f29933d4233783547aa17af48b88cae539642dfb49791c1951b115d46", checked := Tryd.checked }
namespace Rows
def none {H : Type} : Left H := { results := [], args := [] }

/- WHAT THE LISTED PACKAGE-LEVEL VARIABLES READ AS WHEN THE CALL BEGINS. Each datum BY PROGRAM (the guide's laid-datum.mjs) off the statement by which the dump's own 'gosem.cut.vars' lays the variable. In a bare row this is a premise. The card (YtimmbnipagnbfaaDoorCards.lean) ties it to the program's text. -/
def laid_umbel_nibble_upper {H : Type} : DataW H := .agg [.lit (.int .u8 0), .lit (.int .u8 16), .lit (.int .u8 32), .lit (.int .u8 48), .lit (.int .u8 64), .lit (.int .u8 80), .lit (.int .u8 96), .lit (.int .u8 112), .lit (.int .u8 128), .lit (.int .u8 144), .lit (.int .u8 160), .lit (.int .u8 176), .lit (.int .u8 192), .lit (.int .u8 208), .lit (.int .u8 224), .lit (.int .u8 240)]

/-- 'umbellaw12.GetTells': WHATEVER THE INPUT: true; the input reads as it did. -/
def getTellsSpec : ChangeSpec := { name := "getTells", fn := fun _ => fun
  | [d1, d2] => { results := [.lit (.bool true)], args := [d1, d2] }
  | _ => none }
def getTellsRow : OpenClaim := { program := "ytimmbnipagnbfaadoor", sum := "1f8ce95f29933d4233783547aa17af48b88cae539642dfb49791c1951b115d46", func := "umbel/umbellaw12.GetTells", spec := "getTells", recurses := true, named := ["umbel/nibble.upper"], apart := false, laid := [("umbel/nibble.upper", laid_umbel_nibble_upper)] }
def GetTellsSaid : Prop := getTellsRow.holds Tryd.pinned (OpenSpec.ofChange getTellsSpec)

/-- ITS FALSE NEIGHBOUR: 'it returns false'. Refute it at one input. -/
def getTellsWrong : ChangeSpec := { name := "getTells", fn := fun _ => fun
  | [d1, d2] => { results := [.lit (.bool false)], args := [d1, d2] }
  | _ => none }
def GetTellsWrongFalsely : Prop := getTellsRow.holds Tryd.pinned (OpenSpec.ofChange getTellsWrong)

/-- 'umbellaw12.GetPairs': WHATEVER THE INPUT: true; the input reads as it did. -/
def getPairsSpec : ChangeSpec := { name := "getPairs", fn := fun _ => fun
  | [d1, d2] => { results := [.lit (.bool true)], args := [d1, d2] }
  | _ => none }
def getPairsRow : OpenClaim := { program := "ytimmbnipagnbfaadoor", sum := "1f8ce95f29933d4233783547aa17af48b88cae539642dfb49791c1951b115d46", func := "umbel/umbellaw12.GetPairs", spec := "getPairs", recurses := true, named := ["umbel/nibble.upper"], apart := false, laid := [("umbel/nibble.upper", laid_umbel_nibble_upper)] }
def GetPairsSaid : Prop := getPairsRow.holds Tryd.pinned (OpenSpec.ofChange getPairsSpec)

/-- ITS FALSE NEIGHBOUR: 'it returns false'. Refute it at one input. -/
def getPairsWrong : ChangeSpec := { name := "getPairs", fn := fun _ => fun
  | [d1, d2] => { results := [.lit (.bool false)], args := [d1, d2] }
  | _ => none }
def GetPairsWrongFalsely : Prop := getPairsRow.holds Tryd.pinned (OpenSpec.ofChange getPairsWrong)

/-- 'umbellaw12.GetWalks': WHATEVER THE INPUT: true; the input reads as it did. -/
def getWalksSpec : ChangeSpec := { name := "getWalks", fn := fun _ => fun
  | [d1, d2] => { results := [.lit (.bool true)], args := [d1, d2] }
  | _ => none }
def getWalksRow : OpenClaim := { program := "ytimmbnipagnbfaadoor", sum := "1f8ce95f29933d4233783547aa17af48b88cae539642dfb49791c1951b115d46", func := "umbel/umbellaw12.GetWalks", spec := "getWalks", recurses := true, named := ["umbel/nibble.upper"], apart := false, laid := [("umbel/nibble.upper", laid_umbel_nibble_upper)] }
def GetWalksSaid : Prop := getWalksRow.holds Tryd.pinned (OpenSpec.ofChange getWalksSpec)

/-- ITS FALSE NEIGHBOUR: 'it returns false'. Refute it at one input. -/
def getWalksWrong : ChangeSpec := { name := "getWalks", fn := fun _ => fun
  | [d1, d2] => { results := [.lit (.bool false)], args := [d1, d2] }
  | _ => none }
def GetWalksWrongFalsely : Prop := getWalksRow.holds Tryd.pinned (OpenSpec.ofChange getWalksWrong)

/-- 'umbellaw12.GetPrefix': WHATEVER THE INPUT: true; the input reads as it did. -/
def getPrefixSpec : ChangeSpec := { name := "getPrefix", fn := fun _ => fun
  | [d1, d2] => { results := [.lit (.bool true)], args := [d1, d2] }
  | _ => none }
def getPrefixRow : OpenClaim := { program := "ytimmbnipagnbfaadoor", sum := "1f8ce95f29933d4233783547aa17af48b88cae539642dfb49791c1951b115d46", func := "umbel/umbellaw12.GetPrefix", spec := "getPrefix", recurses := true, named := ["umbel/nibble.upper"], apart := false, laid := [("umbel/nibble.upper", laid_umbel_nibble_upper)] }
def GetPrefixSaid : Prop := getPrefixRow.holds Tryd.pinned (OpenSpec.ofChange getPrefixSpec)

/-- ITS FALSE NEIGHBOUR: 'it returns false'. Refute it at one input. -/
def getPrefixWrong : ChangeSpec := { name := "getPrefix", fn := fun _ => fun
  | [d1, d2] => { results := [.lit (.bool false)], args := [d1, d2] }
  | _ => none }
def GetPrefixWrongFalsely : Prop := getPrefixRow.holds Tryd.pinned (OpenSpec.ofChange getPrefixWrong)

/-- 'umbellaw12.GetWay': WHATEVER THE INPUT: true; the input reads as it did. -/
def getWaySpec : ChangeSpec := { name := "getWay", fn := fun _ => fun
  | [d1, d2] => { results := [.lit (.bool true)], args := [d1, d2] }
  | _ => none }
def getWayRow : OpenClaim := { program := "ytimmbnipagnbfaadoor", sum := "1f8ce95f29933d4233783547aa17af48b88cae539642dfb49791c1951b115d46", func := "umbel/umbellaw12.GetWay", spec := "getWay", recurses := true, named := ["umbel/nibble.upper"], apart := false, laid := [("umbel/nibble.upper", laid_umbel_nibble_upper)] }
def GetWaySaid : Prop := getWayRow.holds Tryd.pinned (OpenSpec.ofChange getWaySpec)

/-- ITS FALSE NEIGHBOUR: 'it returns false'. Refute it at one input. -/
def getWayWrong : ChangeSpec := { name := "getWay", fn := fun _ => fun
  | [d1, d2] => { results := [.lit (.bool false)], args := [d1, d2] }
  | _ => none }
def GetWayWrongFalsely : Prop := getWayRow.holds Tryd.pinned (OpenSpec.ofChange getWayWrong)

/- THE SECOND FORM. 'bulk': how many values and letters a reading holds, each counted each time it is reached (what is shared counts as often as it is met; a slice's spare places count too). A statement '..UptoSaid' is the law's where the arguments, and the package variables that the reading takes, are together of bulk at most 1048576: NARROWER than '..Said'. Prove '..Said' where nothing that the law and all that it calls make is longer than what came in: it says more and counts as full. Else prove '..UptoSaid'. A law counts once. -/
mutual
def uptoBulk {H : Type} : DataW H → Nat
  | .lit (.string bytes) => bytes.length + 1
  | .lit _ => 1
  | .nil => 1
  | .ptr d => uptoBulk d + 1
  | .slice elems spare => uptoBulkAll elems + uptoBulkAll spare + 1
  | .agg parts => uptoBulkAll parts + 1
  | .iface _ d => uptoBulk d + 1
  | .map entries => uptoBulkEntries entries + 1
  | .held _ => 1
def uptoBulkAll {H : Type} : List (DataW H) → Nat
  | [] => 0
  | d :: r => uptoBulk d + uptoBulkAll r
def uptoBulkEntries {H : Type} : List (Lit × DataW H) → Nat
  | [] => 0
  | x :: r => uptoBulkEntry x + uptoBulkEntries r
def uptoBulkEntry {H : Type} : Lit × DataW H → Nat
  | (.string bytes, d) => bytes.length + uptoBulk d + 1
  | (_, d) => uptoBulk d + 1
 end
def uptoSmall : (H : Type) → List (DataW H) → Bool := fun _ ds => decide (uptoBulkAll ds ≤ 1048576)
def OpenSpec.upto (s : _root_.Go.ChangeSpec) : _root_.Go.OpenSpec := { _root_.Go.OpenSpec.ofChange s with cond := some uptoSmall }

/-- 'umbellaw12.GetTells', WHERE WHAT IT READS IS OF BULK AT MOST 1048576: true; the input reads as it did. -/
def getTellsUptoRow : OpenClaim := { program := "ytimmbnipagnbfaadoor", sum := "1f8ce95f29933d4233783547aa17af48b88cae539642dfb49791c1951b115d46", func := "umbel/umbellaw12.GetTells", spec := "getTells", recurses := true, named := ["umbel/nibble.upper"], apart := false, laid := [("umbel/nibble.upper", laid_umbel_nibble_upper)], narrowed := true }
def GetTellsUptoSaid : Prop := getTellsUptoRow.holds Tryd.pinned (OpenSpec.upto getTellsSpec)

/-- 'umbellaw12.GetPairs', WHERE WHAT IT READS IS OF BULK AT MOST 1048576: true; the input reads as it did. -/
def getPairsUptoRow : OpenClaim := { program := "ytimmbnipagnbfaadoor", sum := "1f8ce95f29933d4233783547aa17af48b88cae539642dfb49791c1951b115d46", func := "umbel/umbellaw12.GetPairs", spec := "getPairs", recurses := true, named := ["umbel/nibble.upper"], apart := false, laid := [("umbel/nibble.upper", laid_umbel_nibble_upper)], narrowed := true }
def GetPairsUptoSaid : Prop := getPairsUptoRow.holds Tryd.pinned (OpenSpec.upto getPairsSpec)

/-- 'umbellaw12.GetWalks', WHERE WHAT IT READS IS OF BULK AT MOST 1048576: true; the input reads as it did. -/
def getWalksUptoRow : OpenClaim := { program := "ytimmbnipagnbfaadoor", sum := "1f8ce95f29933d4233783547aa17af48b88cae539642dfb49791c1951b115d46", func := "umbel/umbellaw12.GetWalks", spec := "getWalks", recurses := true, named := ["umbel/nibble.upper"], apart := false, laid := [("umbel/nibble.upper", laid_umbel_nibble_upper)], narrowed := true }
def GetWalksUptoSaid : Prop := getWalksUptoRow.holds Tryd.pinned (OpenSpec.upto getWalksSpec)

/-- 'umbellaw12.GetPrefix', WHERE WHAT IT READS IS OF BULK AT MOST 1048576: true; the input reads as it did. -/
def getPrefixUptoRow : OpenClaim := { program := "ytimmbnipagnbfaadoor", sum := "1f8ce95f29933d4233783547aa17af48b88cae539642dfb49791c1951b115d46", func := "umbel/umbellaw12.GetPrefix", spec := "getPrefix", recurses := true, named := ["umbel/nibble.upper"], apart := false, laid := [("umbel/nibble.upper", laid_umbel_nibble_upper)], narrowed := true }
def GetPrefixUptoSaid : Prop := getPrefixUptoRow.holds Tryd.pinned (OpenSpec.upto getPrefixSpec)

/-- 'umbellaw12.GetWay', WHERE WHAT IT READS IS OF BULK AT MOST 1048576: true; the input reads as it did. -/
def getWayUptoRow : OpenClaim := { program := "ytimmbnipagnbfaadoor", sum := "1f8ce95f29933d4233783547aa17af48b88cae539642dfb49791c1951b115d46", func := "umbel/umbellaw12.GetWay", spec := "getWay", recurses := true, named := ["umbel/nibble.upper"], apart := false, laid := [("umbel/nibble.upper", laid_umbel_nibble_upper)], narrowed := true }
def GetWayUptoSaid : Prop := getWayUptoRow.holds Tryd.pinned (OpenSpec.upto getWaySpec)

end Rows
end Go.Proofs.YtimmbnipagnbfaaDoor
