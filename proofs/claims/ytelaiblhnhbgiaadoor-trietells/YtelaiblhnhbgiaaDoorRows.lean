/-
  NARROWER THAN 'FOR EVERY INPUT', by the rows' own cells (each row's printed sentence says how): TrieTells: laid · TrieBack: laid · TrieShape: laid · TriePrefix: laid · TrieRefused: laid.
  DERIVED. THE GIVEN ROWS OF THIS SEAT. 5 by the template 'for every input the law returns true; each argument reads behind the call as it read before'; 0 by the template 'total and deterministic' (their statements: YtelaiblhnhbgiaaDoorTotals.lean).
  GIVEN WITH THE SEED: the statements are not yours to turn. If you find one false, say at which input.
  Laid BY PROGRAM, IN A SANDBOX (cutbox-rows.mjs): the forced cells as the released guide's own fill.sh prints them over the translation 8eb4d4097d76925c… (all of the seat's roots in one cut). By AI agents, Wed Nov 11 2026. No macro, syntax, notation, axiom, sorry.
-/
import Derived.Test.YtelaiblhnhbgiaaDoorChecked
import GoSem.Claim
import GoSem.ClaimJoined
import GoSem.ClaimMapViews
import Derived.JoinedTies
import Derived.KernelRfl
namespace Go.Proofs.YtelaiblhnhbgiaaDoor
/- THE CELL 'sum', in the pinned program and in every row, IS THE sha256 OF THE DUMP (.gsa) THAT YtelaiblhnhbgiaaDoorProg.lean LOADS. Nothing in Lean hashes anything: it is a label: what it is worth is what the hold of that sum in a sandbox is worth. -/
noncomputable def Tryd.pinned : Pinned := { name := "ytelaiblhnhbgiaadoor", sum := "8eb4d4097d76925ce537a2edc8a0e287adb873ef3ba9701ae93eba1145b6dc4f", checked := Tryd.checked }
namespace Rows
def none {H : Type} : Left H := { results := [], args := [] }

/- WHAT THE LISTED PACKAGE-LEVEL VARIABLES READ AS WHEN THE CALL BEGINS. Each datum BY PROGRAM (the guide's laid-datum.mjs) off the statement by which the dump's own 'gosem.cut.vars' lays the variable. In a bare row this is a premise. The card (YtelaiblhnhbgiaaDoorCards.lean) ties it to the program's text. -/
def laid_umbel_nibble_upper {H : Type} : DataW H := .agg [.lit (.int .u8 0), .lit (.int .u8 16), .lit (.int .u8 32), .lit (.int .u8 48), .lit (.int .u8 64), .lit (.int .u8 80), .lit (.int .u8 96), .lit (.int .u8 112), .lit (.int .u8 128), .lit (.int .u8 144), .lit (.int .u8 160), .lit (.int .u8 176), .lit (.int .u8 192), .lit (.int .u8 208), .lit (.int .u8 224), .lit (.int .u8 240)]

/-- 'umbellaw10.TrieTells': WHATEVER THE INPUT: true; the input reads as it did. -/
def trieTellsSpec : ChangeSpec := { name := "trieTells", fn := fun _ => fun
  | [d1, d2, d3] => { results := [.lit (.bool true)], args := [d1, d2, d3] }
  | _ => none }
def trieTellsRow : OpenClaim := { program := "ytelaiblhnhbgiaadoor", sum := "8eb4d4097d76925ce537a2edc8a0e287adb873ef3ba9701ae93eba1145b6dc4f", func := "umbel/umbellaw10.TrieTells", spec := "trieTells", recurses := true, named := ["umbel/nibble.upper"], apart := false, laid := [("umbel/nibble.upper", laid_umbel_nibble_upper)] }
def TrieTellsSaid : Prop := trieTellsRow.holds Tryd.pinned (OpenSpec.ofChange trieTellsSpec)

/-- ITS FALSE NEIGHBOUR: 'it returns false'. Refute it at one input. -/
def trieTellsWrong : ChangeSpec := { name := "trieTells", fn := fun _ => fun
  | [d1, d2, d3] => { results := [.lit (.bool false)], args := [d1, d2, d3] }
  | _ => none }
def TrieTellsWrongFalsely : Prop := trieTellsRow.holds Tryd.pinned (OpenSpec.ofChange trieTellsWrong)

/-- 'umbellaw10.TrieBack': WHATEVER THE INPUT: true; the input reads as it did. -/
def trieBackSpec : ChangeSpec := { name := "trieBack", fn := fun _ => fun
  | [d1, d2] => { results := [.lit (.bool true)], args := [d1, d2] }
  | _ => none }
def trieBackRow : OpenClaim := { program := "ytelaiblhnhbgiaadoor", sum := "8eb4d4097d76925ce537a2edc8a0e287adb873ef3ba9701ae93eba1145b6dc4f", func := "umbel/umbellaw10.TrieBack", spec := "trieBack", recurses := true, named := ["umbel/nibble.upper"], apart := false, laid := [("umbel/nibble.upper", laid_umbel_nibble_upper)] }
def TrieBackSaid : Prop := trieBackRow.holds Tryd.pinned (OpenSpec.ofChange trieBackSpec)

/-- ITS FALSE NEIGHBOUR: 'it returns false'. Refute it at one input. -/
def trieBackWrong : ChangeSpec := { name := "trieBack", fn := fun _ => fun
  | [d1, d2] => { results := [.lit (.bool false)], args := [d1, d2] }
  | _ => none }
def TrieBackWrongFalsely : Prop := trieBackRow.holds Tryd.pinned (OpenSpec.ofChange trieBackWrong)

/-- 'umbellaw10.TrieShape': WHATEVER THE INPUT: true; the input reads as it did. -/
def trieShapeSpec : ChangeSpec := { name := "trieShape", fn := fun _ => fun
  | [d] => { results := [.lit (.bool true)], args := [d] }
  | _ => none }
def trieShapeRow : OpenClaim := { program := "ytelaiblhnhbgiaadoor", sum := "8eb4d4097d76925ce537a2edc8a0e287adb873ef3ba9701ae93eba1145b6dc4f", func := "umbel/umbellaw10.TrieShape", spec := "trieShape", recurses := true, named := ["umbel/nibble.upper"], apart := false, laid := [("umbel/nibble.upper", laid_umbel_nibble_upper)] }
def TrieShapeSaid : Prop := trieShapeRow.holds Tryd.pinned (OpenSpec.ofChange trieShapeSpec)

/-- ITS FALSE NEIGHBOUR: 'it returns false'. Refute it at one input. -/
def trieShapeWrong : ChangeSpec := { name := "trieShape", fn := fun _ => fun
  | [d] => { results := [.lit (.bool false)], args := [d] }
  | _ => none }
def TrieShapeWrongFalsely : Prop := trieShapeRow.holds Tryd.pinned (OpenSpec.ofChange trieShapeWrong)

/-- 'umbellaw10.TriePrefix': WHATEVER THE INPUT: true; the input reads as it did. -/
def triePrefixSpec : ChangeSpec := { name := "triePrefix", fn := fun _ => fun
  | [d1, d2] => { results := [.lit (.bool true)], args := [d1, d2] }
  | _ => none }
def triePrefixRow : OpenClaim := { program := "ytelaiblhnhbgiaadoor", sum := "8eb4d4097d76925ce537a2edc8a0e287adb873ef3ba9701ae93eba1145b6dc4f", func := "umbel/umbellaw10.TriePrefix", spec := "triePrefix", recurses := true, named := ["umbel/nibble.upper"], apart := false, laid := [("umbel/nibble.upper", laid_umbel_nibble_upper)] }
def TriePrefixSaid : Prop := triePrefixRow.holds Tryd.pinned (OpenSpec.ofChange triePrefixSpec)

/-- ITS FALSE NEIGHBOUR: 'it returns false'. Refute it at one input. -/
def triePrefixWrong : ChangeSpec := { name := "triePrefix", fn := fun _ => fun
  | [d1, d2] => { results := [.lit (.bool false)], args := [d1, d2] }
  | _ => none }
def TriePrefixWrongFalsely : Prop := triePrefixRow.holds Tryd.pinned (OpenSpec.ofChange triePrefixWrong)

/-- 'umbellaw10.TrieRefused': WHATEVER THE INPUT: true; the input reads as it did. -/
def trieRefusedSpec : ChangeSpec := { name := "trieRefused", fn := fun _ => fun
  | [d1, d2] => { results := [.lit (.bool true)], args := [d1, d2] }
  | _ => none }
def trieRefusedRow : OpenClaim := { program := "ytelaiblhnhbgiaadoor", sum := "8eb4d4097d76925ce537a2edc8a0e287adb873ef3ba9701ae93eba1145b6dc4f", func := "umbel/umbellaw10.TrieRefused", spec := "trieRefused", recurses := true, named := ["umbel/nibble.upper"], apart := false, laid := [("umbel/nibble.upper", laid_umbel_nibble_upper)] }
def TrieRefusedSaid : Prop := trieRefusedRow.holds Tryd.pinned (OpenSpec.ofChange trieRefusedSpec)

/-- ITS FALSE NEIGHBOUR: 'it returns false'. Refute it at one input. -/
def trieRefusedWrong : ChangeSpec := { name := "trieRefused", fn := fun _ => fun
  | [d1, d2] => { results := [.lit (.bool false)], args := [d1, d2] }
  | _ => none }
def TrieRefusedWrongFalsely : Prop := trieRefusedRow.holds Tryd.pinned (OpenSpec.ofChange trieRefusedWrong)

/- THE SECOND FORM. 'bulk': how many values and letters a reading holds, each counted each time it is reached (what is shared counts as often as it is met; a slice's spare places count too). A statement '..UptoSaid' is the law's where the arguments, and the package variables that the reading takes, are together of bulk at most 1048576: NARROWER than '..Said'. Prove '..Said' where nothing that the law and all that it calls make is longer than what came in: it says more and counts as full. Else prove '..UptoSaid'. A law counts once. -/
mutual
def uptoBulk {H : Type} : DataW H → Nat
  | .lit (.string bytes) => bytes.length + 1
  | .lit _ => 1
  | .nil => 1
  | .ptr d => uptoBulk d + 1
  | .slice elems spare => uptoBulkAll elems + uptoBulkAll spare + 1
  | .agg parts => uptoBulkAll parts + 1
  | .iface _ d => uptoBulk d + 1
  | .map entries => uptoBulkEntries entries + 1
  | .held _ => 1
def uptoBulkAll {H : Type} : List (DataW H) → Nat
  | [] => 0
  | d :: r => uptoBulk d + uptoBulkAll r
def uptoBulkEntries {H : Type} : List (Lit × DataW H) → Nat
  | [] => 0
  | x :: r => uptoBulkEntry x + uptoBulkEntries r
def uptoBulkEntry {H : Type} : Lit × DataW H → Nat
  | (.string bytes, d) => bytes.length + uptoBulk d + 1
  | (_, d) => uptoBulk d + 1
 end
def uptoSmall : (H : Type) → List (DataW H) → Bool := fun _ ds => decide (uptoBulkAll ds ≤ 1048576)
def OpenSpec.upto (s : _root_.Go.ChangeSpec) : _root_.Go.OpenSpec := { _root_.Go.OpenSpec.ofChange s with cond := some uptoSmall }

/-- 'umbellaw10.TrieTells', WHERE WHAT IT READS IS OF BULK AT MOST 1048576: true; the input reads as it did. -/
def trieTellsUptoRow : OpenClaim := { program := "ytelaiblhnhbgiaadoor", sum := "8eb4d4097d76925ce537a2edc8a0e287adb873ef3ba9701ae93eba1145b6dc4f", func := "umbel/umbellaw10.TrieTells", spec := "trieTells", recurses := true, named := ["umbel/nibble.upper"], apart := false, laid := [("umbel/nibble.upper", laid_umbel_nibble_upper)], narrowed := true }
def TrieTellsUptoSaid : Prop := trieTellsUptoRow.holds Tryd.pinned (OpenSpec.upto trieTellsSpec)

/-- 'umbellaw10.TrieBack', WHERE WHAT IT READS IS OF BULK AT MOST 1048576: true; the input reads as it did. -/
def trieBackUptoRow : OpenClaim := { program := "ytelaiblhnhbgiaadoor", sum := "8eb4d4097d76925ce537a2edc8a0e287adb873ef3ba9701ae93eba1145b6dc4f", func := "umbel/umbellaw10.TrieBack", spec := "trieBack", recurses := true, named := ["umbel/nibble.upper"], apart := false, laid := [("umbel/nibble.upper", laid_umbel_nibble_upper)], narrowed := true }
def TrieBackUptoSaid : Prop := trieBackUptoRow.holds Tryd.pinned (OpenSpec.upto trieBackSpec)

/-- 'umbellaw10.TrieShape', WHERE WHAT IT READS IS OF BULK AT MOST 1048576: true; the input reads as it did. -/
def trieShapeUptoRow : OpenClaim := { program := "ytelaiblhnhbgiaadoor", sum := "8eb4d4097d76925ce537a2edc8a0e287adb873ef3ba9701ae93eba1145b6dc4f", func := "umbel/umbellaw10.TrieShape", spec := "trieShape", recurses := true, named := ["umbel/nibble.upper"], apart := false, laid := [("umbel/nibble.upper", laid_umbel_nibble_upper)], narrowed := true }
def TrieShapeUptoSaid : Prop := trieShapeUptoRow.holds Tryd.pinned (OpenSpec.upto trieShapeSpec)

/-- 'umbellaw10.TriePrefix', WHERE WHAT IT READS IS OF BULK AT MOST 1048576: true; the input reads as it did. -/
def triePrefixUptoRow : OpenClaim := { program := "ytelaiblhnhbgiaadoor", sum := "8eb4d4097d76925ce537a2edc8a0e287adb873ef3ba9701ae93eba1145b6dc4f", func := "umbel/umbellaw10.TriePrefix", spec := "triePrefix", recurses := true, named := ["umbel/nibble.upper"], apart := false, laid := [("umbel/nibble.upper", laid_umbel_nibble_upper)], narrowed := true }
def TriePrefixUptoSaid : Prop := triePrefixUptoRow.holds Tryd.pinned (OpenSpec.upto triePrefixSpec)

/-- 'umbellaw10.TrieRefused', WHERE WHAT IT READS IS OF BULK AT MOST 1048576: true; the input reads as it did. -/
def trieRefusedUptoRow : OpenClaim := { program := "ytelaiblhnhbgiaadoor", sum := "8eb4d4097d76925ce537a2edc8a0e287adb873ef3ba9701ae93eba1145b6dc4f", func := "umbel/umbellaw10.TrieRefused", spec := "trieRefused", recurses := true, named := ["umbel/nibble.upper"], apart := false, laid := [("umbel/nibble.upper", laid_umbel_nibble_upper)], narrowed := true }
def TrieRefusedUptoSaid : Prop := trieRefusedUptoRow.holds Tryd.pinned (OpenSpec.upto trieRefusedSpec)

end Rows
end Go.Proofs.YtelaiblhnhbgiaaDoor
