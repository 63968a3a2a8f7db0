/-
  NARROWER THAN 'FOR EVERY INPUT', by the rows' own cells (each row's printed sentence says how): SumTells: laid · SumRows: laid · SumTurned: laid · SumBits: laid.
  DERIVED. THE GIVEN ROWS OF THIS SEAT. 4 by the template 'for every input the law returns true; each argument reads behind the call as it read before'; 0 by the template 'total and deterministic' (their statements: YtoiabnehdncgjaaDoorTotals.lean).
  GIVEN WITH THE SEED: the statements are not yours to turn. If you find one false, say at which input.
  Laid BY PROGRAM, IN A SANDBOX (cutbox-rows.mjs): the forced cells as the released guide's own fill.sh prints them over the translation 4e66d99042f5970c… (all of the seat's roots in one cut). By AI agents, Wed Nov 11 2026. No macro, syntax, notation, axiom, sorry.
-/
import Derived.Test.YtoiabnehdncgjaaDoorChecked
import GoSem.Claim
import GoSem.ClaimJoined
import GoSem.ClaimMapViews
import Derived.JoinedTies
import Derived.KernelRfl
namespace Go.Proofs.YtoiabnehdncgjaaDoor
/- THE CELL 'sum', in the pinned program and in every row, IS THE sha256 OF THE DUMP (.gsa) THAT YtoiabnehdncgjaaDoorProg.lean LOADS. Nothing in Lean hashes anything: it is a label: what it is worth is what the hold of that sum in a sandbox is worth. -/
noncomputable def Tryd.pinned : Pinned := { name := "ytoiabnehdncgjaadoor", sum := "4e66d99042f5970c9a6ad19fbff1643139fb4f4225dd5b505f9eee3ae7c2ea26", checked := Tryd.checked }
namespace Rows
def none {H : Type} : Left H := { results := [], args := [] }

/- WHAT THE LISTED PACKAGE-LEVEL VARIABLES READ AS WHEN THE CALL BEGINS. Each datum BY PROGRAM (the guide's laid-datum.mjs) off the statement by which the dump's own 'gosem.cut.vars' lays the variable. In a bare row this is a premise. The card (YtoiabnehdncgjaaDoorCards.lean) ties it to the program's text. -/
def laid_umbel_sum_steps {H : Type} : DataW H := .agg [.lit (.int .u32 0), .lit (.int .u32 274646895), .lit (.int .u32 549293790), .lit (.int .u32 820201905), .lit (.int .u32 1098587580), .lit (.int .u32 1361435347), .lit (.int .u32 1640403810), .lit (.int .u32 1905808397), .lit (.int .u32 2197175160), .lit (.int .u32 2460548119), .lit (.int .u32 2722870694), .lit (.int .u32 2987750089), .lit (.int .u32 3280807620), .lit (.int .u32 3553878443), .lit (.int .u32 3811616794), .lit (.int .u32 4084100981)]

/-- 'umbellaw03.SumTells': WHATEVER THE INPUT: true; the input reads as it did. -/
def sumTellsSpec : ChangeSpec := { name := "sumTells", fn := fun _ => fun
  | [d1, d2] => { results := [.lit (.bool true)], args := [d1, d2] }
  | _ => none }
def sumTellsRow : OpenClaim := { program := "ytoiabnehdncgjaadoor", sum := "4e66d99042f5970c9a6ad19fbff1643139fb4f4225dd5b505f9eee3ae7c2ea26", func := "umbel/umbellaw03.SumTells", spec := "sumTells", named := ["umbel/sum.steps"], apart := false, laid := [("umbel/sum.steps", laid_umbel_sum_steps)] }
def SumTellsSaid : Prop := sumTellsRow.holds Tryd.pinned (OpenSpec.ofChange sumTellsSpec)

/-- ITS FALSE NEIGHBOUR: 'it returns false'. Refute it at one input. -/
def sumTellsWrong : ChangeSpec := { name := "sumTells", fn := fun _ => fun
  | [d1, d2] => { results := [.lit (.bool false)], args := [d1, d2] }
  | _ => none }
def SumTellsWrongFalsely : Prop := sumTellsRow.holds Tryd.pinned (OpenSpec.ofChange sumTellsWrong)

/-- 'umbellaw03.SumRows': WHATEVER THE INPUT: true; the input reads as it did. -/
def sumRowsSpec : ChangeSpec := { name := "sumRows", fn := fun _ => fun
  | [d1, d2] => { results := [.lit (.bool true)], args := [d1, d2] }
  | _ => none }
def sumRowsRow : OpenClaim := { program := "ytoiabnehdncgjaadoor", sum := "4e66d99042f5970c9a6ad19fbff1643139fb4f4225dd5b505f9eee3ae7c2ea26", func := "umbel/umbellaw03.SumRows", spec := "sumRows", named := ["umbel/sum.steps"], apart := false, laid := [("umbel/sum.steps", laid_umbel_sum_steps)] }
def SumRowsSaid : Prop := sumRowsRow.holds Tryd.pinned (OpenSpec.ofChange sumRowsSpec)

/-- ITS FALSE NEIGHBOUR: 'it returns false'. Refute it at one input. -/
def sumRowsWrong : ChangeSpec := { name := "sumRows", fn := fun _ => fun
  | [d1, d2] => { results := [.lit (.bool false)], args := [d1, d2] }
  | _ => none }
def SumRowsWrongFalsely : Prop := sumRowsRow.holds Tryd.pinned (OpenSpec.ofChange sumRowsWrong)

/-- 'umbellaw03.SumTurned': WHATEVER THE INPUT: true; the input reads as it did. -/
def sumTurnedSpec : ChangeSpec := { name := "sumTurned", fn := fun _ => fun
  | [d1, d2, d3] => { results := [.lit (.bool true)], args := [d1, d2, d3] }
  | _ => none }
def sumTurnedRow : OpenClaim := { program := "ytoiabnehdncgjaadoor", sum := "4e66d99042f5970c9a6ad19fbff1643139fb4f4225dd5b505f9eee3ae7c2ea26", func := "umbel/umbellaw03.SumTurned", spec := "sumTurned", named := ["umbel/sum.steps"], apart := false, laid := [("umbel/sum.steps", laid_umbel_sum_steps)] }
def SumTurnedSaid : Prop := sumTurnedRow.holds Tryd.pinned (OpenSpec.ofChange sumTurnedSpec)

/-- ITS FALSE NEIGHBOUR: 'it returns false'. Refute it at one input. -/
def sumTurnedWrong : ChangeSpec := { name := "sumTurned", fn := fun _ => fun
  | [d1, d2, d3] => { results := [.lit (.bool false)], args := [d1, d2, d3] }
  | _ => none }
def SumTurnedWrongFalsely : Prop := sumTurnedRow.holds Tryd.pinned (OpenSpec.ofChange sumTurnedWrong)

/-- 'umbellaw03.SumBits': WHATEVER THE INPUT: true; the input reads as it did. -/
def sumBitsSpec : ChangeSpec := { name := "sumBits", fn := fun _ => fun
  | [d1, d2, d3] => { results := [.lit (.bool true)], args := [d1, d2, d3] }
  | _ => none }
def sumBitsRow : OpenClaim := { program := "ytoiabnehdncgjaadoor", sum := "4e66d99042f5970c9a6ad19fbff1643139fb4f4225dd5b505f9eee3ae7c2ea26", func := "umbel/umbellaw03.SumBits", spec := "sumBits", named := ["umbel/sum.steps"], apart := false, laid := [("umbel/sum.steps", laid_umbel_sum_steps)] }
def SumBitsSaid : Prop := sumBitsRow.holds Tryd.pinned (OpenSpec.ofChange sumBitsSpec)

/-- ITS FALSE NEIGHBOUR: 'it returns false'. Refute it at one input. -/
def sumBitsWrong : ChangeSpec := { name := "sumBits", fn := fun _ => fun
  | [d1, d2, d3] => { results := [.lit (.bool false)], args := [d1, d2, d3] }
  | _ => none }
def SumBitsWrongFalsely : Prop := sumBitsRow.holds Tryd.pinned (OpenSpec.ofChange sumBitsWrong)

/- THE SECOND FORM. 'bulk': how many values and letters a reading holds, each counted each time it is reached (what is shared counts as often as it is met; a slice's spare places count too). A statement '..UptoSaid' is the law's where the arguments, and the package variables that the reading takes, are together of bulk at most 1048576: NARROWER than '..Said'. Prove '..Said' where nothing that the law and all that it calls make is longer than what came in: it says more and counts as full. Else prove '..UptoSaid'. A law counts once. -/
mutual
def uptoBulk {H : Type} : DataW H → Nat
  | .lit (.string bytes) => bytes.length + 1
  | .lit _ => 1
  | .nil => 1
  | .ptr d => uptoBulk d + 1
  | .slice elems spare => uptoBulkAll elems + uptoBulkAll spare + 1
  | .agg parts => uptoBulkAll parts + 1
  | .iface _ d => uptoBulk d + 1
  | .map entries => uptoBulkEntries entries + 1
  | .held _ => 1
def uptoBulkAll {H : Type} : List (DataW H) → Nat
  | [] => 0
  | d :: r => uptoBulk d + uptoBulkAll r
def uptoBulkEntries {H : Type} : List (Lit × DataW H) → Nat
  | [] => 0
  | x :: r => uptoBulkEntry x + uptoBulkEntries r
def uptoBulkEntry {H : Type} : Lit × DataW H → Nat
  | (.string bytes, d) => bytes.length + uptoBulk d + 1
  | (_, d) => uptoBulk d + 1
 end
def uptoSmall : (H : Type) → List (DataW H) → Bool := fun _ ds => decide (uptoBulkAll ds ≤ 1048576)
def OpenSpec.upto (s : _root_.Go.ChangeSpec) : _root_.Go.OpenSpec := { _root_.Go.OpenSpec.ofChange s with cond := some uptoSmall }

/-- 'umbellaw03.SumTells', WHERE WHAT IT READS IS OF BULK AT MOST 1048576: true; the input reads as it did. -/
def sumTellsUptoRow : OpenClaim := { program := "ytoiabnehdncgjaadoor", sum := "4e66d99042f5970c9a6ad19fbff1643139fb4f4225dd5b505f9eee3ae7c2ea26", func := "umbel/umbellaw03.SumTells", spec := "sumTells", named := ["umbel/sum.steps"], apart := false, laid := [("umbel/sum.steps", laid_umbel_sum_steps)], narrowed := true }
def SumTellsUptoSaid : Prop := sumTellsUptoRow.holds Tryd.pinned (OpenSpec.upto sumTellsSpec)

/-- 'umbellaw03.SumRows', WHERE WHAT IT READS IS OF BULK AT MOST 1048576: true; the input reads as it did. -/
def sumRowsUptoRow : OpenClaim := { program := "ytoiabnehdncgjaadoor", sum := "4e66d99042f5970c9a6ad19fbff1643139fb4f4225dd5b505f9eee3ae7c2ea26", func := "umbel/umbellaw03.SumRows", spec := "sumRows", named := ["umbel/sum.steps"], apart := false, laid := [("umbel/sum.steps", laid_umbel_sum_steps)], narrowed := true }
def SumRowsUptoSaid : Prop := sumRowsUptoRow.holds Tryd.pinned (OpenSpec.upto sumRowsSpec)

/-- 'umbellaw03.SumTurned', WHERE WHAT IT READS IS OF BULK AT MOST 1048576: true; the input reads as it did. -/
def sumTurnedUptoRow : OpenClaim := { program := "ytoiabnehdncgjaadoor", sum := "4e66d99042f5970c9a6ad19fbff1643139fb4f4225dd5b505f9eee3ae7c2ea26", func := "umbel/umbellaw03.SumTurned", spec := "sumTurned", named := ["umbel/sum.steps"], apart := false, laid := [("umbel/sum.steps", laid_umbel_sum_steps)], narrowed := true }
def SumTurnedUptoSaid : Prop := sumTurnedUptoRow.holds Tryd.pinned (OpenSpec.upto sumTurnedSpec)

/-- 'umbellaw03.SumBits', WHERE WHAT IT READS IS OF BULK AT MOST 1048576: true; the input reads as it did. -/
def sumBitsUptoRow : OpenClaim := { program := "ytoiabnehdncgjaadoor", sum := "4e66d99042f5970c9a6ad19fbff1643139fb4f4225dd5b505f9eee3ae7c2ea26", func := "umbel/umbellaw03.SumBits", spec := "sumBits", named := ["umbel/sum.steps"], apart := false, laid := [("umbel/sum.steps", laid_umbel_sum_steps)], narrowed := true }
def SumBitsUptoSaid : Prop := sumBitsUptoRow.holds Tryd.pinned (OpenSpec.upto sumBitsSpec)

end Rows
end Go.Proofs.YtoiabnehdncgjaaDoor
