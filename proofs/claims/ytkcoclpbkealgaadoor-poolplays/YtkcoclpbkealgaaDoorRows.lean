/-
  NARROWER THAN 'FOR EVERY INPUT', by the rows' own cells (each row's printed sentence says how): PoolPlays: laid · PoolReads: laid · PoolNone: laid · PoolPins: laid · PoolDirty: laid.
  DERIVED. THE GIVEN ROWS OF THIS SEAT. 5 by the template 'for every input the law returns true; each argument reads behind the call as it read before'; 0 by the template 'total and deterministic' (their statements: YtkcoclpbkealgaaDoorTotals.lean).
  GIVEN WITH THE SEED: the statements are not yours to turn. If you find one false, say at which input.
  Laid BY PROGRAM, IN A SANDBOX (cutbox-rows.mjs): the forced cells as the released guide's own fill.sh prints them over the translation 1efc12962348c566… (all of the seat's roots in one cut). By AI agents, Wed Nov 11 2026. No macro, syntax, notation, axiom, sorry.
-/
import Derived.Test.YtkcoclpbkealgaaDoorChecked
import GoSem.Claim
import GoSem.ClaimJoined
import GoSem.ClaimMapViews
import Derived.JoinedTies
import Derived.KernelRfl
namespace Go.Proofs.YtkcoclpbkealgaaDoor
/- THE CELL 'sum', in the pinned program and in every row, IS THE sha256 OF THE DUMP (.gsa) THAT YtkcoclpbkealgaaDoorProg.lean LOADS. Nothing in Lean hashes anything: it is a label: what it is worth is what the hold of that sum in a sandbox is worth. -/
noncomputable def Tryd.pinned : Pinned := { name := "ytkcoclpbkealgaadoor", sum := "1efc12962348c5661af61f5c019fbdf50ebe3841ea4a35f516dc9bd908934438", checked := Tryd.checked }
namespace Rows
def none {H : Type} : Left H := { results := [], args := [] }

/- WHAT THE LISTED PACKAGE-LEVEL VARIABLES READ AS WHEN THE CALL BEGINS. Each datum BY PROGRAM (the guide's laid-datum.mjs) off the statement by which the dump's own 'gosem.cut.vars' lays the variable. In a bare row this is a premise. The card (YtkcoclpbkealgaaDoorCards.lean) ties it to the program's text. -/
def laid_umbel_sum_steps {H : Type} : DataW H := .agg [.lit (.int .u32 0), .lit (.int .u32 274646895), .lit (.int .u32 549293790), .lit (.int .u32 820201905), .lit (.int .u32 1098587580), .lit (.int .u32 1361435347), .lit (.int .u32 1640403810), .lit (.int .u32 1905808397), .lit (.int .u32 2197175160), .lit (.int .u32 2460548119), .lit (.int .u32 2722870694), .lit (.int .u32 2987750089), .lit (.int .u32 3280807620), .lit (.int .u32 3553878443), .lit (.int .u32 3811616794), .lit (.int .u32 4084100981)]

/-- 'umbellaw08.PoolPlays': WHATEVER THE INPUT: true; the input reads as it did. -/
def poolPlaysSpec : ChangeSpec := { name := "poolPlays", fn := fun _ => fun
  | [d1, d2, d3] => { results := [.lit (.bool true)], args := [d1, d2, d3] }
  | _ => none }
def poolPlaysRow : OpenClaim := { program := "ytkcoclpbkealgaadoor", sum := "1efc12962348c5661af61f5c019fbdf50ebe3841ea4a35f516dc9bd908934438", func := "umbel/umbellaw08.PoolPlays", spec := "poolPlays", unfollowed := true, recurses := true, named := ["umbel/sum.steps"], apart := false, laid := [("umbel/sum.steps", laid_umbel_sum_steps)] }
def PoolPlaysSaid : Prop := poolPlaysRow.holds Tryd.pinned (OpenSpec.ofChange poolPlaysSpec)

/-- ITS FALSE NEIGHBOUR: 'it returns false'. Refute it at one input. -/
def poolPlaysWrong : ChangeSpec := { name := "poolPlays", fn := fun _ => fun
  | [d1, d2, d3] => { results := [.lit (.bool false)], args := [d1, d2, d3] }
  | _ => none }
def PoolPlaysWrongFalsely : Prop := poolPlaysRow.holds Tryd.pinned (OpenSpec.ofChange poolPlaysWrong)

/-- 'umbellaw08.PoolReads': WHATEVER THE INPUT: true; the input reads as it did. -/
def poolReadsSpec : ChangeSpec := { name := "poolReads", fn := fun _ => fun
  | [d1, d2] => { results := [.lit (.bool true)], args := [d1, d2] }
  | _ => none }
def poolReadsRow : OpenClaim := { program := "ytkcoclpbkealgaadoor", sum := "1efc12962348c5661af61f5c019fbdf50ebe3841ea4a35f516dc9bd908934438", func := "umbel/umbellaw08.PoolReads", spec := "poolReads", unfollowed := true, recurses := true, named := ["umbel/sum.steps"], apart := false, laid := [("umbel/sum.steps", laid_umbel_sum_steps)] }
def PoolReadsSaid : Prop := poolReadsRow.holds Tryd.pinned (OpenSpec.ofChange poolReadsSpec)

/-- ITS FALSE NEIGHBOUR: 'it returns false'. Refute it at one input. -/
def poolReadsWrong : ChangeSpec := { name := "poolReads", fn := fun _ => fun
  | [d1, d2] => { results := [.lit (.bool false)], args := [d1, d2] }
  | _ => none }
def PoolReadsWrongFalsely : Prop := poolReadsRow.holds Tryd.pinned (OpenSpec.ofChange poolReadsWrong)

/-- 'umbellaw08.PoolNone': WHATEVER THE INPUT: true; the input reads as it did. -/
def poolNoneSpec : ChangeSpec := { name := "poolNone", fn := fun _ => fun
  | [d] => { results := [.lit (.bool true)], args := [d] }
  | _ => none }
def poolNoneRow : OpenClaim := { program := "ytkcoclpbkealgaadoor", sum := "1efc12962348c5661af61f5c019fbdf50ebe3841ea4a35f516dc9bd908934438", func := "umbel/umbellaw08.PoolNone", spec := "poolNone", unfollowed := true, recurses := true, named := ["umbel/sum.steps"], apart := false, laid := [("umbel/sum.steps", laid_umbel_sum_steps)] }
def PoolNoneSaid : Prop := poolNoneRow.holds Tryd.pinned (OpenSpec.ofChange poolNoneSpec)

/-- ITS FALSE NEIGHBOUR: 'it returns false'. Refute it at one input. -/
def poolNoneWrong : ChangeSpec := { name := "poolNone", fn := fun _ => fun
  | [d] => { results := [.lit (.bool false)], args := [d] }
  | _ => none }
def PoolNoneWrongFalsely : Prop := poolNoneRow.holds Tryd.pinned (OpenSpec.ofChange poolNoneWrong)

/-- 'umbellaw08.PoolPins': WHATEVER THE INPUT: true; the input reads as it did. -/
def poolPinsSpec : ChangeSpec := { name := "poolPins", fn := fun _ => fun
  | [d1, d2] => { results := [.lit (.bool true)], args := [d1, d2] }
  | _ => none }
def poolPinsRow : OpenClaim := { program := "ytkcoclpbkealgaadoor", sum := "1efc12962348c5661af61f5c019fbdf50ebe3841ea4a35f516dc9bd908934438", func := "umbel/umbellaw08.PoolPins", spec := "poolPins", unfollowed := true, recurses := true, named := ["umbel/sum.steps"], apart := false, laid := [("umbel/sum.steps", laid_umbel_sum_steps)] }
def PoolPinsSaid : Prop := poolPinsRow.holds Tryd.pinned (OpenSpec.ofChange poolPinsSpec)

/-- ITS FALSE NEIGHBOUR: 'it returns false'. Refute it at one input. -/
def poolPinsWrong : ChangeSpec := { name := "poolPins", fn := fun _ => fun
  | [d1, d2] => { results := [.lit (.bool false)], args := [d1, d2] }
  | _ => none }
def PoolPinsWrongFalsely : Prop := poolPinsRow.holds Tryd.pinned (OpenSpec.ofChange poolPinsWrong)

/-- 'umbellaw08.PoolDirty': WHATEVER THE INPUT: true; the input reads as it did. -/
def poolDirtySpec : ChangeSpec := { name := "poolDirty", fn := fun _ => fun
  | [d1, d2] => { results := [.lit (.bool true)], args := [d1, d2] }
  | _ => none }
def poolDirtyRow : OpenClaim := { program := "ytkcoclpbkealgaadoor", sum := "1efc12962348c5661af61f5c019fbdf50ebe3841ea4a35f516dc9bd908934438", func := "umbel/umbellaw08.PoolDirty", spec := "poolDirty", unfollowed := true, recurses := true, named := ["umbel/sum.steps"], apart := false, laid := [("umbel/sum.steps", laid_umbel_sum_steps)] }
def PoolDirtySaid : Prop := poolDirtyRow.holds Tryd.pinned (OpenSpec.ofChange poolDirtySpec)

/-- ITS FALSE NEIGHBOUR: 'it returns false'. Refute it at one input. -/
def poolDirtyWrong : ChangeSpec := { name := "poolDirty", fn := fun _ => fun
  | [d1, d2] => { results := [.lit (.bool false)], args := [d1, d2] }
  | _ => none }
def PoolDirtyWrongFalsely : Prop := poolDirtyRow.holds Tryd.pinned (OpenSpec.ofChange poolDirtyWrong)

/- THE SECOND FORM. 'bulk': how many values and letters a reading holds, each counted each time it is reached (what is shared counts as often as it is met; a slice's spare places count too). A statement '..UptoSaid' is the law's where the arguments, and the package variables that the reading takes, are together of bulk at most 1048576: NARROWER than '..Said'. Prove '..Said' where nothing that the law and all that it calls make is longer than what came in: it says more and counts as full. Else prove '..UptoSaid'. A law counts once. -/
mutual
def uptoBulk {H : Type} : DataW H → Nat
  | .lit (.string bytes) => bytes.length + 1
  | .lit _ => 1
  | .nil => 1
  | .ptr d => uptoBulk d + 1
  | .slice elems spare => uptoBulkAll elems + uptoBulkAll spare + 1
  | .agg parts => uptoBulkAll parts + 1
  | .iface _ d => uptoBulk d + 1
  | .map entries => uptoBulkEntries entries + 1
  | .held _ => 1
def uptoBulkAll {H : Type} : List (DataW H) → Nat
  | [] => 0
  | d :: r => uptoBulk d + uptoBulkAll r
def uptoBulkEntries {H : Type} : List (Lit × DataW H) → Nat
  | [] => 0
  | x :: r => uptoBulkEntry x + uptoBulkEntries r
def uptoBulkEntry {H : Type} : Lit × DataW H → Nat
  | (.string bytes, d) => bytes.length + uptoBulk d + 1
  | (_, d) => uptoBulk d + 1
 end
def uptoSmall : (H : Type) → List (DataW H) → Bool := fun _ ds => decide (uptoBulkAll ds ≤ 1048576)
def OpenSpec.upto (s : _root_.Go.ChangeSpec) : _root_.Go.OpenSpec := { _root_.Go.OpenSpec.ofChange s with cond := some uptoSmall }

/-- 'umbellaw08.PoolPlays', WHERE WHAT IT READS IS OF BULK AT MOST 1048576: true; the input reads as it did. -/
def poolPlaysUptoRow : OpenClaim := { program := "ytkcoclpbkealgaadoor", sum := "1efc12962348c5661af61f5c019fbdf50ebe3841ea4a35f516dc9bd908934438", func := "umbel/umbellaw08.PoolPlays", spec := "poolPlays", unfollowed := true, recurses := true, named := ["umbel/sum.steps"], apart := false, laid := [("umbel/sum.steps", laid_umbel_sum_steps)], narrowed := true }
def PoolPlaysUptoSaid : Prop := poolPlaysUptoRow.holds Tryd.pinned (OpenSpec.upto poolPlaysSpec)

/-- 'umbellaw08.PoolReads', WHERE WHAT IT READS IS OF BULK AT MOST 1048576: true; the input reads as it did. -/
def poolReadsUptoRow : OpenClaim := { program := "ytkcoclpbkealgaadoor", sum := "1efc12962348c5661af61f5c019fbdf50ebe3841ea4a35f516dc9bd908934438", func := "umbel/umbellaw08.PoolReads", spec := "poolReads", unfollowed := true, recurses := true, named := ["umbel/sum.steps"], apart := false, laid := [("umbel/sum.steps", laid_umbel_sum_steps)], narrowed := true }
def PoolReadsUptoSaid : Prop := poolReadsUptoRow.holds Tryd.pinned (OpenSpec.upto poolReadsSpec)

/-- 'umbellaw08.PoolNone', WHERE WHAT IT READS IS OF BULK AT MOST 1048576: true; the input reads as it did. -/
def poolNoneUptoRow : OpenClaim := { program := "ytkcoclpbkealgaadoor", sum := "1efc12962348c5661af61f5c019fbdf50ebe3841ea4a35f516dc9bd908934438", func := "umbel/umbellaw08.PoolNone", spec := "poolNone", unfollowed := true, recurses := true, named := ["umbel/sum.steps"], apart := false, laid := [("umbel/sum.steps", laid_umbel_sum_steps)], narrowed := true }
def PoolNoneUptoSaid : Prop := poolNoneUptoRow.holds Tryd.pinned (OpenSpec.upto poolNoneSpec)

/-- 'umbellaw08.PoolPins', WHERE WHAT IT READS IS OF BULK AT MOST 1048576: true; the input reads as it did. -/
def poolPinsUptoRow : OpenClaim := { program := "ytkcoclpbkealgaadoor", sum := "1efc12962348c5661af61f5c019fbdf50ebe3841ea4a35f516dc9bd908934438", func := "umbel/umbellaw08.PoolPins", spec := "poolPins", unfollowed := true, recurses := true, named := ["umbel/sum.steps"], apart := false, laid := [("umbel/sum.steps", laid_umbel_sum_steps)], narrowed := true }
def PoolPinsUptoSaid : Prop := poolPinsUptoRow.holds Tryd.pinned (OpenSpec.upto poolPinsSpec)

/-- 'umbellaw08.PoolDirty', WHERE WHAT IT READS IS OF BULK AT MOST 1048576: true; the input reads as it did. -/
def poolDirtyUptoRow : OpenClaim := { program := "ytkcoclpbkealgaadoor", sum := "1efc12962348c5661af61f5c019fbdf50ebe3841ea4a35f516dc9bd908934438", func := "umbel/umbellaw08.PoolDirty", spec := "poolDirty", unfollowed := true, recurses := true, named := ["umbel/sum.steps"], apart := false, laid := [("umbel/sum.steps", laid_umbel_sum_steps)], narrowed := true }
def PoolDirtyUptoSaid : Prop := poolDirtyUptoRow.holds Tryd.pinned (OpenSpec.upto poolDirtySpec)

end Rows
end Go.Proofs.YtkcoclpbkealgaaDoor
