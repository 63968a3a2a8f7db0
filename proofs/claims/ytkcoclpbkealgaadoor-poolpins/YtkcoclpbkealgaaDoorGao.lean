/-
  What the rows' list of variables gives: the table of steps lies in the first block; and a world for the witness that holds it.
-/
import Derived.Test.YtkcoclpbkealgaaDoorGan
import Derived.Test.YtkcoclpbkealgaaDoorCards
import Derived.Test.YtkcoclpbkealgaaDoorTie
import Derived.ProofKit
import Derived.OpenShut
import Derived.ShutString
import Derived.Deep.DeepHandedRow
import Derived.Lib.LaidTab
namespace Go.Proofs.YtkcoclpbkealgaaDoor
open Go.ChangeShapes Go.WideShapes Go.ChangeAt Go.RowKit

theorem ownK : ownKnob Tryd.prog.godebug = none := by kernel_rfl
theorem laidOut : laidOutB Tryd.prog = true := by kernel_rfl
theorem gTab : Tryd.prog.globalNamed "umbel/sum.steps" = some 0 := by kernel_rfl
theorem gTabType : (Tryd.prog.globals[0]?).map (·.type) = some 160 := by kernel_rfl
theorem cells160 : Tryd.prog.cellsOf 160 = 16 := by kernel_rfl
theorem cells128 : Tryd.prog.cellsOf 128 = 1 := by kernel_rfl
def stepsI : List Int := [0, 274646895, 549293790, 820201905, 1098587580, 1361435347, 1640403810, 1905808397, 2197175160, 2460548119, 2722870694, 2987750089, 3280807620, 3553878443, 3811616794, 4084100981]
theorem steps_at : ∀ i : Nat, i < 16 → stepsI.getD i 0 = ((stepsN.getD i 0 : Nat) : Int) := by decide +kernel

/-- What the rows' list gives. -/
theorem tab_of {W : World} (h : laidMetH Tryd.prog [("umbel/sum.steps", Rows.laid_umbel_sum_steps)] W) : Tab W := by
  have hT : Lib.TabIs Tryd.prog W "umbel/sum.steps" .u32 stepsI := Lib.tabIs_of_head (rest := []) gTab gTabType Tryd.underlying160 Tryd.underlying128 cells128 cells160 h
  have hc : ∀ i : Nat, i < 16 → W.cell? ⟨0, i, none⟩ = some (.int .u32 ((stepsN.getD i 0 : Nat) : Int)) := fun i hi => by
    rw [← steps_at i hi]
    exact hT.cell gTab i hi
  exact ⟨World.block_lt_of_cell? W _ (hc 0 (by decide)), hc⟩

/-- A world for the witness: the settled one, the table holding what its initialiser lays. -/
def laidWorld (P : Program) (os : Os) : World :=
  { World.holding P os ⟨#[], #[], []⟩ with heap := (World.holding P os ⟨#[], #[], []⟩).heap.modify 0 fun
      | .cells _ t frozen => .cells #[.int .u32 0, .int .u32 274646895, .int .u32 549293790, .int .u32 820201905, .int .u32 1098587580, .int .u32 1361435347, .int .u32 1640403810, .int .u32 1905808397, .int .u32 2197175160, .int .u32 2460548119, .int .u32 2722870694, .int .u32 2987750089, .int .u32 3280807620, .int .u32 3553878443, .int .u32 3811616794, .int .u32 4084100981] t frozen
      | o => o }

end Go.Proofs.YtkcoclpbkealgaaDoor
