/-
  An array that is a value, indexed by a letter.
-/
import Derived.Test.YtelaiblhnhbgiaaDoorTrNode
namespace Go.Proofs.YtelaiblhnhbgiaaDoor
open Go.RowKit
set_option maxRecDepth 20000

theorem run_index71 (w : World) (gs : List Value) (k : Nat) (v : Value) (h : gs[k]? = some v) (hk : k < 16) : (Instr.index 71 (.agg gs.toArray) (.int .i64 (k : Int))).run Tryd.prog w = .ok v w := by
  simp [Instr.index, asIntOf, Tryd.sizeOf22, part, h, hk, Tryd.isAgg22]
theorem run_index47 (w : World) (gs : List Value) (k : Nat) (v : Value) (h : gs[k]? = some v) (hk : k < 16) : (Instr.index 47 (.agg gs.toArray) (.int .i64 (k : Int))).run Tryd.prog w = .ok v w := by
  simp [Instr.index, asIntOf, Tryd.sizeOf3, part, h, hk, Tryd.isAgg3]

end Go.Proofs.YtelaiblhnhbgiaaDoor
