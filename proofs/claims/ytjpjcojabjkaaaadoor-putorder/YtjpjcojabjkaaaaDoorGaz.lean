/-
  What the rows' list of variables gives: the table of upper halves lies in the first block; and a world for the witness that holds it.
-/
import Derived.Test.YtjpjcojabjkaaaaDoorGal
import Derived.Test.YtjpjcojabjkaaaaDoorCards
import Derived.Test.YtjpjcojabjkaaaaDoorTie
import Derived.ProofKit
import Derived.OpenShut
import Derived.ShutString
import Derived.Deep.DeepHandedRow
import Derived.Lib.LaidTab
namespace Go.Proofs.YtjpjcojabjkaaaaDoor
open Go.ChangeShapes Go.WideShapes Go.ChangeAt Go.RowKit

theorem ownK : ownKnob Tryd.prog.godebug = none := by kernel_rfl
theorem laidOut : laidOutB Tryd.prog = true := by kernel_rfl
theorem gTab : Tryd.prog.globalNamed "umbel/nibble.upper" = some 0 := by kernel_rfl
theorem gTabType : (Tryd.prog.globals[0]?).map (·.type) = some 100 := by kernel_rfl
theorem cells80 : Tryd.prog.cellsOf 100 = 16 := by kernel_rfl
theorem cells5 : Tryd.prog.cellsOf 5 = 1 := by kernel_rfl
def uppers : List Int := [0, 16, 32, 48, 64, 80, 96, 112, 128, 144, 160, 176, 192, 208, 224, 240]
theorem uppers_at : ∀ i : Nat, i < 16 → uppers.getD i 0 = ((i * 16 : Nat) : Int) := by decide

/-- What the rows' list gives. -/
theorem tab_of {W : World} (h : laidMetH Tryd.prog [("umbel/nibble.upper", Rows.laid_umbel_nibble_upper)] W) : Tab W := by
  have hT : Lib.TabIs Tryd.prog W "umbel/nibble.upper" .u8 uppers := Lib.tabIs_of_head (rest := []) gTab gTabType Tryd.underlying100 Tryd.underlying5 cells5 cells80 h
  have hc : ∀ i : Nat, i < 16 → W.cell? ⟨0, i, none⟩ = some (.int .u8 ((i * 16 : Nat) : Int)) := fun i hi => by
    rw [← uppers_at i hi]
    exact hT.cell gTab i hi
  exact ⟨World.block_lt_of_cell? W _ (hc 0 (by decide)), hc⟩

/-- A world for the witness: the settled one, the table holding what its initialiser lays. -/
def laidWorld (P : Program) (os : Os) : World :=
  { World.holding P os ⟨#[], #[], []⟩ with heap := (World.holding P os ⟨#[], #[], []⟩).heap.modify 0 fun
      | .cells _ t frozen => .cells #[.int .u8 0, .int .u8 16, .int .u8 32, .int .u8 48, .int .u8 64, .int .u8 80, .int .u8 96, .int .u8 112, .int .u8 128, .int .u8 144, .int .u8 160, .int .u8 176, .int .u8 192, .int .u8 208, .int .u8 224, .int .u8 240] t frozen
      | o => o }

end Go.Proofs.YtjpjcojabjkaaaaDoor
