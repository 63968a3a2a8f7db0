/-
  Rows of pages in memory; a disk in memory; what a call may change.
-/
import Derived.Test.YtkcoclpbkealgaaDoorRows
import Derived.Test.YtkcoclpbkealgaaDoorPgPlain
import Derived.Test.YtkcoclpbkealgaaDoorHold
import Derived.Deep.AppendLies
import Derived.OwnWalk
import Derived.Laws.BytesString
namespace Go.Proofs.YtkcoclpbkealgaaDoor
open Go.RowKit
set_option maxRecDepth 20000

theorem cellsL_inj : ∀ {l m : List UInt8}, cellsL l = cellsL m → l = m
  | [], [], _ => rfl
  | [], _ :: _, h => by simp [cellsL] at h
  | _ :: _, [], h => by simp [cellsL] at h
  | a :: l, b :: m, h => by
    simp only [cellsL, List.map_cons, List.cons.injEq] at h
    obtain ⟨h1, h2⟩ := h
    have h3 : a.toNat = b.toNat := by injection h1; omega
    rw [UInt8.toNat_inj.1 h3, cellsL_inj (l := l) (m := m) h2]

section
variable {P : Program}
end

theorem ret_u32 {a b : Int} (h : a = b) : Ending.returned (.int .u32 a) = .returned (.int .u32 b) := by rw [h]

end Go.Proofs.YtkcoclpbkealgaaDoor
