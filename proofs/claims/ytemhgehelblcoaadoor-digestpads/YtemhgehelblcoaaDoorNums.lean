/-
  An argument that is an unsigned number, as a natural with its bound.
-/
import Derived.Test.YtemhgehelblcoaaDoorCard
namespace Go.Proofs.YtemhgehelblcoaaDoor
open Go.RowKit

theorem nat_u32 {a : Int} (h : (Lit.int .u32 a).wf = true) : ∃ n : Nat, a = (n : Int) ∧ n < 4294967296 := by
  have hb := bounds_u32 h
  exact ⟨a.toNat, by omega, by omega⟩
theorem nat_u16 {a : Int} (h : (Lit.int .u16 a).wf = true) : ∃ n : Nat, a = (n : Int) ∧ n < 65536 := by
  have hb := bounds_u16 h
  exact ⟨a.toNat, by omega, by omega⟩
end Go.Proofs.YtemhgehelblcoaaDoor
