/-
  PageBack, walked: both ways together.
-/
import Derived.Test.YtlbnikkpfhclgaaDoorBackB
namespace Go.Proofs.YtlbnikkpfhclgaaDoor
open Go.RowKit

theorem back_walk (k g : Int) (s : ByteArray) (x0 x1 x2 : Int) (y : List UInt8) (_ : (Lit.int .i64 k).wf = true) (_ : (Lit.int .i64 g).wf = true) (_ : s.size ≤ maxLen) (_ : (Lit.int .i64 x0).wf = true) (_ : (Lit.int .i64 x1).wf = true) (_ : (Lit.int .i64 x2).wf = true) (hy : y.length = 4) (w : World) (hT : Tab w) :
    Calls Tryd.prog 4 #[.agg #[.int .i64 k, .int .i64 g, .string s], .agg #[.int .i64 x0, .int .i64 x1, .int .i64 x2], .agg (cellsL y).toArray] w fun e w' => e = .returned (.bool true) ∧ New w w' := by
  by_cases h : Fits k x0 g (s.size : Int)
  · obtain ⟨h1, h2, h3, h4, h5, h6, h7⟩ := h
    obtain ⟨k, rfl⟩ : ∃ n : Nat, k = (n : Int) := ⟨k.toNat, by omega⟩
    obtain ⟨x0, rfl⟩ : ∃ n : Nat, x0 = (n : Int) := ⟨x0.toNat, by omega⟩
    obtain ⟨g, rfl⟩ : ∃ n : Nat, g = (n : Int) := ⟨g.toNat, by omega⟩
    exact back_yes k x0 g (by omega) (by omega) (by omega) (by omega) s (by omega) x1 x2 y hy w hT
  · exact back_no k g s x0 x1 x2 y h w hT

end Go.Proofs.YtlbnikkpfhclgaaDoor
