/-
  Eight words are equal to themselves.
-/
import Derived.Test.YtemhgehelblcoaaDoorOut
import Derived.Laws.StructEq
namespace Go.Proofs.YtemhgehelblcoaaDoor
open Go.RowKit

theorem eq_words (a b c d e f g p : Int) (w : World) :
    (Op.equalIn 10000 23 (.agg #[.int .u32 a, .int .u32 b, .int .u32 c, .int .u32 d, .int .u32 e, .int .u32 f, .int .u32 g, .int .u32 p]) (.agg #[.int .u32 a, .int .u32 b, .int .u32 c, .int .u32 d, .int .u32 e, .int .u32 f, .int .u32 g, .int .u32 p])).run Tryd.prog w = .ok true w := by
  obtain ⟨i0, hi0, hz0, hz1, hz2⟩ := info_parts info22
  rw [show (10000 : Nat) = 9999 + 1 from rfl, Op.equalIn]
  simp only [Sem.run_bind, run_underlying Tryd.underlying23, Result.andThen_ok]
  simp [sizeOf, typeInfo, hi0, hz1, Std.Legacy.Range.forIn_eq_forIn_range', Std.Legacy.Range.size, List.range', part, isAgg, run_underlying Tryd.underlying22, run_equalIn_int (P := Tryd.prog) _ _ 22 .u32 .u32 _ _ Tryd.underlying22]

end Go.Proofs.YtemhgehelblcoaaDoor
