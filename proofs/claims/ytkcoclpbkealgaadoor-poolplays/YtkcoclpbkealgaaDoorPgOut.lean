/-
  What a frame's own functions tell: the page that it holds; its bytes.
-/
import Derived.Test.YtkcoclpbkealgaaDoorPgMem
import Derived.Deep.AppendLies
namespace Go.Proofs.YtkcoclpbkealgaaDoor
open Go.RowKit
set_option maxRecDepth 20000

theorem built23 (k g : Int) (s : ByteArray) : Tryd.prog.built 111 [(0, .int .i64 k), (1, .int .i64 g), (2, .string s)] = some #[.int .i64 k, .int .i64 g, .string s] := by kernel_rfl

theorem pg_all (k g : Int) (s : ByteArray) : (#[.int .i64 k, .int .i64 g, .string s] : Array Value).all (·.oneCell') = true := all_oneCell_toArray (cs := [.int .i64 k, .int .i64 g, .string s]) fun v hv => by
  simp only [List.mem_cons, List.not_mem_nil, or_false] at hv
  rcases hv with rfl | rfl | rfl <;> rfl

theorem own_after {w w' : World} {B : Nat} {t : TypeId} {k n : Nat} {v : Value} {xs : List Value} (h : w.ownsRow B t k v n xs) (N : New w w') : w'.ownsRow B t k v n xs := by
  rcases h with ⟨h1, h2 | ⟨g, cap, cur, hv, hb, h3, h4⟩⟩
  · exact ⟨h1, .inl h2⟩
  · exact ⟨h1, .inr ⟨g, cap, cur, hv, hb, (N.block g (Array.getElem?_eq_some_iff.1 h3).1).trans h3, h4⟩⟩
end Go.Proofs.YtkcoclpbkealgaaDoor
