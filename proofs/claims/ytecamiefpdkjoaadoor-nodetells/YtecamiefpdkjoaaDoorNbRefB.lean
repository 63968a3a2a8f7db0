/-
  What the document's own Key returns, for every text: the same as Key, as a struct.
-/
import Derived.Test.YtecamiefpdkjoaaDoorNbRefA
namespace Go.Proofs.YtecamiefpdkjoaaDoor
open Go.RowKit
set_option maxRecDepth 20000

theorem joinL_append (x y : List UInt8) (h : x.length % 2 = 0) : joinL (x ++ y) = joinL x ++ joinL y := by
  induction x using pairs with
  | h0 => rfl
  | h1 a => simp at h
  | h2 a b l ih =>
    simp only [List.length_cons] at h
    show two a b :: joinL (l ++ y) = two a b :: (joinL l ++ joinL y)
    rw [ih (by omega)]
theorem joinL_step (l : List UInt8) (m : Nat) (a b : UInt8) (ha : l[2 * m]? = some a) (hb : l[2 * m + 1]? = some b) : joinL (l.take (2 * (m + 1))) = joinL (l.take (2 * m)) ++ [two a b] := by
  have h1 : 2 * m < l.length := (List.getElem?_eq_some_iff.1 ha).1
  rw [show 2 * (m + 1) = 2 * m + 1 + 1 by omega, List.take_add_one, List.take_add_one, ha, hb, List.append_assoc, joinL_append _ _ (by rw [List.length_take]; omega)]
  rfl
theorem bcell {W w1 : World} (hb : Below W.heap.size W w1) : (∀ b o, b < W.heap.size → w1.cell? ⟨b, o, none⟩ = W.cell? ⟨b, o, none⟩) ∧ (∀ b o, b < W.heap.size → w1.frozen? ⟨b, o, none⟩ = W.frozen? ⟨b, o, none⟩) :=
  ⟨fun b o h => hb.cell (p := ⟨b, o, none⟩) h, fun b o h => hb.frozen (p := ⟨b, o, none⟩) h⟩

theorem boxed {w wr : World} {a b : Value} {t : TypeId} (hb : Below (w.heap.size + 1) (w.alloc (.cells #[a, b] t)) wr) :
    wr.cell? ⟨w.heap.size, 0, none⟩ = some a ∧ wr.cell? ⟨w.heap.size, 1, none⟩ = some b ∧ wr.frozen? ⟨w.heap.size, 0, none⟩ = false ∧ wr.frozen? ⟨w.heap.size, 1, none⟩ = false ∧ Below w.heap.size w wr ∧ w.heap.size + 1 ≤ wr.heap.size := by
  refine ⟨?_, ?_, ?_, ?_, ?_, ?_⟩
  · rw [hb.cell (p := ⟨w.heap.size, 0, none⟩) (by simp)]; simp
  · rw [hb.cell (p := ⟨w.heap.size, 1, none⟩) (by simp)]; simp
  · rw [hb.frozen (p := ⟨w.heap.size, 0, none⟩) (by simp)]; simp
  · rw [hb.frozen (p := ⟨w.heap.size, 1, none⟩) (by simp)]; simp
  · exact ((Below.refl _ _).alloc (Nat.le_refl _) _).trans (hb.mono (by omega))
  · have := hb.size; simpa using this

end Go.Proofs.YtecamiefpdkjoaaDoor
