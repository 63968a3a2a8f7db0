/-
  A text's bytes in memory: a row of cells that may be written; the row that a text's conversion lays; a byte written.
-/
import Derived.Test.YtoiabnehdncgjaaDoorWakes
import Derived.Lib.ConvBytes
namespace Go.Proofs.YtoiabnehdncgjaaDoor
open Go.RowKit

theorem Kept.setCell {W w' : World} (h : Kept W w') {a : Addr} (ha : W.heap.size ≤ a.block) (v : Value) : Kept W (w'.setCell a v) := by
  obtain ⟨h1, h2, h3⟩ := h
  refine ⟨h1, h2, fun i hi => ?_⟩
  have e : (w'.setCell a v).heap[i]? = w'.heap[i]? := by
    simp only [World.setCell, Array.getElem?_modify]
    rw [if_neg (by omega)]
  rw [e]
  exact h3 i hi

/-- The bytes lie in block B, and may be written. -/
def Lies (w : World) (B : Nat) (l : List UInt8) : Prop :=
  (∀ (j : Nat) c, l[j]? = some c → w.cell? ⟨B, j, none⟩ = some (.int .u8 (c.toNat : Int))) ∧ ∀ j : Nat, j < l.length → w.frozen? ⟨B, j, none⟩ = false

theorem Lies.set {w : World} {B : Nat} {l : List UInt8} (h : Lies w B l) (j : Nat) (hj : j < l.length) (c : UInt8) : Lies (w.setCell ⟨B, j, none⟩ (.int .u8 (c.toNat : Int))) B (l.set j c) := by
  refine ⟨fun i d hd => ?_, fun i hi => ?_⟩
  · by_cases e : i = j
    · subst e
      rw [List.getElem?_set_self hj] at hd
      cases hd
      exact World.cell?_setCell_same' _ _ _ (by rw [h.1 i _ (List.getElem?_eq_getElem hj)]; rfl)
    · rw [List.getElem?_set_ne (Ne.symm e)] at hd
      rw [World.cell?_setCell_other _ _ _ _ (by simp)]
      exact h.1 i d hd
  · rw [List.length_set] at hi
    have := h.2 i hi
    simpa using this

theorem conv_text (s : ByteArray) (w : World) : ∃ (w1 : World) (cap : Nat), (convert 9 32 (.string s)).run Tryd.prog w = .ok (.slice (some ⟨w.heap.size, 0, none⟩) s.size cap) w1 ∧ Kept w w1 ∧ w.heap.size < w1.heap.size ∧ Lies w1 w.heap.size (L s) := by
  refine ⟨_, _, Lib.run_convert_string_bytes w 9 32 5 s Tryd.underlying9 Tryd.underlying32 Tryd.underlying5, ?_, ?_, ?_, ?_⟩
  · exact Kept.below ⟨rfl, rfl, rfl, by rw [Lib.bytesWorld_size]; omega, fun k hk => Lib.bytesWorld_at_old w 5 s k (by omega)⟩
  · rw [Lib.bytesWorld_size]; omega
  · intro j c hc
    have hj : j < s.size := by rw [← L_size]; exact (List.getElem?_eq_some_iff.1 hc).1
    rw [Lib.bytesWorld_cell w 5 s j hj]
    have : s.data.toList.getD j 0 = c := by rw [List.getD_eq_getElem?_getD]; rw [show s.data.toList[j]? = some c from hc]; rfl
    rw [this]
  · intro j hj
    rw [L_size] at hj
    have hb : j < (Lib.bytesCells w 5 s).size := by
      unfold Lib.bytesCells
      simp
      have : s.data.size = s.size := rfl
      omega
    unfold World.frozen?
    simp only [Lib.bytesWorld_at_new]
    simp
    omega

/-- The bytes back to a text. -/
theorem conv_back {w : World} {B n cap : Nat} {l : List UInt8} (hn : l.length = n) (h : Lies w B l) :
    (convert 32 9 (.slice (some ⟨B, 0, none⟩) n cap)).run Tryd.prog w = .ok (.string (bs l)) w := by
  subst hn
  exact run_convert_bytes_back w 32 9 5 ⟨B, 0, none⟩ cap l Tryd.underlying32 Tryd.underlying5 Tryd.underlying9 (fun j hj => by
    have ha : (Addr.add ⟨B, 0, none⟩ j) = ⟨B, j, none⟩ := by simp [Addr.add]; intro h; exact h.symm
    rw [ha]
    exact h.1 j _ (List.getElem?_eq_getElem hj))

end Go.Proofs.YtoiabnehdncgjaaDoor
