/-
  What Hex and the document's own Hex tell: two digits a byte.
-/
import Derived.Test.YtecamiefpdkjoaaDoorDgLeaf
import Derived.Test.YtecamiefpdkjoaaDoorDgPlainB
import Derived.OwnWalk
import Derived.Laws.BytesString
import Derived.Deep.RegionHeld3
import Derived.Deep.AppendLies
namespace Go.Proofs.YtecamiefpdkjoaaDoor.Dg
open Go.RowKit
set_option maxRecDepth 20000

theorem info5 : (Tryd.prog.info? 5).map (fun i => (i.zero, i.size, i.bytes)) = some (some (.int .u8 0), 1, 1) := by kernel_rfl

/-- The bytes as cells. -/
def cellsL (l : List UInt8) : List Value := l.map fun c => Value.int .u8 (c.toNat : Int)
theorem cellsL_append (l m : List UInt8) : cellsL (l ++ m) = cellsL l ++ cellsL m := by unfold cellsL; rw [List.map_append]
theorem cellsL_get {l : List UInt8} {j : Nat} {c : UInt8} (h : l[j]? = some c) : (cellsL l)[j]? = some (.int .u8 (c.toNat : Int)) := by
  unfold cellsL; rw [List.getElem?_map, h]; rfl
theorem cellsL_length (l : List UInt8) : (cellsL l).length = l.length := by unfold cellsL; simp
theorem conv_own {w : World} {B : Nat} {v : Value} {l : List UInt8} {n : Nat} (hn : l.length = n) (h : w.ownsRow B 5 1 v n (cellsL l)) :
    (convert 56 9 v).run Tryd.prog w = .ok (.string (bs l)) w := by
  subst hn
  rcases id h.2 with ⟨rfl, h0⟩ | ⟨g, cap, cur, rfl, _⟩
  · obtain rfl : l = [] := List.length_eq_zero_iff.1 h0
    rw [run_convert_bytes_string w 56 9 5 none 0 0 Tryd.underlying56 Tryd.underlying5 Tryd.underlying9]
    rfl
  · exact run_convert_bytes_back w 56 9 5 ⟨g, 0, none⟩ cap l Tryd.underlying56 Tryd.underlying5 Tryd.underlying9 (fun j hj => by
      refine h.cells (g := g) rfl j _ ?_
      exact cellsL_get (List.getElem?_eq_getElem hj))
theorem grow_kept {w wr w1 : World} {v : Value} {k : Nat} {xs : List Value} {d : Obj} (hown : wr.ownsRow w.heap.size 5 1 v k xs) (hb : Below w.heap.size w wr) (hg : (wr.alloc d).drew.grownBy w1 v.ownBlock) : Below w.heap.size w w1 := by
  have hB := hb.size
  exact ((hb.alloc hB d).drew).grown hg (by simp; omega) fun j hj => (hown.lt j hj).1
theorem grow_plain {w wr w1 : World} {v : Value} {k : Nat} {xs : List Value} {d : Obj} (hown : wr.ownsRow w.heap.size 5 1 v k xs) (hb : Below w.heap.size w wr) (hg : (wr.alloc d).grownBy w1 v.ownBlock) : Below w.heap.size w w1 := by
  have hB := hb.size
  exact (hb.alloc hB d).grown hg (by simp; omega) fun j hj => (hown.lt j hj).1

theorem digit_all : ∀ p : Fin 16, #[48, 49, 50, 51, 52, 53, 54, 55, 56, 57, 97, 98, 99, 100, 101, 102][p.val]? = some (dig p.val) := by decide +kernel
theorem digit_at (p : Nat) (h : p < (⟨#[48, 49, 50, 51, 52, 53, 54, 55, 56, 57, 97, 98, 99, 100, 101, 102]⟩ : ByteArray).size) : (⟨#[48, 49, 50, 51, 52, 53, 54, 55, 56, 57, 97, 98, 99, 100, 101, 102]⟩ : ByteArray)[p]'h = dig p := by
  have h16 : p < 16 := h
  have h1 := digit_all ⟨p, h16⟩
  rw [Array.getElem?_eq_some_iff] at h1
  obtain ⟨_, h2⟩ := h1
  exact h2
theorem hi_form (c : UInt8) : (c.toNat : Int) / 16 = ((c.toNat / 16 : Nat) : Int) := by omega
theorem wraps_u8 (n : Int) (h₀ : 0 ≤ n) (h₁ : n < 2 ^ 8) : IntKind.u8.wrap n = n := by rw [IntKind.wrap_u8]; omega
theorem lo_form (c : UInt8) : bits .and .u8 (c.toNat : Int) 15 = ((c.toNat % 16 : Nat) : Int) := by
  have hc := c.toNat_lt
  have h := bits_mask .u8 8 (by decide) wraps_u8 4 (by decide) (c.toNat : Int) (Int.natCast_nonneg _) (by omega)
  simp at h
  omega
theorem hex_step (l : List UInt8) (k : Nat) (c : UInt8) (h : l[k]? = some c) :
    cellsL (hexL (l.take k)) ++ [.int .u8 ((dig (c.toNat / 16)).toNat : Int), .int .u8 ((dig (c.toNat % 16)).toNat : Int)] = cellsL (hexL (l.take (k + 1))) := by
  rw [hexL_step l k c h, cellsL_append]; rfl

end Go.Proofs.YtecamiefpdkjoaaDoor.Dg
