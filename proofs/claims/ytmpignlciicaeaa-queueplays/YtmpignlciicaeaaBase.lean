/-
  A pile of numbers in memory: the cell that names its row, the row itself; what a call may change.
-/
import Derived.Test.YtmpignlciicaeaaRows
import Derived.Test.YtmpignlciicaeaaPlain
import Derived.WalkKit
import Derived.WalkSpells
import Derived.WalkLawsBesides
import Derived.RowKit3
import Derived.Below
import Derived.BigQuiet
import Derived.BigRegion
import Derived.Deep.AppendLies
namespace Go.Proofs.Ytmpignlciicaeaa
open Go.RowKit

/-- Numbers as cells. -/
def ints (zs : List Int) : List Value := zs.map (Value.int .i64)
theorem ints_length (zs : List Int) : (ints zs).length = zs.length := by simp [ints]
theorem ints_get {zs : List Int} {i : Nat} (h : i < zs.length) : (ints zs)[i]? = some (.int .i64 (g zs i)) := by simp [ints, g, h]
theorem ints_append (zs ys : List Int) : ints (zs ++ ys) = ints zs ++ ints ys := by simp [ints]

/-- Of what there was just the blocks a and b may have changed. -/
structure Only (a b : Nat) (w w' : World) : Prop where
  os : w'.os = w.os
  tape : w'.tape = w.tape
  output : w'.output = w.output
  size : w.heap.size ≤ w'.heap.size
  block : ∀ k, k < w.heap.size → k ≠ a → k ≠ b → w'.heap[k]? = w.heap[k]?
theorem Only.refl (a b : Nat) (w : World) : Only a b w w := ⟨rfl, rfl, rfl, Nat.le_refl _, fun _ _ _ _ => rfl⟩
theorem Only.trans {a b b' : Nat} {w w1 w2 : World} (h : Only a b w w1) (k : Only a b' w1 w2) (hb : b' = b ∨ w.heap.size ≤ b') : Only a b w w2 :=
  ⟨k.os.trans h.os, k.tape.trans h.tape, k.output.trans h.output, Nat.le_trans h.size k.size, fun i hi ha hb1 =>
    (k.block i (Nat.lt_of_lt_of_le hi h.size) ha (by omega)).trans (h.block i hi ha hb1)⟩
theorem Only.then {a b : Nat} {w w1 w2 : World} (h : Only a b w w1) (k : Only a b w1 w2) : Only a b w w2 := h.trans k (.inl rfl)
theorem Only.below {a b B : Nat} {w w' : World} (h : Only a b w w') (hB : B ≤ w.heap.size) (ha : B ≤ a) (hb : B ≤ b) : Below B w w' :=
  ⟨h.os, h.tape, h.output, h.size, fun k hk => h.block k (by omega) (by omega) (by omega)⟩
theorem Only.of_below {a b : Nat} {w w' : World} (h : Below w.heap.size w w') : Only a b w w' := ⟨h.os, h.tape, h.output, h.size, fun k hk _ _ => h.block k hk⟩
theorem Only.setB (a b i : Nat) (v : Value) (w : World) : Only a b w (w.setCell ⟨b, i, none⟩ v) :=
  ⟨rfl, rfl, rfl, by simp [World.setCell], fun k _ _ hb => Below.heap_setCell _ _ _ _ hb⟩
theorem Only.setA (a b i : Nat) (v : Value) (w : World) : Only a b w (w.setCell ⟨a, i, none⟩ v) :=
  ⟨rfl, rfl, rfl, by simp [World.setCell], fun k _ ha _ => Below.heap_setCell _ _ _ _ ha⟩
theorem Only.drewN (a b n : Nat) (w : World) : Only a b w (w.drewN n) := ⟨rfl, rfl, rfl, Nat.le_refl _, fun _ _ _ _ => rfl⟩
theorem Only.drew (a b : Nat) (w : World) : Only a b w w.drew := ⟨rfl, rfl, rfl, Nat.le_refl _, fun _ _ _ _ => rfl⟩

/-- The row at b has these numbers in front; all that it can hold is cap. -/
def Row (w : World) (b cap : Nat) (zs : List Int) : Prop := ∃ cur : Array Value, w.heap[b]? = some (.cells cur 3 (0, 0)) ∧ zs.length ≤ cap ∧ cap ≤ maxLen ∧ cur.size = cap ∧ cur.toList.take zs.length = ints zs
theorem Row.lt {w : World} {b cap : Nat} {zs : List Int} (h : Row w b cap zs) : b < w.heap.size := let ⟨_, e, _⟩ := h; (Array.getElem?_eq_some_iff.1 e).1
theorem Row.le {w : World} {b cap : Nat} {zs : List Int} (h : Row w b cap zs) : zs.length ≤ cap := let ⟨_, _, e, _⟩ := h; e
theorem Row.of {w w' : World} {b cap : Nat} {zs : List Int} (h : Row w b cap zs) (e : w'.heap[b]? = w.heap[b]?) : Row w' b cap zs := let ⟨c, h1, h2⟩ := h; ⟨c, e.trans h1, h2⟩
theorem Row.cell {w : World} {b cap : Nat} {zs : List Int} (h : Row w b cap zs) {i : Nat} (hi : i < zs.length) : w.cell? ⟨b, i, none⟩ = some (.int .i64 (g zs i)) := by
  obtain ⟨cur, h1, h2, h3, h4, h5⟩ := h
  rw [cell_of_row w b i cur 3 (0, 0) h1, ← ints_get hi, ← h5, List.getElem?_take, if_pos hi, Array.getElem?_toList]
theorem Row.frozen {w : World} {b cap : Nat} {zs : List Int} (h : Row w b cap zs) (i : Nat) : w.frozen? ⟨b, i, none⟩ = false := by
  obtain ⟨cur, h1, _⟩ := h
  exact frozen_of_row w b i cur 3 h1
theorem Row.set {w : World} {b cap : Nat} {zs : List Int} (h : Row w b cap zs) (i : Nat) (x : Int) : Row (w.setCell ⟨b, i, none⟩ (.int .i64 x)) b cap (zs.set i x) := by
  obtain ⟨cur, h1, h2, h3, h4, h5⟩ := h
  refine ⟨cur.setIfInBounds i (.int .i64 x), heap_setCell_same w b i cur 3 _ h1, by simpa using h2, h3, by simpa using h4, ?_⟩
  rw [List.length_set, Array.toList_setIfInBounds, List.take_set, h5]
  simp [ints, List.map_set]
theorem Row.take {w : World} {b cap : Nat} {zs : List Int} (h : Row w b cap zs) (n : Nat) : Row w b cap (zs.take n) := by
  obtain ⟨cur, h1, h2, h3, h4, h5⟩ := h
  refine ⟨cur, h1, by rw [List.length_take]; omega, h3, h4, ?_⟩
  rw [List.length_take, ← List.take_take, h5]
  simp [ints, List.map_take]
theorem Row.owns {w : World} {b cap : Nat} {zs : List Int} (h : Row w b cap zs) : w.ownsRow 0 3 1 (.slice (some ⟨b, 0, none⟩) zs.length cap) zs.length (ints zs) := by
  obtain ⟨cur, h1, h2, h3, h4, h5⟩ := h
  exact ⟨by rw [ints_length]; omega, .inr ⟨b, cap, cur, rfl, Nat.zero_le _, h1, h2, h3, by omega, by rw [Nat.mul_one]; exact h5⟩⟩
theorem Row.of_owns {w : World} {b cap n : Nat} {zs : List Int} (h : w.ownsRow 0 3 1 (.slice (some ⟨b, 0, none⟩) n cap) n (ints zs)) : Row w b cap zs ∧ n = zs.length := by
  obtain ⟨h0, h | ⟨g', c', cur, hv, _, h1, h2, h3, h4, h5⟩⟩ := h
  · cases h.1
  · cases hv
    rw [ints_length, Nat.mul_one] at h0
    subst h0
    exact ⟨⟨cur, h1, h2, h3, by omega, by rw [Nat.mul_one] at h5; exact h5⟩, rfl⟩

/-- A pile: the cell at a names the row at b. -/
def Pile (w : World) (a b : Nat) (zs : List Int) : Prop := ∃ cap t, w.heap[a]? = some (.cells #[.slice (some ⟨b, 0, none⟩) zs.length cap] t (0, 0)) ∧ Row w b cap zs ∧ a ≠ b
theorem Pile.lt {w : World} {a b : Nat} {zs : List Int} (h : Pile w a b zs) : a < w.heap.size ∧ b < w.heap.size ∧ a ≠ b :=
  let ⟨_, _, e, r, n⟩ := h; ⟨(Array.getElem?_eq_some_iff.1 e).1, r.lt, n⟩
theorem Pile.of {w w' : World} {a b : Nat} {zs : List Int} (h : Pile w a b zs) (ha : w'.heap[a]? = w.heap[a]?) (hb : w'.heap[b]? = w.heap[b]?) : Pile w' a b zs :=
  let ⟨c, t, e, r, n⟩ := h; ⟨c, t, ha.trans e, r.of hb, n⟩
theorem Pile.drewN {w : World} {a b : Nat} {zs : List Int} (h : Pile w a b zs) (n : Nat) : Pile (w.drewN n) a b zs := h
theorem Pile.drew {w : World} {a b : Nat} {zs : List Int} (h : Pile w a b zs) : Pile w.drew a b zs := h
theorem Pile.only {w w' : World} {a b c d : Nat} {zs : List Int} (h : Pile w c d zs) (k : Only a b w w') (h1 : c ≠ a) (h2 : c ≠ b) (h3 : d ≠ a) (h4 : d ≠ b) : Pile w' c d zs :=
  h.of (k.block c h.lt.1 h1 h2) (k.block d h.lt.2.1 h3 h4)
theorem Pile.below {w w' : World} {a b : Nat} {zs : List Int} (h : Pile w a b zs) (k : Below w.heap.size w w') : Pile w' a b zs := h.of (k.block a h.lt.1) (k.block b h.lt.2.1)
theorem Pile.open {w : World} {a b : Nat} {zs : List Int} (h : Pile w a b zs) : ∃ cap, w.cell? ⟨a, 0, none⟩ = some (.slice (some ⟨b, 0, none⟩) zs.length cap) ∧ w.frozen? ⟨a, 0, none⟩ = false ∧ Row w b cap zs := by
  obtain ⟨cap, t, e, r, n⟩ := h
  refine ⟨cap, ?_, frozen_of_row w a 0 _ t e, r⟩
  rw [cell_of_row w a 0 _ t (0, 0) e]
  rfl
theorem Pile.set {w : World} {a b : Nat} {zs : List Int} (h : Pile w a b zs) (i : Nat) (x : Int) : Pile (w.setCell ⟨b, i, none⟩ (.int .i64 x)) a b (zs.set i x) := by
  obtain ⟨cap, t, e, r, n⟩ := h
  refine ⟨cap, t, ?_, r.set i x, n⟩
  rw [Below.heap_setCell _ _ _ _ n, List.length_set]
  exact e
/-- The cell is told another row. -/
theorem Pile.names {w w' : World} {a b b' cap : Nat} {zs zs' : List Int} (h : Pile w a b zs) (ha : w'.heap[a]? = w.heap[a]?) (hr : Row w' b' cap zs') (hn : a ≠ b') :
    Pile (w'.setCell ⟨a, 0, none⟩ (.slice (some ⟨b', 0, none⟩) zs'.length cap)) a b' zs' := by
  obtain ⟨c, t, e, r, n⟩ := h
  refine ⟨cap, t, heap_setCell_same w' a 0 _ t _ (ha.trans e), hr.of (Below.heap_setCell _ _ _ _ (Ne.symm hn)), hn⟩

end Go.Proofs.Ytmpignlciicaeaa
