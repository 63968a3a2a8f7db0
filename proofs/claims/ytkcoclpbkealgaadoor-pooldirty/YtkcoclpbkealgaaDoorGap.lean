/-
  What a law's arguments are: lists of bytes, of pairs of bytes, of texts, of calls; each opened. A list of calls, opened.
-/
import Derived.Test.YtkcoclpbkealgaaDoorGao
import Derived.ProofKit
import Derived.OpenShut
import Derived.ShutString
import Derived.ChangeOld
import Derived.Below
import Derived.Deep.SlicePairs
import Derived.Lib.SmallJoins
namespace Go.Proofs.YtkcoclpbkealgaaDoor
open Go.ChangeShapes Go.WideShapes Go.ChangeAt Go.RowKit
set_option maxRecDepth 100000

/-- A list of pairs of bytes that is read; a list of calls. -/
def Pairs (w : World) (a : Option Addr) (l : List (UInt8 × UInt8)) : Prop := 0 < l.length → ∃ x, a = some x ∧ ∀ i, i < l.length → w.cell? (x.add (i * 2)) = some (.int .u8 ((l.getD i (0, 0)).1.toNat : Int)) ∧ w.cell? (x.add (i * 2 + 1)) = some (.int .u8 ((l.getD i (0, 0)).2.toNat : Int))
theorem cell_below {B : Nat} {w w' : World} (k : Below B w w') {x : Addr} {j : Nat} {v : Value} (h : w.cell? (x.add j) = some v) (hB : w.heap.size ≤ B) : w'.cell? (x.add j) = some v := by
  have hb := World.block_lt_of_cell? w _ h
  rw [k.cell (Nat.lt_of_lt_of_le hb hB)]
  exact h
theorem Pairs.after {w w' : World} {a : Option Addr} {l : List (UInt8 × UInt8)} (h : Pairs w a l) {B : Nat} (k : Below B w w') (hB : w.heap.size ≤ B) : Pairs w' a l := fun h0 => by
  obtain ⟨x, rfl, hx⟩ := h h0
  exact ⟨x, rfl, fun i hi => ⟨cell_below k (hx i hi).1 hB, cell_below k (hx i hi).2 hB⟩⟩
theorem Bytes.below {w w' : World} {a : Option Addr} {l : List UInt8} (h : Bytes w a l) {B : Nat} (k : Below B w w') (hB : w.heap.size ≤ B) : Bytes w' a l := fun h0 => by
  obtain ⟨x, rfl, hx⟩ := h h0
  exact ⟨x, rfl, fun i hi => cell_below k (hx i hi) hB⟩
theorem Texts.below {w w' : World} {a : Option Addr} {l : List ByteArray} (h : Texts w a l) {B : Nat} (k : Below B w w') (hB : w.heap.size ≤ B) : Texts w' a l := fun h0 => by
  obtain ⟨x, rfl, hx⟩ := h h0
  exact ⟨x, rfl, fun i hi => cell_below k (hx i hi) hB⟩
theorem Bytes.block {w : World} {a : Option Addr} {l : List UInt8} (h : Bytes w a l) (h0 : 0 < l.length) (x : Addr) (hx : a = some x) : x.block < w.heap.size := by
  obtain ⟨y, hy, hc⟩ := h h0
  rw [hx] at hy
  cases hy
  have := World.block_lt_of_cell? w _ (hc 0 h0)
  rwa [add_block] at this

theorem byte_u8 {z : Int} (h : (Lit.int .u8 z).wf = true) : ∃ v : UInt8, z = (v.toNat : Int) := by
  have hb := bounds_u8 h
  refine ⟨UInt8.ofNat z.toNat, ?_⟩
  rw [UInt8.toNat_ofNat']
  omega

section
variable {H : Type} {enc : TypeId × Value → H} {W : World} {base : Nat} {d : DataW H} {p : List MemPlace} {v : Value}

theorem ask_pairs (hv : Value.okWide Tryd.prog W .any base 67 v) (h : DataW.Trod enc Tryd.prog W 0 (fun _ => true) true 67 v d p) :
    ∃ a cap l, v = .slice a l.length cap ∧ Pairs W a l ∧ l.length ≤ maxLen := by
  obtain ⟨a, len, cap, rfl⟩ := okWide_slice Tryd.underlying67 hv
  obtain ⟨fuel, hf⟩ := h
  rcases Go.Deep.open_slice Tryd.underlying67 hf with ⟨hcs, _⟩ | ⟨x, l, c, m, n, D, Pp, hcs, _, hl, hm, hmm, hpl, hcell⟩
  · simp [Value.cells] at hcs
    obtain ⟨rfl, rfl, rfl⟩ := hcs
    exact ⟨none, 0, [], rfl, fun h => absurd h (by simp), by simp⟩
  · simp [Value.cells] at hcs
    obtain ⟨rfl, rfl, rfl⟩ := hcs
    have each : ∀ i, i < len → ∃ q : UInt8 × UInt8, W.cell? (x.add (i * 2)) = some (.int .u8 (q.1.toNat : Int)) ∧ W.cell? (x.add (i * 2 + 1)) = some (.int .u8 (q.2.toNat : Int)) := fun i hi => by
      obtain ⟨cs', h1, h2⟩ := hcell i (by rw [hmm]; split <;> omega)
      rw [show Tryd.prog.cellsOf 69 = 2 by kernel_rfl] at h1
      obtain ⟨_, hlen, hc⟩ := World.cells?_some h1
      obtain ⟨xs, k, _, _, _, hxl, hel⟩ := DataW.trod_array Tryd.underlying69 h2
      rw [show Tryd.prog.cellsOf 5 = 1 by kernel_rfl] at hel
      match cs', hlen with
      | [v0, v1], _ =>
        have e0 := hc 0 (by omega)
        have e1 := hc 1 (by omega)
        rw [Go.Deep.add_add] at e0 e1
        have g0 := hel 0 (by omega)
        have g1 := hel 1 (by omega)
        rw [List.getElem?_eq_getElem (by omega)] at g0 g1
        obtain ⟨z0, hz0, _, hw0⟩ := DataW.trod_int Tryd.underlying5 g0
        obtain ⟨z1, hz1, _, hw1⟩ := DataW.trod_int Tryd.underlying5 g1
        obtain ⟨u0, rfl⟩ := byte_u8 hw0
        obtain ⟨u1, rfl⟩ := byte_u8 hw1
        simp at hz0 hz1 e0 e1
        exact ⟨(u0, u1), by rw [e0, hz0], by rw [e1, hz1]⟩
    obtain ⟨q, hq⟩ := Go.Deep.choose_lt (α := UInt8 × UInt8) each
    refine ⟨some x, cap, (List.range len).map q, by rw [List.length_map, List.length_range], fun h0 => ⟨x, rfl, fun i hi => ?_⟩, ?_⟩
    · rw [List.length_map, List.length_range] at hi
      have hg : ((List.range len).map q).getD i (0, 0) = q i := by
        rw [List.getD_eq_getElem?_getD, List.getElem?_map, List.getElem?_range hi]; rfl
      rw [hg]
      exact hq i hi
    · rw [List.length_map, List.length_range]; omega

theorem range_getD {α : Type} (q : Nat → α) (d : α) {i n : Nat} (h : i < n) : ((List.range n).map q).getD i d = q i := by
  rw [List.getD_eq_getElem?_getD, List.getElem?_map, List.getElem?_range h]; rfl

theorem bytes_of {fuel : Nat} {v : Value} {x : DataW H × List MemPlace} (hf : DataW.trod enc Tryd.prog W 0 (fun _ => true) true fuel 22 [v] = some x) : ∃ a cap l, v = .slice a l.length cap ∧ Bytes W a l ∧ l.length ≤ maxLen := by
  rcases Go.Deep.open_slice1 Tryd.underlying22 (by kernel_rfl) hf with ⟨hcs, _⟩ | ⟨x, l, c, m, n, V, D, Pp, hcs, _, hl, hm, hmm, hpl, hcell⟩
  · simp at hcs
    subst hcs
    exact ⟨none, 0, [], rfl, fun h => absurd h (by simp), by simp⟩
  · simp at hcs
    subst hcs
    have each : ∀ i, i < l → ∃ q : UInt8, W.cell? (x.add i) = some (.int .u8 (q.toNat : Int)) := fun i hi => by
      obtain ⟨h1, h2⟩ := hcell i (by rw [hmm]; split <;> omega)
      obtain ⟨z0, hz0, _, hw0⟩ := DataW.trod_int Tryd.underlying5 h2
      obtain ⟨u0, rfl⟩ := byte_u8 hw0
      simp at hz0
      exact ⟨u0, by rw [h1, hz0]⟩
    obtain ⟨q, hq⟩ := Go.Deep.choose_lt (α := UInt8) each
    refine ⟨some x, c, (List.range l).map q, by rw [List.length_map, List.length_range], fun h0 => ⟨x, rfl, fun i hi => ?_⟩, ?_⟩
    · rw [List.length_map, List.length_range] at hi
      rw [range_getD q 0 hi]
      exact hq i hi
    · rw [List.length_map, List.length_range]; omega
theorem ask_bytes (hv : Value.okWide Tryd.prog W .any base 22 v) (h : DataW.Trod enc Tryd.prog W 0 (fun _ => true) true 22 v d p) : ∃ a cap l, v = .slice a l.length cap ∧ Bytes W a l ∧ l.length ≤ maxLen := by
  obtain ⟨a, len, cap, rfl⟩ := okWide_slice Tryd.underlying22 hv
  obtain ⟨fuel, hf⟩ := h
  exact bytes_of hf
theorem ask_texts (hv : Value.okWide Tryd.prog W .any base 28 v) (h : DataW.Trod enc Tryd.prog W 0 (fun _ => true) true 28 v d p) : ∃ a cap l, v = .slice a l.length cap ∧ Texts W a l ∧ l.length ≤ maxLen ∧ ∀ t ∈ l, t.size ≤ maxLen := by
  obtain ⟨a, len, cap, rfl⟩ := okWide_slice Tryd.underlying28 hv
  obtain ⟨fuel, hf⟩ := h
  rcases Go.Deep.open_slice1 Tryd.underlying28 (by kernel_rfl) hf with ⟨hcs, _⟩ | ⟨x, l, c, m, n, V, D, Pp, hcs, _, hl, hm, hmm, hpl, hcell⟩
  · simp [Value.cells] at hcs
    obtain ⟨rfl, rfl, rfl⟩ := hcs
    exact ⟨none, 0, [], rfl, fun h => absurd h (by simp), by simp, fun t ht => by cases ht⟩
  · simp [Value.cells] at hcs
    obtain ⟨rfl, rfl, rfl⟩ := hcs
    have each : ∀ i, i < len → ∃ q : ByteArray, W.cell? (x.add i) = some (.string q) ∧ q.size ≤ maxLen := fun i hi => by
      obtain ⟨h1, h2⟩ := hcell i (by rw [hmm]; split <;> omega)
      obtain ⟨z0, hz0, _, hw0⟩ := DataW.trod_string Tryd.underlying9 h2
      simp at hz0
      exact ⟨z0, by rw [h1, hz0], hw0⟩
    obtain ⟨q, hq⟩ := Go.Deep.choose_lt (α := ByteArray) each
    refine ⟨some x, cap, (List.range len).map q, by rw [List.length_map, List.length_range], fun h0 => ⟨x, rfl, fun i hi => ?_⟩, ?_, fun t ht => ?_⟩
    · rw [List.length_map, List.length_range] at hi
      rw [range_getD q _ hi]
      exact (hq i hi).1
    · rw [List.length_map, List.length_range]; omega
    · obtain ⟨i, hi, rfl⟩ := List.mem_map.1 ht
      exact (hq i (List.mem_range.1 hi)).2
/-- A call: two numbers and a byte. -/
theorem ask_step (hv : Value.okWide Tryd.prog W .any base 40 v) (h : DataW.Trod enc Tryd.prog W 0 (fun _ => true) true 40 v d p) :
    ∃ (k z : Int) (u : UInt8), v = .agg #[.int .i64 k, .int .i64 z, .int .u8 (u.toNat : Int)] ∧ (Lit.int .i64 k).wf = true ∧ (Lit.int .i64 z).wf = true := by
  obtain ⟨cs, rfl, hsz⟩ := okWide_struct Tryd.underlying40 hv
  obtain ⟨fuel, hf⟩ := h
  obtain ⟨xs, m, hm, hx, hl, hlen, hfl⟩ := DataW.trod_struct Tryd.underlying40 hf
  rw [show Tryd.prog.cellsOf 40 = 3 by kernel_rfl] at hl
  match xs, hlen, hx, hfl with
  | [y0, y1, y2], _, hx, hfl =>
    have h0 : DataW.trod enc Tryd.prog W 0 (fun _ => true) true m 3 ((cs.toList.drop 0).take (Tryd.prog.cellsOf 3)) = some y0 := hfl 0 _ rfl
    have h1 : DataW.trod enc Tryd.prog W 0 (fun _ => true) true m 3 ((cs.toList.drop 1).take (Tryd.prog.cellsOf 3)) = some y1 := hfl 1 _ rfl
    have h2 : DataW.trod enc Tryd.prog W 0 (fun _ => true) true m 5 ((cs.toList.drop 2).take (Tryd.prog.cellsOf 5)) = some y2 := hfl 2 _ rfl
    rw [show Tryd.prog.cellsOf 3 = 1 by kernel_rfl] at h0 h1
    rw [show Tryd.prog.cellsOf 5 = 1 by kernel_rfl] at h2
    obtain ⟨k, e0, _, wk⟩ := DataW.trod_int Tryd.underlying3 h0
    obtain ⟨z, e1, _, wz⟩ := DataW.trod_int Tryd.underlying3 h1
    obtain ⟨u, e2, _, wu⟩ := DataW.trod_int Tryd.underlying5 h2
    obtain ⟨u, rfl⟩ := byte_u8 wu
    have hcl : cs.toList.length = 3 := hl
    obtain ⟨l⟩ := cs
    simp only at e0 e1 e2 hcl
    match l, hcl with
    | [c0, c1, c2], _ =>
      simp at e0 e1 e2
      subst e0; subst e1; subst e2
      exact ⟨k, z, u, rfl, wk, wz⟩
end

end Go.Proofs.YtkcoclpbkealgaaDoor
namespace Go.Proofs.YtkcoclpbkealgaaDoor
open Go.ChangeShapes Go.WideShapes Go.ChangeAt Go.RowKit
set_option maxRecDepth 100000

structure Stp where
  k : Int
  z : Int
  u : UInt8
def stp0 : Stp := ⟨0, 0, 0⟩
instance : Inhabited Stp := ⟨stp0⟩
def Stps (w : World) (a : Option Addr) (l : List Stp) : Prop := 0 < l.length → ∃ x, a = some x ∧ ∀ i, i < l.length →
  w.cell? (x.add (i * 3)) = some (.int .i64 (l.getD i stp0).k) ∧ w.cell? ((x.add (i * 3)).add 1) = some (.int .i64 (l.getD i stp0).z) ∧ w.cell? ((x.add (i * 3)).add 2) = some (.int .u8 ((l.getD i stp0).u.toNat : Int)) ∧
    -9223372036854775808 ≤ (l.getD i stp0).z ∧ (l.getD i stp0).z ≤ 9223372036854775807
section
variable {H : Type} {enc : TypeId × Value → H} {W : World} {base : Nat} {d : DataW H} {p : List MemPlace} {v : Value}
theorem ask_steps (hv : Value.okWide Tryd.prog W .any base 23 v) (h : DataW.Trod enc Tryd.prog W 0 (fun _ => true) true 23 v d p) :
    ∃ a cap l, v = .slice a l.length cap ∧ Stps W a l ∧ l.length ≤ maxLen := by
  obtain ⟨a, len, cap, rfl⟩ := okWide_slice Tryd.underlying23 hv
  obtain ⟨fuel, hf⟩ := h
  rcases Go.Deep.open_slice Tryd.underlying23 hf with ⟨hcs, _⟩ | ⟨x, l, c, m, n, D, Pp, hcs, _, hl, hm, hmm, hpl, hcell⟩
  · simp [Value.cells] at hcs
    obtain ⟨rfl, rfl, rfl⟩ := hcs
    exact ⟨none, 0, [], rfl, fun h => absurd h (by simp), by simp⟩
  · simp [Value.cells] at hcs
    obtain ⟨rfl, rfl, rfl⟩ := hcs
    have each : ∀ i, i < len → ∃ q : Stp, W.cell? (x.add (i * 3)) = some (.int .i64 q.k) ∧ W.cell? ((x.add (i * 3)).add 1) = some (.int .i64 q.z) ∧ W.cell? ((x.add (i * 3)).add 2) = some (.int .u8 (q.u.toNat : Int)) ∧ -9223372036854775808 ≤ q.z ∧ q.z ≤ 9223372036854775807 := fun i hi => by
      obtain ⟨cs', h1, h2⟩ := hcell i (by rw [hmm]; split <;> omega)
      rw [show Tryd.prog.cellsOf 40 = 3 by kernel_rfl] at h1
      obtain ⟨_, hlen, hc⟩ := World.cells?_some h1
      obtain ⟨xs, m', hm', hx, hl', hlen', hfl⟩ := DataW.trod_struct Tryd.underlying40 h2
      match cs', hlen with
      | [v0, v1, v2], _ =>
        have e0 := hc 0 (by omega)
        have e1 := hc 1 (by omega)
        have e2 := hc 2 (by omega)
        match xs, hlen', hx, hfl with
        | [y0, y1, y2], _, hx, hfl =>
          have g0 : DataW.trod enc Tryd.prog W 0 (fun _ => true) true m' 3 (([v0, v1, v2].drop 0).take (Tryd.prog.cellsOf 3)) = some y0 := hfl 0 _ rfl
          have g1 : DataW.trod enc Tryd.prog W 0 (fun _ => true) true m' 3 (([v0, v1, v2].drop 1).take (Tryd.prog.cellsOf 3)) = some y1 := hfl 1 _ rfl
          have g2 : DataW.trod enc Tryd.prog W 0 (fun _ => true) true m' 5 (([v0, v1, v2].drop 2).take (Tryd.prog.cellsOf 5)) = some y2 := hfl 2 _ rfl
          rw [show Tryd.prog.cellsOf 3 = 1 by kernel_rfl] at g0 g1
          rw [show Tryd.prog.cellsOf 5 = 1 by kernel_rfl] at g2
          obtain ⟨k, a0, _, wk⟩ := DataW.trod_int Tryd.underlying3 g0
          obtain ⟨z, a1, _, wz⟩ := DataW.trod_int Tryd.underlying3 g1
          obtain ⟨u, a2, _, wu⟩ := DataW.trod_int Tryd.underlying5 g2
          obtain ⟨u, rfl⟩ := byte_u8 wu
          have hb := bounds_i64 wz
          simp at a0 a1 a2 e0 e1 e2
          subst a0; subst a1; subst a2
          exact ⟨⟨k, z, u⟩, e0, e1, e2, hb.1, hb.2⟩
    obtain ⟨q, hq⟩ := Go.Deep.choose_lt (α := Stp) each
    refine ⟨some x, cap, (List.range len).map q, by rw [List.length_map, List.length_range], fun h0 => ⟨x, rfl, fun i hi => ?_⟩, ?_⟩
    · rw [List.length_map, List.length_range] at hi
      rw [range_getD q stp0 hi]
      exact hq i hi
    · rw [List.length_map, List.length_range]; omega
end
end Go.Proofs.YtkcoclpbkealgaaDoor
