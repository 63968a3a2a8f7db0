/-
  What a law's arguments are: lists of pairs, of nodes; a byte; two bytes; each opened. A list of nodes; a byte; two bytes; each opened. A pair as an argument, and a list of bytes, opened.
-/
import Derived.Test.YtjpjcojabjkaaaaDoorGaz
import Derived.ProofKit
import Derived.OpenShut
import Derived.ShutString
import Derived.ChangeOld
import Derived.Below
import Derived.Deep.SlicePairs
import Derived.Lib.SmallJoins
import Derived.SizedLaws
namespace Go.Proofs.YtjpjcojabjkaaaaDoor
open Go.ChangeShapes Go.WideShapes Go.ChangeAt Go.RowKit
set_option maxRecDepth 100000

theorem byte_u8 {z : Int} (h : (Lit.int .u8 z).wf = true) : ∃ v : UInt8, z = (v.toNat : Int) := by
  have hb := bounds_u8 h
  refine ⟨UInt8.ofNat z.toNat, ?_⟩
  rw [UInt8.toNat_ofNat']
  omega
theorem range_getD {α : Type} (q : Nat → α) (d : α) {i n : Nat} (h : i < n) : ((List.range n).map q).getD i d = q i := by
  rw [List.getD_eq_getElem?_getD, List.getElem?_map, List.getElem?_range h]; rfl
/-- Elements that lie one behind the other from an address on. -/
theorem ls_of {α : Type} {W : World} {x : Addr} {k n c : Nat} (f : α → List Value) (q : Nat → α) (hk : 0 < k) (hn : 0 < n) (hc : n ≤ c) (hq : ∀ i, i < n → (f (q i)).length = k ∧ ∀ j u, (f (q i))[j]? = some u → W.cell? (x.add (i * k + j)) = some u) :
    Ls W k (.slice (some x) n c) (((List.range n).map q).map f) := by
  obtain ⟨b, off, spot⟩ := x
  obtain ⟨h1, h2⟩ := hq 0 hn
  obtain ⟨u, hu⟩ : ∃ u, (f (q 0))[0]? = some u := ⟨(f (q 0))[0]'(by omega), List.getElem?_eq_getElem (by omega)⟩
  have h0 := h2 0 u hu
  have hspot : spot = none := by simpa [Addr.add] using World.cell?_spot h0
  subst hspot
  have hlen : (((List.range n).map q).map f).length = n := by rw [List.length_map, List.length_map, List.length_range]
  have hb : b < W.heap.size := by
    have := World.block_lt_of_cell? W _ h0
    rwa [Addr.add_mid] at this
  refine ⟨some ⟨b, off, none⟩, c, by rw [hlen], by omega, fun _ => ⟨b, off, rfl, hb, fun i hi j u hu => ?_⟩⟩
  rw [hlen] at hi
  rw [List.getElem_map, List.getElem_map, List.getElem_range] at hu
  have := (hq i hi).2 j u hu
  rw [Addr.add_mid] at this
  rw [Nat.add_assoc]; exact this

section
variable {H : Type} {enc : TypeId × Value → H} {W : World} {base : Nat} {d : DataW H} {p : List MemPlace} {v : Value}
theorem ask_prs (hv : Value.okWide Tryd.prog W .any base 26 v) (h : DataW.Trod enc Tryd.prog W 0 (fun _ => true) true 26 v d p) :
    ∃ l : List Pr, Ls W 2 v (l.map prC) ∧ l.length ≤ maxLen := by
  obtain ⟨a, len, cap, rfl⟩ := okWide_slice Tryd.underlying26 hv
  obtain ⟨fuel, hf⟩ := h
  rcases Go.Deep.open_slice Tryd.underlying26 hf with ⟨hcs, _⟩ | ⟨x, l, c, m, n, D, Pp, hcs, _, hl, hm, hmm, hpl, hcell⟩
  · simp [Value.cells] at hcs
    obtain ⟨rfl, rfl, rfl⟩ := hcs
    exact ⟨[], ⟨none, 0, rfl, Nat.le_refl _, fun h => absurd rfl h⟩, by simp⟩
  · simp [Value.cells] at hcs
    obtain ⟨rfl, rfl, rfl⟩ := hcs
    have each : ∀ i, i < len → ∃ q : Pr, W.cell? (x.add (i * 2)) = some (.string (bs q.1)) ∧ W.cell? (x.add (i * 2 + 1)) = some (.string (bs q.2)) := fun i hi => by
      obtain ⟨cs', h1, h2⟩ := hcell i (by rw [hmm]; split <;> omega)
      rw [show Tryd.prog.cellsOf 25 = 2 by kernel_rfl] at h1
      obtain ⟨_, hlen, hc⟩ := World.cells?_some h1
      obtain ⟨xs, m', hm', hx, hl', hlen', hfl⟩ := DataW.trod_struct Tryd.underlying25 h2
      match cs', hlen with
      | [v0, v1], _ =>
        have e0 := hc 0 (by omega)
        have e1 := hc 1 (by omega)
        rw [Go.Deep.add_add] at e0 e1
        match xs, hlen', hx, hfl with
        | [y0, y1], _, hx, hfl =>
          have g0 : DataW.trod enc Tryd.prog W 0 (fun _ => true) true m' 9 (([v0, v1].drop 0).take (Tryd.prog.cellsOf 9)) = some y0 := hfl 0 _ rfl
          have g1 : DataW.trod enc Tryd.prog W 0 (fun _ => true) true m' 9 (([v0, v1].drop 1).take (Tryd.prog.cellsOf 9)) = some y1 := hfl 1 _ rfl
          rw [show Tryd.prog.cellsOf 9 = 1 by kernel_rfl] at g0 g1
          obtain ⟨s0, a0, _, w0⟩ := DataW.trod_string Tryd.underlying9 g0
          obtain ⟨s1, a1, _, w1⟩ := DataW.trod_string Tryd.underlying9 g1
          simp at a0 a1 e0 e1
          subst a0; subst a1
          exact ⟨(L s0, L s1), by rw [bs_L]; exact e0, by rw [bs_L]; exact e1⟩
    obtain ⟨q, hq⟩ := Go.Deep.choose_lt (α := Pr) each
    refine ⟨(List.range len).map q, ?_, by rw [List.length_map, List.length_range]; omega⟩
    by_cases h0 : 0 < len
    · refine ls_of prC q (by omega) h0 (by omega) fun i hi => ⟨rfl, fun j u hu => ?_⟩
      obtain ⟨c0, c1⟩ := hq i hi
      match j, hu with
      | 0, hu => obtain rfl := Option.some.inj hu; exact c0
      | 1, hu => obtain rfl := Option.some.inj hu; exact c1
    · obtain rfl : len = 0 := by omega
      exact ⟨some x, cap, rfl, Nat.zero_le _, fun h => absurd rfl h⟩
end
end Go.Proofs.YtjpjcojabjkaaaaDoor
namespace Go.Proofs.YtjpjcojabjkaaaaDoor
open Go.ChangeShapes Go.WideShapes Go.ChangeAt Go.RowKit
set_option maxRecDepth 100000

instance : Inhabited Nd := ⟨noNd⟩
theorem four_heads {α : Type} {l : List α} (h : l.length = 20) : ∃ a b c d r, l = a :: b :: c :: d :: r ∧ r.length = 16 := by
  match l, h with
  | a :: b :: c :: d :: r, h => exact ⟨a, b, c, d, r, rfl, by simpa using h⟩
section
variable {H : Type} {enc : TypeId × Value → H} {W : World} {base : Nat} {d : DataW H} {p : List MemPlace} {v : Value}
theorem kids_open {fuel : Nat} {cs : List Value} {y : DataW H × List MemPlace} (hl : cs.length = 16) (h : DataW.trod enc Tryd.prog W 0 (fun _ => true) true fuel 53 cs = some y) : ∃ zs : List Int, zs.length = 16 ∧ cs = zs.map (Value.int .i64) := by
  obtain ⟨xs, k, _, _, _, hxl, hel⟩ := DataW.trod_array Tryd.underlying53 h
  rw [show Tryd.prog.cellsOf 3 = 1 by kernel_rfl] at hel
  have each : ∀ i, i < 16 → ∃ z : Int, cs[i]? = some (.int .i64 z) := fun i hi => by
    have g := hel i hi
    rw [List.getElem?_eq_getElem (show i < xs.length by omega)] at g
    obtain ⟨z, hz, _, _⟩ := DataW.trod_int Tryd.underlying3 g
    rw [Nat.mul_one, List.drop_eq_getElem_cons (by omega)] at hz
    have hz' : cs[i] :: (cs.drop (i + 1)).take 0 = [Value.int .i64 z] := hz
    exact ⟨z, by rw [List.getElem?_eq_getElem (by omega), (List.cons.inj hz').1]⟩
  obtain ⟨q, hq⟩ := Go.Deep.choose_lt (α := Int) each
  refine ⟨(List.range 16).map q, by simp, ?_⟩
  apply List.ext_getElem?
  intro i
  by_cases hi : i < 16
  · rw [hq i hi, List.getElem?_map, List.getElem?_map, List.getElem?_range hi]; rfl
  · rw [List.getElem?_eq_none (by omega), List.getElem?_eq_none (by simp; omega)]
theorem node_open {fuel : Nat} {cs : List Value} {y : DataW H × List MemPlace} (hl : cs.length = 20) (h : DataW.trod enc Tryd.prog W 0 (fun _ => true) true fuel 55 cs = some y) : ∃ m : Nd, m.kids.length = 16 ∧ cs = ndC m := by
  obtain ⟨xs, m', hm', hx, hl', hlen', hfl⟩ := DataW.trod_struct Tryd.underlying55 h
  obtain ⟨v0, v1, v2, v3, r, rfl, hr⟩ := four_heads hl
  match xs, hlen', hx, hfl with
  | [y0, y1, y2, y3, y4], _, hx, hfl =>
    have g0 : DataW.trod enc Tryd.prog W 0 (fun _ => true) true m' 3 (((v0 :: v1 :: v2 :: v3 :: r).drop 0).take (Tryd.prog.cellsOf 3)) = some y0 := hfl 0 _ rfl
    have g1 : DataW.trod enc Tryd.prog W 0 (fun _ => true) true m' 9 (((v0 :: v1 :: v2 :: v3 :: r).drop 1).take (Tryd.prog.cellsOf 9)) = some y1 := hfl 1 _ rfl
    have g2 : DataW.trod enc Tryd.prog W 0 (fun _ => true) true m' 4 (((v0 :: v1 :: v2 :: v3 :: r).drop 2).take (Tryd.prog.cellsOf 4)) = some y2 := hfl 2 _ rfl
    have g3 : DataW.trod enc Tryd.prog W 0 (fun _ => true) true m' 9 (((v0 :: v1 :: v2 :: v3 :: r).drop 3).take (Tryd.prog.cellsOf 9)) = some y3 := hfl 3 _ rfl
    have g4 : DataW.trod enc Tryd.prog W 0 (fun _ => true) true m' 53 (((v0 :: v1 :: v2 :: v3 :: r).drop 4).take (Tryd.prog.cellsOf 53)) = some y4 := hfl 4 _ rfl
    rw [show Tryd.prog.cellsOf 3 = 1 by kernel_rfl] at g0
    rw [show Tryd.prog.cellsOf 9 = 1 by kernel_rfl] at g1 g3
    rw [show Tryd.prog.cellsOf 4 = 1 by kernel_rfl] at g2
    rw [show Tryd.prog.cellsOf 53 = 16 by kernel_rfl] at g4
    obtain ⟨z0, a0, _, _⟩ := DataW.trod_int Tryd.underlying3 g0
    obtain ⟨s1, a1, _, _⟩ := DataW.trod_string Tryd.underlying9 g1
    obtain ⟨b2, a2, _⟩ := DataW.trod_bool Tryd.underlying4 g2
    obtain ⟨s3, a3, _, _⟩ := DataW.trod_string Tryd.underlying9 g3
    have h4 : ((v0 :: v1 :: v2 :: v3 :: r).drop 4).take 16 = r := by
      show r.take 16 = r
      rw [List.take_of_length_le (by omega)]
    rw [h4] at g4
    obtain ⟨zs, hz, rfl⟩ := kids_open hr g4
    simp at a0 a1 a2 a3
    subst a0; subst a1; subst a2; subst a3
    exact ⟨⟨z0, L s1, b2, L s3, zs⟩, hz, by unfold ndC; rw [bs_L, bs_L]⟩
theorem ask_nds (hv : Value.okWide Tryd.prog W .any base 23 v) (h : DataW.Trod enc Tryd.prog W 0 (fun _ => true) true 23 v d p) :
    ∃ l : List Nd, Ls W 20 v (l.map ndC) ∧ l.length ≤ maxLen ∧ ∀ x ∈ l, x.kids.length = 16 := by
  obtain ⟨a, len, cap, rfl⟩ := okWide_slice Tryd.underlying23 hv
  obtain ⟨fuel, hf⟩ := h
  rcases Go.Deep.open_slice Tryd.underlying23 hf with ⟨hcs, _⟩ | ⟨x, l, c, m, n, D, Pp, hcs, _, hl, hm, hmm, hpl, hcell⟩
  · simp [Value.cells] at hcs
    obtain ⟨rfl, rfl, rfl⟩ := hcs
    exact ⟨[], ⟨none, 0, rfl, Nat.le_refl _, fun h => absurd rfl h⟩, by simp, fun x hx => by simp at hx⟩
  · simp [Value.cells] at hcs
    obtain ⟨rfl, rfl, rfl⟩ := hcs
    have each : ∀ i, i < len → ∃ q : Nd, q.kids.length = 16 ∧ ∀ j u, (ndC q)[j]? = some u → W.cell? (x.add (i * 20 + j)) = some u := fun i hi => by
      obtain ⟨cs', h1, h2⟩ := hcell i (by rw [hmm]; split <;> omega)
      rw [show Tryd.prog.cellsOf 55 = 20 by kernel_rfl] at h1
      obtain ⟨_, hlen, hc⟩ := World.cells?_some h1
      obtain ⟨m, hk, rfl⟩ := node_open hlen h2
      refine ⟨m, hk, fun j u hu => ?_⟩
      have hj := (List.getElem?_eq_some_iff.1 hu).1
      have e0 := hc j (by omega)
      rw [Go.Deep.add_add] at e0
      rw [e0]; exact hu
    obtain ⟨q, hq⟩ := Go.Deep.choose_lt (α := Nd) each
    refine ⟨(List.range len).map q, ?_, by rw [List.length_map, List.length_range]; omega, fun y hy => ?_⟩
    · by_cases h0 : 0 < len
      · exact ls_of ndC q (by omega) h0 (by omega) fun i hi => ⟨ndC_len (hq i hi).1, (hq i hi).2⟩
      · obtain rfl : len = 0 := by omega
        exact ⟨some x, cap, rfl, Nat.zero_le _, fun h => absurd rfl h⟩
    · obtain ⟨i, hi, rfl⟩ := List.mem_map.1 hy
      exact (hq i (List.mem_range.1 hi)).1
end
end Go.Proofs.YtjpjcojabjkaaaaDoor
namespace Go.Proofs.YtjpjcojabjkaaaaDoor
open Go.ChangeShapes Go.WideShapes Go.ChangeAt Go.RowKit
set_option maxRecDepth 100000

def u8C (u : UInt8) : List Value := [.int .u8 (u.toNat : Int)]
section
variable {H : Type} {enc : TypeId × Value → H} {W : World} {base : Nat} {d : DataW H} {p : List MemPlace} {v : Value}
theorem ask_pr (hv : Value.okWide Tryd.prog W .any base 25 v) (h : DataW.Trod enc Tryd.prog W 0 (fun _ => true) true 25 v d p) : ∃ q : Pr, v = .agg (prC q).toArray := by
  obtain ⟨cs, rfl, hsz⟩ := okWide_struct Tryd.underlying25 hv
  obtain ⟨c0, c1, rfl⟩ := Go.Joins.array2 (hsz.trans (by kernel_rfl))
  obtain ⟨fuel, hf⟩ := h
  obtain ⟨xs, m', hm', hx, hl', hlen', hfl⟩ := DataW.trod_struct Tryd.underlying25 hf
  match xs, hlen', hx, hfl with
  | [y0, y1], _, hx, hfl =>
    have g0 : DataW.trod enc Tryd.prog W 0 (fun _ => true) true m' 9 (([c0, c1].drop 0).take (Tryd.prog.cellsOf 9)) = some y0 := hfl 0 _ rfl
    have g1 : DataW.trod enc Tryd.prog W 0 (fun _ => true) true m' 9 (([c0, c1].drop 1).take (Tryd.prog.cellsOf 9)) = some y1 := hfl 1 _ rfl
    rw [show Tryd.prog.cellsOf 9 = 1 by kernel_rfl] at g0 g1
    obtain ⟨s0, a0, _, _⟩ := DataW.trod_string Tryd.underlying9 g0
    obtain ⟨s1, a1, _, _⟩ := DataW.trod_string Tryd.underlying9 g1
    simp at a0 a1
    subst a0; subst a1
    exact ⟨(L s0, L s1), by show _ = Value.agg #[.string (bs (L s0)), .string (bs (L s1))]; rw [bs_L, bs_L]⟩
theorem ask_u8s (hv : Value.okWide Tryd.prog W .any base 50 v) (h : DataW.Trod enc Tryd.prog W 0 (fun _ => true) true 50 v d p) : ∃ l : Bt, Ls W 1 v (l.map u8C) ∧ l.length ≤ maxLen := by
  obtain ⟨a, len, cap, rfl⟩ := okWide_slice Tryd.underlying50 hv
  obtain ⟨fuel, hf⟩ := h
  rcases Go.Deep.open_slice1 Tryd.underlying50 (by kernel_rfl) hf with ⟨hcs, _⟩ | ⟨x, l, c, m, n, V, D, Pp, hcs, _, hl, hm, hmm, hpl, hcell⟩
  · simp [Value.cells] at hcs
    obtain ⟨rfl, rfl, rfl⟩ := hcs
    exact ⟨[], ⟨none, 0, rfl, Nat.le_refl _, fun h => absurd rfl h⟩, by simp⟩
  · simp [Value.cells] at hcs
    obtain ⟨rfl, rfl, rfl⟩ := hcs
    have each : ∀ i, i < len → ∃ q : UInt8, W.cell? (x.add i) = some (.int .u8 (q.toNat : Int)) := fun i hi => by
      obtain ⟨h1, h2⟩ := hcell i (by rw [hmm]; split <;> omega)
      obtain ⟨z0, hz0, _, hw0⟩ := DataW.trod_int Tryd.underlying5 h2
      obtain ⟨u0, rfl⟩ := byte_u8 hw0
      simp at hz0
      exact ⟨u0, by rw [h1, hz0]⟩
    obtain ⟨q, hq⟩ := Go.Deep.choose_lt (α := UInt8) each
    refine ⟨(List.range len).map q, ?_, by rw [List.length_map, List.length_range]; omega⟩
    by_cases h0 : 0 < len
    · refine ls_of u8C q (by omega) h0 (by omega) fun i hi => ⟨rfl, fun j u hu => ?_⟩
      match j, hu with
      | 0, hu =>
        obtain rfl := Option.some.inj hu
        rw [Nat.mul_one]; exact hq i hi
    · obtain rfl : len = 0 := by omega
      exact ⟨some x, cap, rfl, Nat.zero_le _, fun h => absurd rfl h⟩
end
end Go.Proofs.YtjpjcojabjkaaaaDoor
