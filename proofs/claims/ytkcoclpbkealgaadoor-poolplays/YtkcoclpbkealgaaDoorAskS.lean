/-
  A list of calls, opened.
-/
import Derived.Test.YtkcoclpbkealgaaDoorAsk
namespace Go.Proofs.YtkcoclpbkealgaaDoor
open Go.ChangeShapes Go.WideShapes Go.ChangeAt Go.RowKit
set_option maxRecDepth 100000

structure Stp where
  k : Int
  z : Int
  u : UInt8
def stp0 : Stp := ⟨0, 0, 0⟩
instance : Inhabited Stp := ⟨stp0⟩
def Stps (w : World) (a : Option Addr) (l : List Stp) : Prop := 0 < l.length → ∃ x, a = some x ∧ ∀ i, i < l.length →
  w.cell? (x.add (i * 3)) = some (.int .i64 (l.getD i stp0).k) ∧ w.cell? ((x.add (i * 3)).add 1) = some (.int .i64 (l.getD i stp0).z) ∧ w.cell? ((x.add (i * 3)).add 2) = some (.int .u8 ((l.getD i stp0).u.toNat : Int)) ∧
    -9223372036854775808 ≤ (l.getD i stp0).z ∧ (l.getD i stp0).z ≤ 9223372036854775807
section
variable {H : Type} {enc : TypeId × Value → H} {W : World} {base : Nat} {d : DataW H} {p : List MemPlace} {v : Value}
theorem ask_steps (hv : Value.okWide Tryd.prog W .any base 23 v) (h : DataW.Trod enc Tryd.prog W 0 (fun _ => true) true 23 v d p) :
    ∃ a cap l, v = .slice a l.length cap ∧ Stps W a l ∧ l.length ≤ maxLen := by
  obtain ⟨a, len, cap, rfl⟩ := okWide_slice Tryd.underlying23 hv
  obtain ⟨fuel, hf⟩ := h
  rcases Go.Deep.open_slice Tryd.underlying23 hf with ⟨hcs, _⟩ | ⟨x, l, c, m, n, D, Pp, hcs, _, hl, hm, hmm, hpl, hcell⟩
  · simp [Value.cells] at hcs
    obtain ⟨rfl, rfl, rfl⟩ := hcs
    exact ⟨none, 0, [], rfl, fun h => absurd h (by simp), by simp⟩
  · simp [Value.cells] at hcs
    obtain ⟨rfl, rfl, rfl⟩ := hcs
    have each : ∀ i, i < len → ∃ q : Stp, W.cell? (x.add (i * 3)) = some (.int .i64 q.k) ∧ W.cell? ((x.add (i * 3)).add 1) = some (.int .i64 q.z) ∧ W.cell? ((x.add (i * 3)).add 2) = some (.int .u8 (q.u.toNat : Int)) ∧ -9223372036854775808 ≤ q.z ∧ q.z ≤ 9223372036854775807 := fun i hi => by
      obtain ⟨cs', h1, h2⟩ := hcell i (by rw [hmm]; split <;> omega)
      rw [show Tryd.prog.cellsOf 40 = 3 by kernel_rfl] at h1
      obtain ⟨_, hlen, hc⟩ := World.cells?_some h1
      obtain ⟨xs, m', hm', hx, hl', hlen', hfl⟩ := DataW.trod_struct Tryd.underlying40 h2
      match cs', hlen with
      | [v0, v1, v2], _ =>
        have e0 := hc 0 (by omega)
        have e1 := hc 1 (by omega)
        have e2 := hc 2 (by omega)
        match xs, hlen', hx, hfl with
        | [y0, y1, y2], _, hx, hfl =>
          have g0 : DataW.trod enc Tryd.prog W 0 (fun _ => true) true m' 3 (([v0, v1, v2].drop 0).take (Tryd.prog.cellsOf 3)) = some y0 := hfl 0 _ rfl
          have g1 : DataW.trod enc Tryd.prog W 0 (fun _ => true) true m' 3 (([v0, v1, v2].drop 1).take (Tryd.prog.cellsOf 3)) = some y1 := hfl 1 _ rfl
          have g2 : DataW.trod enc Tryd.prog W 0 (fun _ => true) true m' 5 (([v0, v1, v2].drop 2).take (Tryd.prog.cellsOf 5)) = some y2 := hfl 2 _ rfl
          rw [show Tryd.prog.cellsOf 3 = 1 by kernel_rfl] at g0 g1
          rw [show Tryd.prog.cellsOf 5 = 1 by kernel_rfl] at g2
          obtain ⟨k, a0, _, wk⟩ := DataW.trod_int Tryd.underlying3 g0
          obtain ⟨z, a1, _, wz⟩ := DataW.trod_int Tryd.underlying3 g1
          obtain ⟨u, a2, _, wu⟩ := DataW.trod_int Tryd.underlying5 g2
          obtain ⟨u, rfl⟩ := byte_u8 wu
          have hb := bounds_i64 wz
          simp at a0 a1 a2 e0 e1 e2
          subst a0; subst a1; subst a2
          exact ⟨⟨k, z, u⟩, e0, e1, e2, hb.1, hb.2⟩
    obtain ⟨q, hq⟩ := Go.Deep.choose_lt (α := Stp) each
    refine ⟨some x, cap, (List.range len).map q, by rw [List.length_map, List.length_range], fun h0 => ⟨x, rfl, fun i hi => ?_⟩, ?_⟩
    · rw [List.length_map, List.length_range] at hi
      rw [range_getD q stp0 hi]
      exact hq i hi
    · rw [List.length_map, List.length_range]; omega
end
end Go.Proofs.YtkcoclpbkealgaaDoor
