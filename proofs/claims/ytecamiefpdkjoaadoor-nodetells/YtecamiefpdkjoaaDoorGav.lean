/-
  What a law's arguments are: an Item, a text, a byte; each opened.
-/
import Derived.Test.YtecamiefpdkjoaaDoorGau
import Derived.Test.YtecamiefpdkjoaaDoorGal
import Derived.ProofKit
import Derived.OpenShut
import Derived.ShutString
import Derived.ChangeOld
import Derived.Below
import Derived.Deep.SlicePairs
import Derived.Lib.SmallJoins
namespace Go.Proofs.YtecamiefpdkjoaaDoor
open Go.ChangeShapes Go.WideShapes Go.ChangeAt Go.RowKit
set_option maxRecDepth 100000

section
variable {H : Type} {enc : TypeId × Value → H} {W : World} {base : Nat} {d : DataW H} {p : List MemPlace} {v : Value}
theorem texts_of {fuel : Nat} {v : Value} {x : DataW H × List MemPlace} (hf : DataW.trod enc Tryd.prog W 0 (fun _ => true) true fuel 22 [v] = some x) : ∃ a cap l, v = .slice a l.length cap ∧ Tx W a l := by
  rcases Go.Deep.open_slice1 Tryd.underlying22 (by kernel_rfl) hf with ⟨hcs, _⟩ | ⟨x, l, c, m, n, V, D, Pp, hcs, _, hl, hm, hmm, hpl, hcell⟩
  · simp at hcs
    subst hcs
    exact ⟨none, 0, [], rfl, Tx.nil _ _⟩
  · simp at hcs
    subst hcs
    have each : ∀ i, i < l → ∃ q : List UInt8, W.cell? (x.add i) = some (.string (bs q)) := fun i hi => by
      obtain ⟨h1, h2⟩ := hcell i (by rw [hmm]; split <;> omega)
      obtain ⟨z0, hz0, _, hw0⟩ := DataW.trod_string Tryd.underlying9 h2
      simp at hz0
      exact ⟨L z0, by rw [h1, hz0, bs_L]⟩
    obtain ⟨q, hq⟩ := Go.Deep.choose_lt (α := List UInt8) each
    refine ⟨some x, c, (List.range l).map q, by rw [List.length_map, List.length_range], fun h0 => ⟨x, rfl, fun i y hy => ?_⟩⟩
    rw [List.getElem?_map] at hy
    by_cases hi : i < l
    · rw [List.getElem?_range hi] at hy
      cases hy
      exact hq i hi
    · rw [List.getElem?_eq_none (by rw [List.length_range]; omega)] at hy
      cases hy
theorem ask_item (hv : Value.okWide Tryd.prog W .any base 24 v) (h : DataW.Trod enc Tryd.prog W 0 (fun _ => true) true 24 v d p) : ∃ I a c, v = itV I a c ∧ Tx W a I.hs := by
  obtain ⟨cs, rfl, hsz⟩ := okWide_struct Tryd.underlying24 hv
  obtain ⟨fuel, hf⟩ := h
  obtain ⟨xs, m, hm, hx, hl, hlen, hfl⟩ := DataW.trod_struct Tryd.underlying24 hf
  rw [show Tryd.prog.cellsOf 24 = 6 by kernel_rfl] at hl
  match xs, hlen, hx, hfl with
  | [y0, y1, y2, y3, y4, y5], _, hx, hfl =>
    have h0 : DataW.trod enc Tryd.prog W 0 (fun _ => true) true m 3 ((cs.toList.drop 0).take (Tryd.prog.cellsOf 3)) = some y0 := hfl 0 _ rfl
    have h1 : DataW.trod enc Tryd.prog W 0 (fun _ => true) true m 9 ((cs.toList.drop 1).take (Tryd.prog.cellsOf 9)) = some y1 := hfl 1 _ rfl
    have h2 : DataW.trod enc Tryd.prog W 0 (fun _ => true) true m 4 ((cs.toList.drop 2).take (Tryd.prog.cellsOf 4)) = some y2 := hfl 2 _ rfl
    have h3 : DataW.trod enc Tryd.prog W 0 (fun _ => true) true m 9 ((cs.toList.drop 3).take (Tryd.prog.cellsOf 9)) = some y3 := hfl 3 _ rfl
    have h4 : DataW.trod enc Tryd.prog W 0 (fun _ => true) true m 3 ((cs.toList.drop 4).take (Tryd.prog.cellsOf 3)) = some y4 := hfl 4 _ rfl
    have h5 : DataW.trod enc Tryd.prog W 0 (fun _ => true) true m 22 ((cs.toList.drop 5).take (Tryd.prog.cellsOf 22)) = some y5 := hfl 5 _ rfl
    rw [show Tryd.prog.cellsOf 3 = 1 by kernel_rfl] at h0 h4
    rw [show Tryd.prog.cellsOf 9 = 1 by kernel_rfl] at h1 h3
    rw [show Tryd.prog.cellsOf 4 = 1 by kernel_rfl] at h2
    rw [show Tryd.prog.cellsOf 22 = 1 by kernel_rfl] at h5
    obtain ⟨k, e0, _, _⟩ := DataW.trod_int Tryd.underlying3 h0
    obtain ⟨s1, e1, _, _⟩ := DataW.trod_string Tryd.underlying9 h1
    obtain ⟨b, e2, _⟩ := DataW.trod_bool Tryd.underlying4 h2
    obtain ⟨s3, e3, _, _⟩ := DataW.trod_string Tryd.underlying9 h3
    obtain ⟨z, e4, _, _⟩ := DataW.trod_int Tryd.underlying3 h4
    match cs, hl with
    | ⟨[c0, c1, c2, c3, c4, c5]⟩, _ =>
      simp at e0 e1 e2 e3 e4
      subst e0; subst e1; subst e2; subst e3; subst e4
      have h5' : DataW.trod enc Tryd.prog W 0 (fun _ => true) true m 22 [c5] = some y5 := h5
      obtain ⟨a, cap, l, rfl, hT⟩ := texts_of h5'
      exact ⟨⟨k, L s1, b, L s3, z, l⟩, a, cap, by show _ = Value.agg _; simp only [bs_L], hT⟩
theorem byte_u8 {z : Int} (h : (Lit.int .u8 z).wf = true) : ∃ v : UInt8, z = (v.toNat : Int) := by
  have hb := bounds_u8 h
  refine ⟨UInt8.ofNat z.toNat, ?_⟩
  rw [UInt8.toNat_ofNat']
  omega
end
end Go.Proofs.YtecamiefpdkjoaaDoor
