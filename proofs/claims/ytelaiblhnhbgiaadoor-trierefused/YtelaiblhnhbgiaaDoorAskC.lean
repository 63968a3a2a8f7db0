/-
  Two bytes as an argument, opened.
-/
import Derived.Test.YtelaiblhnhbgiaaDoorAskN
namespace Go.Proofs.YtelaiblhnhbgiaaDoor
open Go.ChangeShapes Go.WideShapes Go.ChangeAt Go.RowKit
set_option maxRecDepth 100000

theorem okWide_arr {P : Program} {w : World} {r : Reach} {base n : Nat} {t e : TypeId} {v : Value} (ht : P.underlying t = some (.array n e)) (h : Value.okWide P w r base t v) : ∃ cs, v = .agg cs ∧ cs.size = P.cellsOf t := by
  simp only [Value.okWide, ht] at h
  obtain ⟨cs, h1, h2, _⟩ := h
  exact ⟨cs, h1, h2⟩
theorem two_of {α : Type} {l : List α} (h : l.length = 2) : ∃ a b, l = [a, b] := by
  match l, h with
  | [a, b], _ => exact ⟨a, b, rfl⟩
section
variable {H : Type} {enc : TypeId × Value → H} {W : World} {base : Nat} {d : DataW H} {p : List MemPlace} {v : Value}
theorem ask_two (hv : Value.okWide Tryd.prog W .any base 55 v) (h : DataW.Trod enc Tryd.prog W 0 (fun _ => true) true 55 v d p) : ∃ x y : UInt8, v = .agg #[.int .u8 (x.toNat : Int), .int .u8 (y.toNat : Int)] := by
  obtain ⟨cs, rfl, hsz⟩ := okWide_arr Tryd.underlying55 hv
  obtain ⟨fuel, hf⟩ := h
  obtain ⟨xs, k, _, _, _, hxl, hel⟩ := DataW.trod_array Tryd.underlying55 hf
  rw [show Tryd.prog.cellsOf 55 = 2 by kernel_rfl] at hsz
  rw [show Tryd.prog.cellsOf 5 = 1 by kernel_rfl] at hel
  have e : (Value.agg cs).cells.toList = cs.toList := rfl
  rw [e] at hel
  obtain ⟨c0, c1, hc⟩ := two_of (l := cs.toList) (by simpa using hsz)
  obtain rfl : cs = #[c0, c1] := Array.ext' hc
  have g0 := hel 0 (by omega)
  have g1 := hel 1 (by omega)
  rw [List.getElem?_eq_getElem (show 0 < xs.length by omega)] at g0
  rw [List.getElem?_eq_getElem (show 1 < xs.length by omega)] at g1
  obtain ⟨z0, hz0, _, w0⟩ := DataW.trod_int Tryd.underlying5 g0
  obtain ⟨z1, hz1, _, w1⟩ := DataW.trod_int Tryd.underlying5 g1
  obtain ⟨x, rfl⟩ := byte_u8 w0
  obtain ⟨y, rfl⟩ := byte_u8 w1
  have a0 : [c0] = [Value.int .u8 (x.toNat : Int)] := hz0
  have a1 : [c1] = [Value.int .u8 (y.toNat : Int)] := hz1
  exact ⟨x, y, by rw [(List.cons.inj a0).1, (List.cons.inj a1).1]⟩
end
end Go.Proofs.YtelaiblhnhbgiaaDoor
