/-
  A byte as an argument, opened.
-/
import Derived.Test.YtjikdbmdaeonlaaDoorGbc
namespace Go.Proofs.YtjikdbmdaeonlaaDoor
open Go.ChangeShapes Go.WideShapes Go.ChangeAt Go.RowKit
set_option maxRecDepth 100000

section
variable {H : Type} {enc : TypeId × Value → H} {W : World} {base : Nat} {d : DataW H} {p : List MemPlace} {v : Value}
theorem ask_byte (hv : Value.okWide Tryd.prog W .any base 5 v) (h : DataW.Trod enc Tryd.prog W 0 (fun _ => true) true 5 v d p) : ∃ u : UInt8, v = .int .u8 (u.toNat : Int) := by
  obtain ⟨z, rfl, _, _, wz⟩ := open_int Tryd.underlying5 hv h
  obtain ⟨u, rfl⟩ := byte_u8 wz
  exact ⟨u, rfl⟩
end
end Go.Proofs.YtjikdbmdaeonlaaDoor
