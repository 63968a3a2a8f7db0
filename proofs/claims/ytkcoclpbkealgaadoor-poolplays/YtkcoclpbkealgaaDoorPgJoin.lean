/-
  What joined and num return: the number whose bytes a text is, the highest first; at most four.
-/
import Derived.Test.YtkcoclpbkealgaaDoorPgPut
import Derived.Test.YtkcoclpbkealgaaDoorPgLay
namespace Go.Proofs.YtkcoclpbkealgaaDoor
open Go.RowKit
set_option maxRecDepth 20000

theorem beN_lt (l : List UInt8) (k : Nat) (hk : k ≤ l.length) : beN (l.take k) < 256 ^ k := by
  induction k with
  | zero => exact Nat.one_pos
  | succ k ih =>
    have hc : l[k]? = some l[k] := List.getElem?_eq_getElem (by omega)
    rw [beN_step l k _ hc]
    have := ih (by omega)
    have h2 := (l[k]).toNat_lt
    rw [Nat.pow_succ]
    omega
theorem or_byte (t : Nat) (c : UInt8) (ht : t < 16777216) : bits .or .u32 ((t : Int) * 256) (c.toNat : Int) = ((t * 256 + c.toNat : Nat) : Int) := by
  have hc := c.toNat_lt
  rw [bits_join .u32 32 (by decide) wraps_u32 8 _ _ (by omega) (by omega) (by omega) (by omega) (by omega) (by omega)]
  omega
theorem wraps_i64 (n : Int) (h₀ : 0 ≤ n) (h₁ : n < 2 ^ 63) : IntKind.i64.wrap n = n := by rw [IntKind.wrap_i64]; omega
theorem or_byte_int (t : Nat) (c : UInt8) (ht : t < 16777216) : bits .or .i64 ((t : Int) * 256) (c.toNat : Int) = ((t * 256 + c.toNat : Nat) : Int) := by
  have hc := c.toNat_lt
  rw [bits_join .i64 63 (by decide) wraps_i64 8 _ _ (by omega) (by omega) (by omega) (by omega) (by omega) (by omega)]
  omega

end Go.Proofs.YtkcoclpbkealgaaDoor
