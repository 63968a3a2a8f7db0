/-
  The sum as the program tells it: stepHalf, Add, Of: what each returns, for every rest and every text, where the table of steps lies as its initialiser lays it.
-/
import Derived.Test.YtkcoclpbkealgaaDoorRows
import Derived.Test.YtkcoclpbkealgaaDoorPgBase
import Derived.WalkKit
import Derived.WalkSpells
import Derived.WalkLawsBesides
import Derived.RowKit3
import Derived.Below
import Derived.Laws.BitsLemmas
namespace Go.Proofs.YtkcoclpbkealgaaDoor
open Go.RowKit
set_option maxRecDepth 20000

/-- The table of steps lies in the first block. -/
def Tab (w : World) : Prop := 0 < w.heap.size ∧ ∀ i : Nat, i < 16 → w.cell? ⟨0, i, none⟩ = some (.int .u32 ((stepsN.getD i 0 : Nat) : Int))
theorem Tab.after {w w' : World} (h : Tab w) (k : New w w') : Tab w' :=
  ⟨Nat.lt_of_lt_of_le h.1 k.size, fun i hi => (k.cell (p := ⟨0, i, none⟩) h.1).trans (h.2 i hi)⟩

theorem wraps_u32 (n : Int) (h₀ : 0 ≤ n) (h₁ : n < 2 ^ 32) : IntKind.u32.wrap n = n := by rw [IntKind.wrap_u32]; omega
theorem xor_u32 (a b : Nat) (ha : a < 4294967296) (hb : b < 4294967296) : bits .xor .u32 (a : Int) (b : Int) = ((a ^^^ b : Nat) : Int) := by
  have hx : a ^^^ b < 4294967296 := xor_lt ha hb
  have h1 : (BitVec.ofInt 32 (a : Int)).toNat = a := by
    rw [BitVec.ofInt_natCast, BitVec.toNat_ofNat]; exact Nat.mod_eq_of_lt (by omega)
  have h2 : (BitVec.ofInt 32 (b : Int)).toNat = b := by
    rw [BitVec.ofInt_natCast, BitVec.toNat_ofNat]; exact Nat.mod_eq_of_lt (by omega)
  show IntKind.u32.wrap ((BitVec.ofInt 32 (a : Int) ^^^ BitVec.ofInt 32 (b : Int)).toNat : Int) = _
  rw [BitVec.toNat_xor, h1, h2, IntKind.wrap_u32]
  omega
theorem not_u32 (a : Nat) (ha : a < 4294967296) : bits .xor .u32 IntKind.u32.max (a : Int) = ((ones ^^^ a : Nat) : Int) := xor_u32 ones a ones_lt ha
theorem and_low (i a : Nat) (hi : i ≤ 32) (ha : a < 4294967296) : bits .and .u32 (a : Int) (2 ^ i - 1) = ((a % 2 ^ i : Nat) : Int) := by
  rw [bits_mask .u32 32 (by decide) wraps_u32 i hi (a : Int) (Int.natCast_nonneg _) (by omega)]; simp
theorem and15 (a : Nat) (ha : a < 4294967296) : bits .and .u32 (a : Int) 15 = ((a % 16 : Nat) : Int) := and_low 4 a (by decide) ha
theorem and1 (a : Nat) (ha : a < 4294967296) : bits .and .u32 (a : Int) 1 = ((a % 2 : Nat) : Int) := and_low 1 a (by decide) ha

theorem stepsN_lt : ∀ i : Nat, i < 16 → stepsN.getD i 0 < 4294967296 := by decide +kernel

set_option maxHeartbeats 400000 in
theorem stepHalf_any (r : Nat) (hr : r < 4294967296) (w : World) (hT : Tab w) :
    Calls Tryd.prog 100 #[.int .u32 (r : Int)] w fun e w' => e = .returned (.int .u32 ((many 4 r : Nat) : Int)) ∧ w' = w := by
  obtain ⟨x, hx⟩ : ∃ x, r % 16 = x := ⟨_, rfl⟩
  obtain ⟨y, hy⟩ : ∃ y, r / 16 = y := ⟨_, rfl⟩
  obtain ⟨t, ht⟩ : ∃ t, stepsN.getD x 0 = t := ⟨_, rfl⟩
  have hxl : x < 16 := by omega
  have hx0 : (0 : Int) ≤ (x : Int) := Int.natCast_nonneg _
  have hx1 : (x : Int) < 16 := by omega
  have ha := and15 r hr
  rw [hx] at ha
  have hd : (r : Int) / 16 = (y : Int) := by omega
  have hc : w.cell? ⟨0, x, none⟩ = some (.int .u32 (t : Int)) := by rw [hT.2 x hxl, ht]
  have hxor := xor_u32 y t (by omega) (by rw [← ht]; exact stepsN_lt x hxl)
  have HR : Hid (y ^^^ t = many 4 r) := by show _ = _; rw [← half_eq, hx, hy, ht]
  clear hx hy ht hT
  go_enter Tryd.func100, Tryd.ntmps100
  go_wp2_with fail
  go_ret
  exact ⟨ret_u32 (by rw [HR.out]), rfl⟩

end Go.Proofs.YtkcoclpbkealgaaDoor
