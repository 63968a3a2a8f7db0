/-
  How many bits of a mask are set: OnesCount64, OnesCount, childrenOf, and the document's own Bits.
-/
import Derived.Test.YtecamiefpdkjoaaDoorNdLeaf
import Derived.Laws.Bits128
namespace Go.Proofs.YtecamiefpdkjoaaDoor
open Go.RowKit
set_option maxRecDepth 20000
set_option linter.unusedVariables false

def an6 (a b : Nat) : Nat := (a % 18446744073709551616) &&& (b % 18446744073709551616)
def ad6 (a b : Nat) : Nat := (a + b) % 18446744073709551616
def dv6 (a b : Nat) : Nat := a / b
theorem an6_lt (a b : Nat) : an6 a b < 18446744073709551616 := Nat.and_lt_two_pow (n := 64) _ (Nat.mod_lt _ (by decide))
theorem toNat_long (a : Nat) : (BitVec.ofInt 64 (a : Int)).toNat = a % 18446744073709551616 := by
  rw [BitVec.ofInt_natCast, BitVec.toNat_ofNat]
theorem wrap_long (n : Nat) (h : n < 18446744073709551616) : IntKind.u64.wrap (n : Int) = (n : Int) := by rw [IntKind.wrap_u64]; omega
theorem an_u64 (a b : Nat) : bits .and .u64 (a : Int) (b : Int) = ((an6 a b : Nat) : Int) := by
  show IntKind.u64.wrap ((BitVec.ofInt 64 (a : Int) &&& BitVec.ofInt 64 (b : Int)).toNat : Int) = _
  rw [BitVec.toNat_and, toNat_long, toNat_long]
  exact wrap_long _ (an6_lt a b)
theorem ad_u64 (a b : Nat) : IntKind.u64.wrap ((a : Int) + (b : Int)) = ((ad6 a b : Nat) : Int) := by
  rw [IntKind.wrap_u64]; unfold ad6; omega
def oc1 (x : Nat) : Nat := ad6 (an6 (dv6 x 2) 6148914691236517205) (an6 x 6148914691236517205)
def oc2 (x : Nat) : Nat := ad6 (an6 (dv6 x 4) 3689348814741910323) (an6 x 3689348814741910323)
def oc3 (x : Nat) : Nat := an6 (ad6 (dv6 x 16) x) 1085102592571150095
def oc4 (x : Nat) : Nat := ad6 x (dv6 x 256)
def oc5 (x : Nat) : Nat := ad6 x (dv6 x 65536)
def oc6 (x : Nat) : Nat := ad6 x (dv6 x 4294967296)
def ocN (x : Nat) : Nat := oc6 (oc5 (oc4 (oc3 (oc2 (oc1 x)))))
/-- By bytes. -/
theorem land_split (x y : Nat) : x &&& y = 256 * (x / 256 &&& y / 256) + (x % 256 &&& y % 256) := by
  have h1 : (x &&& y) / 2 ^ 8 = x / 2 ^ 8 &&& y / 2 ^ 8 := Nat.and_div_two_pow
  have h2 : (x &&& y) % 2 ^ 8 = x % 2 ^ 8 &&& y % 2 ^ 8 := Nat.and_mod_two_pow
  have h3 := Nat.div_add_mod (x &&& y) 256
  rw [show (256 : Nat) = 2 ^ 8 from rfl] at h3 ⊢
  rw [← h1, ← h2]
  exact h3.symm
theorem land_le (x y : Nat) : x &&& y ≤ y := Nat.and_le_right
theorem an6_small (x m : Nat) (hx : x < 18446744073709551616) (hm : m < 18446744073709551616) : an6 x m = x &&& m := by unfold an6; rw [Nat.mod_eq_of_lt hx, Nat.mod_eq_of_lt hm]
theorem mask_low (a m : Nat) (h : a < 256) : a &&& m = a &&& (m % 256) := by
  have h1 := land_split a m
  rw [Nat.div_eq_of_lt h, Nat.zero_and, Nat.mod_eq_of_lt h] at h1
  omega
/-- Two bytes and a mask. -/
theorem mask_two (a b m k : Nat) (ha : a < 256) (hb : b < 256) (hm : m < 18446744073709551616) (h1 : m % 256 = k) (h2 : m / 256 % 256 = k) : an6 (256 * a + b) m = 256 * (a &&& k) + (b &&& k) := by
  rw [an6_small _ _ (by omega) hm, land_split, show (256 * a + b) / 256 = a by omega, show (256 * a + b) % 256 = b by omega, mask_low a _ ha, h1, h2]
def s1 (c : Nat) : Nat := (c / 2 &&& 85) + (c &&& 85)
def s2 (c : Nat) : Nat := (c / 4 &&& 51) + (c &&& 51)
def s3 (c : Nat) : Nat := (c / 16 + c) &&& 15
theorem low85 : ∀ c, c < 128 → (128 + c) &&& 85 = c &&& 85 := by decide +kernel
theorem low51 : ∀ p, p < 4 → ∀ c, c < 64 → (64 * p + c) &&& 51 = c &&& 51 := by decide +kernel
theorem low15 : ∀ p, p < 16 → ∀ c, c < 128 → (16 * p + c) &&& 15 = c &&& 15 := by decide +kernel
theorem byte_all : ∀ a, a < 256 → s3 (s2 (s1 a)) = popT a 8 ∧ s2 (s1 a) % 16 ≤ 4 ∧ s2 (s1 a) ≤ 68 ∧ s1 a ≤ 170 := by decide +kernel
theorem oc1_two (a b : Nat) (ha : a < 256) (hb : b < 256) : oc1 (256 * a + b) = 256 * s1 a + s1 b := by
  have h := (byte_all a ha).2.2.2
  have h' := (byte_all b hb).2.2.2
  unfold oc1 dv6
  rw [show (256 * a + b) / 2 = 256 * (a / 2) + (128 * (a % 2) + b / 2) by omega, mask_two (a / 2) _ _ 85 (by omega) (by omega) (by decide) (by decide) (by decide), mask_two a b _ 85 ha hb (by decide) (by decide) (by decide)]
  have e : (128 * (a % 2) + b / 2) &&& 85 = b / 2 &&& 85 := by
    have h0 : a % 2 = 0 ∨ a % 2 = 1 := by omega
    rcases h0 with h0 | h0
    · rw [h0, Nat.mul_zero, Nat.zero_add]
    · rw [h0, Nat.mul_one]; exact low85 _ (by omega)
  rw [e]
  unfold s1 at h h' ⊢
  unfold ad6
  omega
theorem oc2_two (a b : Nat) (ha : a ≤ 170) (hb : b ≤ 170) : oc2 (256 * a + b) = 256 * s2 a + s2 b := by
  unfold oc2 dv6
  rw [show (256 * a + b) / 4 = 256 * (a / 4) + (64 * (a % 4) + b / 4) by omega, mask_two (a / 4) _ _ 51 (by omega) (by omega) (by decide) (by decide) (by decide), mask_two a b _ 51 (by omega) (by omega) (by decide) (by decide) (by decide), low51 _ (by omega) _ (by omega)]
  have h1 := land_le (a / 4) 51
  have h2 := land_le a 51
  have h3 := land_le (b / 4) 51
  have h4 := land_le b 51
  unfold s2 ad6
  omega
theorem oc3_two (a b : Nat) (ha : a ≤ 68) (hb : b ≤ 68) (h16 : a % 16 ≤ 4) : oc3 (256 * a + b) = 256 * s3 a + s3 b := by
  unfold oc3 dv6 ad6
  rw [show ((256 * a + b) / 16 + (256 * a + b)) % 18446744073709551616 = 256 * (a / 16 + a) + (16 * (a % 16) + (b / 16 + b)) by omega, mask_two _ _ _ 15 (by omega) (by omega) (by decide) (by decide) (by decide), low15 _ (by omega) _ (by omega)]
  rfl
theorem popT_low (a b : Nat) (hb : b < 256) : ∀ k, k ≤ 8 → popT (256 * a + b) k = popT b k
  | 0, _ => rfl
  | k + 1, hk => by
    have ih := popT_low a b hb k (by omega)
    show popT (256 * a + b) k + (256 * a + b) / 2 ^ k % 2 = popT b k + b / 2 ^ k % 2
    rw [ih]
    have h8 : k = 0 ∨ k = 1 ∨ k = 2 ∨ k = 3 ∨ k = 4 ∨ k = 5 ∨ k = 6 ∨ k = 7 := by omega
    rcases h8 with rfl | rfl | rfl | rfl | rfl | rfl | rfl | rfl <;> omega
theorem popT_high (a b : Nat) (hb : b < 256) : ∀ k, popT (256 * a + b) (8 + k) = popT b 8 + popT a k
  | 0 => popT_low a b hb 8 (Nat.le_refl _)
  | k + 1 => by
    have ih := popT_high a b hb k
    show popT (256 * a + b) (8 + k) + (256 * a + b) / 2 ^ (8 + k) % 2 = popT b 8 + (popT a k + a / 2 ^ k % 2)
    have e : (256 * a + b) / 2 ^ (8 + k) = a / 2 ^ k := by
      rw [Nat.pow_add, ← Nat.div_div_eq_div_mul, show (256 * a + b) / 2 ^ 8 = a by omega]
    rw [ih, e]; omega
theorem oc_eq (x : Nat) (h : x < 65536) : ocN x % 128 = popN x ∧ ocN x < 9223372036854775808 := by
  obtain ⟨a, b, ha, hb, rfl⟩ : ∃ a b, a < 256 ∧ b < 256 ∧ x = 256 * a + b := ⟨x / 256, x % 256, by omega, by omega, by omega⟩
  obtain ⟨p1, p2, p3, p4⟩ := byte_all a ha
  obtain ⟨q1, q2, q3, q4⟩ := byte_all b hb
  have hp := popT_high a b hb 8
  have l1 := popT_le a 8
  have l2 := popT_le b 8
  unfold ocN
  rw [oc1_two a b ha hb, oc2_two _ _ p4 q4, oc3_two _ _ p3 q3 p2, p1, q1]
  unfold popN
  rw [show (16 : Nat) = 8 + 8 from rfl, hp]
  obtain ⟨A, hA⟩ : ∃ A, popT a 8 = A := ⟨_, rfl⟩
  obtain ⟨B, hB⟩ : ∃ B, popT b 8 = B := ⟨_, rfl⟩
  rw [hA] at l1 ⊢
  rw [hB] at l2 ⊢
  clear p1 p2 p3 p4 q1 q2 q3 q4 hp h
  have e4 : oc4 (256 * A + B) = 257 * A + B := by unfold oc4 ad6 dv6; omega
  have e5 : oc5 (257 * A + B) = 257 * A + B := by unfold oc5 ad6 dv6; rw [Nat.div_eq_of_lt (by omega)]; omega
  have e6 : oc6 (257 * A + B) = 257 * A + B := by unfold oc6 ad6 dv6; rw [Nat.div_eq_of_lt (by omega)]; omega
  rw [e4, e5, e6]
  omega

set_option maxHeartbeats 1600000 in
theorem ones64_any (x : Nat) (h : x < 65536) (w : World) :
    Calls Tryd.prog 75 #[.int .u64 (x : Int)] w fun e w' => e = .returned (.int .i64 (popN x : Nat)) ∧ w' = w := by
  have a1 : ∀ a : Nat, bits .and .u64 (a : Int) 6148914691236517205 = ((an6 a 6148914691236517205 : Nat) : Int) := fun a => an_u64 a 6148914691236517205
  have a2 : ∀ a : Nat, bits .and .u64 (a : Int) 3689348814741910323 = ((an6 a 3689348814741910323 : Nat) : Int) := fun a => an_u64 a 3689348814741910323
  have a3 : ∀ a : Nat, bits .and .u64 (a : Int) 1085102592571150095 = ((an6 a 1085102592571150095 : Nat) : Int) := fun a => an_u64 a 1085102592571150095
  have ad := ad_u64
  have d1 : ∀ a : Nat, (a : Int) / 2 = ((dv6 a 2 : Nat) : Int) := fun a => by unfold dv6; omega
  have d2 : ∀ a : Nat, (a : Int) / 4 = ((dv6 a 4 : Nat) : Int) := fun a => by unfold dv6; omega
  have d3 : ∀ a : Nat, (a : Int) / 16 = ((dv6 a 16 : Nat) : Int) := fun a => by unfold dv6; omega
  have d4 : ∀ a : Nat, (a : Int) / 256 = ((dv6 a 256 : Nat) : Int) := fun a => by unfold dv6; omega
  have d5 : ∀ a : Nat, (a : Int) / 65536 = ((dv6 a 65536 : Nat) : Int) := fun a => by unfold dv6; omega
  have d6 : ∀ a : Nat, (a : Int) / 4294967296 = ((dv6 a 4294967296 : Nat) : Int) := fun a => by unfold dv6; omega
  obtain ⟨z, hz⟩ : ∃ z, ocN x = z := ⟨_, rfl⟩
  obtain ⟨hoc, hlt⟩ := oc_eq x h
  rw [hz] at hoc hlt
  have HP : Hid (z % 128 = popN x) := hoc
  unfold ocN oc6 oc5 oc4 oc3 oc2 oc1 at hz
  have hmod : (z : Int) % 128 = ((popN x : Nat) : Int) := by omega
  have hand : bits .and .i64 (z : Int) 127 = (z : Int) % 128 := i64_and127 _
  clear hoc
  go_enter Tryd.func75, Tryd.ntmps75
  go_wp2_with fail
  go_ret
  exact ⟨rfl, rfl⟩

end Go.Proofs.YtecamiefpdkjoaaDoor
