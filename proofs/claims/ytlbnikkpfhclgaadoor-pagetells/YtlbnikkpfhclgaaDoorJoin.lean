/-
  What joined and num return: the number whose bytes a text is, the highest first; at most four.
-/
import Derived.Test.YtlbnikkpfhclgaaDoorPut
import Derived.Test.YtlbnikkpfhclgaaDoorLay
namespace Go.Proofs.YtlbnikkpfhclgaaDoor
open Go.RowKit

theorem beN_lt (l : List UInt8) (k : Nat) (hk : k ≤ l.length) : beN (l.take k) < 256 ^ k := by
  induction k with
  | zero => exact Nat.one_pos
  | succ k ih =>
    have hc : l[k]? = some l[k] := List.getElem?_eq_getElem (by omega)
    rw [beN_step l k _ hc]
    have := ih (by omega)
    have h2 := (l[k]).toNat_lt
    rw [Nat.pow_succ]
    omega
theorem or_byte (t : Nat) (c : UInt8) (ht : t < 16777216) : bits .or .u32 ((t : Int) * 256) (c.toNat : Int) = ((t * 256 + c.toNat : Nat) : Int) := by
  have hc := c.toNat_lt
  rw [bits_join .u32 32 (by decide) wraps_u32 8 _ _ (by omega) (by omega) (by omega) (by omega) (by omega) (by omega)]
  omega
theorem wraps_i64 (n : Int) (h₀ : 0 ≤ n) (h₁ : n < 2 ^ 63) : IntKind.i64.wrap n = n := by rw [IntKind.wrap_i64]; omega
theorem or_byte_int (t : Nat) (c : UInt8) (ht : t < 16777216) : bits .or .i64 ((t : Int) * 256) (c.toNat : Int) = ((t * 256 + c.toNat : Nat) : Int) := by
  have hc := c.toNat_lt
  rw [bits_join .i64 63 (by decide) wraps_i64 8 _ _ (by omega) (by omega) (by omega) (by omega) (by omega) (by omega)]
  omega

set_option maxHeartbeats 400000 in
theorem joined_core (s : ByteArray) (hs : s.size ≤ 4) (n : Nat) (hn : Hid (beN (L s) = n)) (w : World) :
    Calls Tryd.prog 24 #[.string s] w fun e w' => e = .returned (.int .u32 (n : Int)) ∧ w' = w := by
  go_enter Tryd.func24, Tryd.ntmps24
  go_wp2_with fail
  go_loop [3, 4, 7] (fun t _ i => ∃ k : Nat, k ≤ s.size ∧ i = .int .i64 k ∧ t = .int .u32 ((beN ((L s).take k) : Nat) : Int)) (fun _ _ i => s.size - (intOf i).toNat)
  case atStart => exact ⟨0, by omega, rfl, rfl⟩
  case round =>
    obtain ⟨k, hk, rfl, rfl⟩ := hrel
    by_cases hlt : k < s.size
    · have hv := beN_lt (L s) k (by rw [L_size]; omega)
      have hp : 256 ^ k ≤ 256 ^ 3 := Nat.pow_le_pow_right (by omega) (by omega)
      have HT : Hid (_ = _) := beN_step (L s) k s[k] (L_get s k hlt)
      have ht : beN ((L s).take k) < 16777216 := by omega
      clear hv hp
      generalize beN ((L s).take k) = t at ht HT
      have hor := or_byte t s[k] ht
      have hw : IntKind.u32.wrap (s[k].toNat : Int) = (s[k].toNat : Int) := wraps_u32 _ (Int.natCast_nonneg _) (by have := byte_lt s[k]; omega)
      have hw2 : IntKind.u32.wrap ((t : Int) * 256) = (t : Int) * 256 := wraps_u32 _ (by omega) (by omega)
      go_wp2_with fail
      go_round
      case rel => exact ⟨k + 1, by omega, by go_num, by rw [HT.out]; simp⟩
      case measure => simp [intOf]; omega
    · obtain rfl : k = s.size := by omega
      have HV : Hid (beN ((L s).take s.size) = n) := by
        show _ = _
        rw [← L_size, List.take_length]; exact hn.out
      generalize beN ((L s).take s.size) = t at HV
      obtain rfl : t = n := HV.out
      go_wp2_with fail
      go_ret
      exact ⟨rfl, rfl⟩
theorem joined_any (s : ByteArray) (hs : s.size ≤ 4) (w : World) :
    Calls Tryd.prog 24 #[.string s] w fun e w' => e = .returned (.int .u32 ((beN (L s) : Nat) : Int)) ∧ w' = w := joined_core s hs _ rfl w

set_option maxHeartbeats 400000 in
theorem num_core (s : ByteArray) (hs : s.size ≤ 4) (n : Nat) (hn : Hid (beN (L s) = n)) (w : World) :
    Calls Tryd.prog 22 #[.string s] w fun e w' => e = .returned (.int .i64 (n : Int)) ∧ w' = w := by
  go_enter Tryd.func22, Tryd.ntmps22
  go_wp2_with fail
  go_loop [3, 4] (fun t i => ∃ k : Nat, k ≤ s.size ∧ i = .int .i64 k ∧ t = .int .i64 ((beN ((L s).take k) : Nat) : Int)) (fun _ i => s.size - (intOf i).toNat)
  case atStart => exact ⟨0, by omega, rfl, rfl⟩
  case round =>
    obtain ⟨k, hk, rfl, rfl⟩ := hrel
    by_cases hlt : k < s.size
    · have hv := beN_lt (L s) k (by rw [L_size]; omega)
      have hp : 256 ^ k ≤ 256 ^ 3 := Nat.pow_le_pow_right (by omega) (by omega)
      have HT : Hid (_ = _) := beN_step (L s) k s[k] (L_get s k hlt)
      have ht : beN ((L s).take k) < 16777216 := by omega
      clear hv hp
      generalize beN ((L s).take k) = t at ht HT
      have hor := or_byte_int t s[k] ht
      have hw : IntKind.i64.wrap (s[k].toNat : Int) = (s[k].toNat : Int) := wraps_i64 _ (Int.natCast_nonneg _) (by have := byte_lt s[k]; omega)
      have hw2 : IntKind.i64.wrap ((t : Int) * 256) = (t : Int) * 256 := wraps_i64 _ (by omega) (by omega)
      go_wp2_with fail
      go_round
      case rel => exact ⟨k + 1, by omega, by go_num, by rw [HT.out]; simp⟩
      case measure => simp [intOf]; omega
    · obtain rfl : k = s.size := by omega
      have HV : Hid (beN ((L s).take s.size) = n) := by
        show _ = _
        rw [← L_size, List.take_length]; exact hn.out
      generalize beN ((L s).take s.size) = t at HV
      obtain rfl : t = n := HV.out
      go_wp2_with fail
      go_ret
      exact ⟨rfl, rfl⟩
theorem num_any (s : ByteArray) (hs : s.size ≤ 4) (w : World) :
    Calls Tryd.prog 22 #[.string s] w fun e w' => e = .returned (.int .i64 ((beN (L s) : Nat) : Int)) ∧ w' = w := num_core s hs _ rfl w

end Go.Proofs.YtlbnikkpfhclgaaDoor
