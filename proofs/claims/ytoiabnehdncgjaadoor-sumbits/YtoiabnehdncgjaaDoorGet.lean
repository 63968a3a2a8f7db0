/-
  What Get returns: the number of the first four bytes, and nothing of a text that is shorter.
-/
import Derived.Test.YtoiabnehdncgjaaDoorSum
namespace Go.Proofs.YtoiabnehdncgjaaDoor
open Go.RowKit

theorem get_short (s : ByteArray) (hs : s.size < 4) (w : World) :
    Calls Tryd.prog 8 #[.string s] w fun e w' => e = .returned (.tuple #[.int .u32 0, .bool false]) ∧ w' = w := by
  have hd : decide ((s.size : Int) < 4) = true := decide_eq_true (by omega)
  go_enter Tryd.func8, Tryd.ntmps8
  go_wp2_with fail
  go_ret2
  exact ⟨rfl, rfl⟩

theorem beN_lt (l : List UInt8) (k : Nat) (hk : k ≤ l.length) : beN (l.take k) < 256 ^ k := by
  induction k with
  | zero => exact Nat.one_pos
  | succ k ih =>
    have hc : l[k]? = some l[k] := List.getElem?_eq_getElem (by omega)
    rw [beN_step l k _ hc]
    have := ih (by omega)
    have h2 := (l[k]).toNat_lt
    rw [Nat.pow_succ]
    omega

theorem or_byte (t : Nat) (c : UInt8) (ht : t < 16777216) : bits .or .u32 ((t : Int) * 256) (c.toNat : Int) = ((t * 256 + c.toNat : Nat) : Int) := by
  have hc := c.toNat_lt
  rw [bits_join .u32 32 (by decide) wraps_u32 8 _ _ (by omega) (by omega) (by omega) (by omega) (by omega) (by omega)]
  omega

set_option maxHeartbeats 400000 in
theorem get_core (s : ByteArray) (hs : 4 ≤ s.size) (n : Nat) (hn : Hid (beN ((L s).take 4) = n)) (w : World) :
    Calls Tryd.prog 8 #[.string s] w fun e w' => e = .returned (.tuple #[.int .u32 (n : Int), .bool true]) ∧ w' = w := by
  have hd : decide ((s.size : Int) < 4) = false := decide_eq_false (by omega)
  go_enter Tryd.func8, Tryd.ntmps8
  go_wp2_with fail
  go_loop [4, 9] (fun t i => ∃ k : Nat, k ≤ 4 ∧ i = .int .i64 k ∧ t = .int .u32 ((beN ((L s).take k) : Nat) : Int)) (fun _ i => 4 - (intOf i).toNat)
  case atStart => exact ⟨0, by omega, rfl, rfl⟩
  case round =>
    obtain ⟨k, hk, rfl, rfl⟩ := hrel
    by_cases hlt : k < 4
    · have hks : k < s.size := by omega
      have hv := beN_lt (L s) k (by rw [L_size]; omega)
      have hp : 256 ^ k ≤ 256 ^ 3 := Nat.pow_le_pow_right (by omega) (by omega)
      have HT : Hid (_ = _) := beN_step (L s) k s[k] (L_get s k hks)
      have ht : beN ((L s).take k) < 16777216 := by omega
      clear hv hp
      generalize beN ((L s).take k) = t at ht HT
      have hor := or_byte t s[k] ht
      have hw : IntKind.u32.wrap (s[k].toNat : Int) = (s[k].toNat : Int) := wraps_u32 _ (Int.natCast_nonneg _) (by have := byte_lt s[k]; omega)
      have hw2 : IntKind.u32.wrap ((t : Int) * 256) = (t : Int) * 256 := wraps_u32 _ (by omega) (by omega)
      go_wp2_with fail
      go_round
      case rel => exact ⟨k + 1, by omega, by go_num, by rw [HT.out]; simp⟩
      case measure => simp [intOf]; omega
    · obtain rfl : k = 4 := by omega
      have HV : Hid (beN ((L s).take 4) = n) := hn
      generalize beN ((L s).take 4) = t at HV
      obtain rfl : t = n := HV.out
      go_wp2_with fail
      go_ret2
      exact ⟨rfl, rfl⟩
theorem get_long (s : ByteArray) (hs : 4 ≤ s.size) (w : World) :
    Calls Tryd.prog 8 #[.string s] w fun e w' => e = .returned (.tuple #[.int .u32 ((beN ((L s).take 4) : Nat) : Int), .bool true]) ∧ w' = w := get_core s hs _ rfl w

end Go.Proofs.YtoiabnehdncgjaaDoor
