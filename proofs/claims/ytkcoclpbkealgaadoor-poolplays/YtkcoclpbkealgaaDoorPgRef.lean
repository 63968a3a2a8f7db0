/-
  What the document's own Of and Add return, bit by bit, for every text: the same sum.
-/
import Derived.Test.YtkcoclpbkealgaaDoorPgSum
namespace Go.Proofs.YtkcoclpbkealgaaDoor
open Go.RowKit
set_option maxRecDepth 20000

theorem one_odd (x : Nat) (h : x % 2 = 1) : (x / 2) ^^^ 2197175160 = one x := by
  unfold one
  rw [if_pos h, Nat.shiftRight_eq_div_pow]; rfl
theorem one_even (x : Nat) (h : ¬ x % 2 = 1) : x / 2 = one x := by
  unfold one
  rw [if_neg h, Nat.shiftRight_eq_div_pow, Nat.xor_zero]

set_option maxHeartbeats 2000000 in
theorem refOf_core  (s : ByteArray) (hs : s.size ≤ 140737488351232) (v : Nat) (hv : Hid (sumL 0 (L s) = v)) (w : World) :
    Calls Tryd.prog 65 #[.string s] w fun e w' => e = .returned (.int .u32 (v : Int)) ∧ w' = w := by
  obtain ⟨n, hn⟩ : ∃ n, ones ^^^ 0 = n := ⟨_, rfl⟩
  have HN : Hid (ones ^^^ 0 = n) := hn
  have hnl : n < 4294967296 := by rw [← hn]; exact xor_lt ones_lt (by decide)
  clear hn
  go_enter Tryd.func65, Tryd.ntmps65
  go_wp2_with fail
  go_loop [3, 4, 5] (fun r i j => ∃ k : Nat, k ≤ s.size ∧ i = .int .i64 k ∧ r = .int .u32 ((crc n ((L s).take k) : Nat) : Int)) (fun _ i _ => s.size - (intOf i).toNat)
  case atStart => exact ⟨0, by omega, rfl, by rw [show crc n ((L s).take 0) = n from rfl, ← HN.out]; rfl⟩
  case round =>
    obtain ⟨k, hk, rfl, rfl⟩ := hrel
    have hrl := crc_lt hnl ((L s).take k)
    by_cases hlt : k < s.size
    · have HS : Hid (_ = _) := crc_step n (L s) k s[k] (L_get s k hlt)
      generalize crc n ((L s).take k) = r at hrl HS
      have hxor := xor_u32 r s[k].toNat hrl (byte_lt _)
      have hxl : r ^^^ s[k].toNat < 4294967296 := xor_lt hrl (byte_lt _)
      generalize r ^^^ s[k].toNat = x at hxor hxl HS
      have hw : IntKind.u32.wrap (s[k].toNat : Int) = (s[k].toNat : Int) := wraps_u32 _ (Int.natCast_nonneg _) (by have := byte_lt s[k]; omega)
      go_wp2_with fail
      go_loop [3, 5] (fun r j => ∃ m : Nat, m ≤ 8 ∧ j = .int .i64 m ∧ r = .int .u32 ((many m x : Nat) : Int)) (fun _ j => 8 - (intOf j).toNat)
      case atStart => exact ⟨0, by omega, rfl, rfl⟩
      case round =>
        obtain ⟨m, hm, rfl, rfl⟩ := hrel
        by_cases hm8 : m < 8
        · have hyl := many_lt m hxl
          have HO : Hid (_ = _) := many_succ m x
          generalize many m x = y at hyl HO
          have ha := and1 y hyl
          have hd : (y : Int) / 2 = ((y / 2 : Nat) : Int) := by omega
          by_cases ho : y % 2 = 1
          · rw [ho] at ha
            have HP : Hid (_ = _) := one_odd y ho
            have hx2 : bits .xor .u32 ((y / 2 : Nat) : Int) 2197175160 = ((y / 2 ^^^ 2197175160 : Nat) : Int) := xor_u32 (y / 2) 2197175160 (by omega) (by decide)
            generalize y / 2 = z at hd hx2 HP
            clear ho
            go_wp2_with fail
            go_round
            case rel => exact ⟨m + 1, by omega, by go_num, by rw [HO.out, ← HP.out]⟩
            case measure => simp [intOf]; omega
          · have h0 : y % 2 = 0 := by omega
            rw [h0] at ha
            have HP : Hid (_ = _) := one_even y ho
            generalize y / 2 = z at hd HP
            clear ho h0
            go_wp2_with fail
            go_round
            case rel => exact ⟨m + 1, by omega, by go_num, by rw [HO.out, ← HP.out]⟩
            case measure => simp [intOf]; omega
        · obtain rfl : m = 8 := by omega
          go_wp2_with fail
          go_round
          case rel => exact ⟨k + 1, by omega, by go_num, by rw [HS.out]⟩
          case measure => simp [intOf]; omega
    · obtain rfl : k = s.size := by omega
      have hnot2 := not_u32 _ hrl
      have HV : Hid (ones ^^^ crc n ((L s).take s.size) = v) := by
        show _ = _
        rw [← hv.out, ← L_size, List.take_length]
        unfold sumL
        rw [HN.out]
      generalize crc n ((L s).take s.size) = r at hrl hnot2 HV
      rw [HV.out] at hnot2
      go_wp2_with fail
      go_ret
      exact ⟨rfl, rfl⟩

theorem refOf_any (s : ByteArray) (hs : s.size ≤ 140737488351232) (w : World) :
    Calls Tryd.prog 65 #[.string s] w fun e w' => e = .returned (.int .u32 ((sumL 0 (L s) : Nat) : Int)) ∧ w' = w := refOf_core s hs _ rfl w

end Go.Proofs.YtkcoclpbkealgaaDoor
