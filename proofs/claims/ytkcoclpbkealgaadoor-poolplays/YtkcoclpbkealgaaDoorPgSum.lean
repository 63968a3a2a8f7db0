/-
  What Add and Of return: the sum of a text behind another's sum, for every sum and every text.
-/
import Derived.Test.YtkcoclpbkealgaaDoorPgLeaf
namespace Go.Proofs.YtkcoclpbkealgaaDoor
open Go.RowKit
set_option maxRecDepth 20000

theorem many8 (r : Nat) : many 4 (many 4 r) = many 8 r := (many_add 4 4 r).symm

set_option maxHeartbeats 1000000 in
theorem add_core (c : Nat) (hc : c < 4294967296) (s : ByteArray) (hs : s.size ≤ 140737488351232) (v : Nat) (hv : Hid (sumL c (L s) = v)) (w : World) (hT : Tab w) :
    Calls Tryd.prog 93 #[.int .u32 (c : Int), .string s] w fun e w' => e = .returned (.int .u32 (v : Int)) ∧ w' = w := by
  obtain ⟨n, hn⟩ : ∃ n, ones ^^^ c = n := ⟨_, rfl⟩
  have hnot := not_u32 c hc
  rw [hn] at hnot
  have HN : Hid (ones ^^^ c = n) := hn
  have hnl : n < 4294967296 := by rw [← hn]; exact xor_lt ones_lt hc
  clear hn
  go_enter Tryd.func93, Tryd.ntmps93
  go_wp2_with fail
  go_loop [5, 11] (fun r i => ∃ k : Nat, k ≤ s.size ∧ i = .int .i64 k ∧ r = .int .u32 ((crc n ((L s).take k) : Nat) : Int)) (fun _ i => s.size - (intOf i).toNat)
  case atStart => exact ⟨0, by omega, rfl, rfl⟩
  case round =>
    obtain ⟨k, hk, rfl, rfl⟩ := hrel
    have hrl := crc_lt hnl ((L s).take k)
    by_cases hlt : k < s.size
    · have HS : Hid (_ = _) := crc_step n (L s) k s[k] (L_get s k hlt)
      generalize crc n ((L s).take k) = r at hrl HS
      have hxor := xor_u32 r s[k].toNat hrl (byte_lt _)
      have hxl : r ^^^ s[k].toNat < 4294967296 := xor_lt hrl (byte_lt _)
      generalize r ^^^ s[k].toNat = x at hxor hxl HS
      have hw : IntKind.u32.wrap (s[k].toNat : Int) = (s[k].toNat : Int) := wraps_u32 _ (Int.natCast_nonneg _) (by have := byte_lt s[k]; omega)
      go_wp2_with fail
      refine (stepHalf_any x hxl _ hT).mono ?_
      rintro e w1 ⟨rfl, rfl⟩
      go_wp2_with fail
      refine (stepHalf_any (many 4 x) (many_lt 4 hxl) _ hT).mono ?_
      rintro e w1 ⟨rfl, rfl⟩
      go_wp2_with fail
      go_round
      case rel => exact ⟨k + 1, by omega, by go_num, by rw [HS.out, many8]⟩
      case measure => simp [intOf]; omega
    · obtain rfl : k = s.size := by omega
      have hnot2 := not_u32 _ hrl
      have HV : Hid (ones ^^^ crc n ((L s).take s.size) = v) := by
        show _ = _
        rw [← hv.out, ← L_size, List.take_length]
        unfold sumL
        rw [HN.out]
      generalize crc n ((L s).take s.size) = r at hrl hnot2 HV
      rw [HV.out] at hnot2
      go_wp2_with fail
      go_ret
      exact ⟨rfl, rfl⟩

theorem add_any (c : Nat) (hc : c < 4294967296) (s : ByteArray) (hs : s.size ≤ 140737488351232) (w : World) (hT : Tab w) :
    Calls Tryd.prog 93 #[.int .u32 (c : Int), .string s] w fun e w' => e = .returned (.int .u32 ((sumL c (L s) : Nat) : Int)) ∧ w' = w := add_core c hc s hs _ rfl w hT

theorem of_any (s : ByteArray) (hs : s.size ≤ 140737488351232) (w : World) (hT : Tab w) :
    Calls Tryd.prog 79 #[.string s] w fun e w' => e = .returned (.int .u32 ((sumL 0 (L s) : Nat) : Int)) ∧ w' = w := by
  go_enter Tryd.func79, Tryd.ntmps79
  go_wp2_with fail
  refine (add_any 0 (by decide) s hs _ hT).mono ?_
  rintro e w1 ⟨rfl, rfl⟩
  go_wp2_with fail
  go_ret
  exact ⟨rfl, rfl⟩

end Go.Proofs.YtkcoclpbkealgaaDoor
