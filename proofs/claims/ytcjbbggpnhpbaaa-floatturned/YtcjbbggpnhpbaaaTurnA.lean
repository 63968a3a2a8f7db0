/-
  FloatTurned's walk: whatever word, the call returns true.
-/
import Derived.Test.YtcjbbggpnhpbaaaWakes
import Derived.RegionTactic
import Derived.ChangeAlike
namespace Go.Proofs.Ytcjbbggpnhpbaaa
open Go.RowKit
open Plain

theorem text_same' (x y : Nat) (hx : x < 18446744073709551616) (hy : y < 18446744073709551616) : ((keyS (keyN x)).toList == (keyS (keyN y)).toList) = sameB x y := key_same _ _ (keyN_lt x hx) (keyN_lt y hy)
theorem not_u8 (c : Nat) (h : c < 256) : bits .xor .u8 IntKind.u8.max (c : Int) = ((255 - c : Nat) : Int) := by
  show IntKind.u8.wrap ((BitVec.ofInt 8 IntKind.u8.max ^^^ BitVec.ofInt 8 (c : Int)).toNat : Int) = _
  have h1 : BitVec.ofInt 8 IntKind.u8.max = BitVec.allOnes 8 := by decide
  rw [h1, BitVec.allOnes_xor, BitVec.toNat_not, ofInt_u8 c h, IntKind.wrap_u8']
  omega

theorem byte_turned (n k : Nat) (h : n < 18446744073709551616) (hk : k < 8) : ((keyS n)[k]'hk).toNat = 255 - ((keyS (18446744073709551615 - n))[k]'hk).toNat := by
  have hk' : k = 0 ∨ k = 1 ∨ k = 2 ∨ k = 3 ∨ k = 4 ∨ k = 5 ∨ k = 6 ∨ k = 7 := by omega
  rcases hk' with rfl | rfl | rfl | rfl | rfl | rfl | rfl | rfl
  · show (UInt8.ofNat (n / 72057594037927936 % 256)).toNat = 255 - (UInt8.ofNat ((18446744073709551615 - n) / 72057594037927936 % 256)).toNat
    rw [byte_of, byte_of]; omega
  · show (UInt8.ofNat (n / 281474976710656 % 256)).toNat = 255 - (UInt8.ofNat ((18446744073709551615 - n) / 281474976710656 % 256)).toNat
    rw [byte_of, byte_of]; omega
  · show (UInt8.ofNat (n / 1099511627776 % 256)).toNat = 255 - (UInt8.ofNat ((18446744073709551615 - n) / 1099511627776 % 256)).toNat
    rw [byte_of, byte_of]; omega
  · show (UInt8.ofNat (n / 4294967296 % 256)).toNat = 255 - (UInt8.ofNat ((18446744073709551615 - n) / 4294967296 % 256)).toNat
    rw [byte_of, byte_of]; omega
  · show (UInt8.ofNat (n / 16777216 % 256)).toNat = 255 - (UInt8.ofNat ((18446744073709551615 - n) / 16777216 % 256)).toNat
    rw [byte_of, byte_of]; omega
  · show (UInt8.ofNat (n / 65536 % 256)).toNat = 255 - (UInt8.ofNat ((18446744073709551615 - n) / 65536 % 256)).toNat
    rw [byte_of, byte_of]; omega
  · show (UInt8.ofNat (n / 256 % 256)).toNat = 255 - (UInt8.ofNat ((18446744073709551615 - n) / 256 % 256)).toNat
    rw [byte_of, byte_of]; omega
  · show (UInt8.ofNat (n % 256)).toNat = 255 - (UInt8.ofNat ((18446744073709551615 - n) % 256)).toNat
    rw [byte_of, byte_of]; omega

theorem nan_neg (x : Nat) (hx : x < 18446744073709551616) : nanB (Op.negFloat .f64 x) = nanB x := by
  rw [neg_word x hx]
  unfold nanB
  congr 1
  split <;> (rw [eq_iff_iff]; omega)
theorem sv_neg (x : Nat) (hx : x < 18446744073709551616) : sv (Op.negFloat .f64 x) = - sv x := by
  rw [neg_word x hx]
  unfold sv
  split <;> split <;> split <;> omega
theorem neg_lt (x : Nat) (hx : x < 18446744073709551616) : Op.negFloat .f64 x < 18446744073709551616 := by
  rw [neg_word x hx]; split <;> omega

/-- A number that is nought or NaN: its key is that of the one with the other sign. -/
theorem neg_same (x : Nat) (hx : x < 18446744073709551616) (h : nanB x = true ∨ eqB x 0 = true) : sameB x (Op.negFloat .f64 x) = true := by
  unfold sameB
  refine decide_eq_true ?_
  rcases h with h | h
  · rw [key_nan x h, key_nan _ (by rw [nan_neg x hx]; exact h)]
  · rw [eqB_zero x hx] at h
    rcases (by simpa using h : x = 0 ∨ x = 9223372036854775808) with rfl | rfl
    · decide
    · decide
theorem sv_zero (x : Nat) (hn : nanB x = false) (hz : eqB x 0 = false) : sv x ≠ 0 := by
  intro h
  unfold eqB at hz
  rw [hn] at hz
  have : sv 0 = 0 := by decide
  rw [this, h] at hz
  exact absurd hz (by decide)
theorem neg_key (x : Nat) (hx : x < 18446744073709551616) (hn : nanB x = false) (hz : eqB x 0 = false) : keyN (Op.negFloat .f64 x) = 18446744073709551615 - keyN x := by
  have h0 := sv_zero x hn hz
  have e1 := key_of x hx hn
  have e2 := key_of _ (neg_lt x hx) (by rw [nan_neg x hx]; exact hn)
  have hb := sv_bd x hn
  rw [sv_neg x hx] at e2
  split at e1 <;> split at e2 <;> omega
theorem neg_less (x : Nat) (hx : x < 18446744073709551616) (hn : nanB x = false) (hz : eqB x 0 = false) : lessB x (Op.negFloat .f64 x) = ltB x 0 := by
  have h0 := sv_zero x hn hz
  have hm : nanB (Op.negFloat .f64 x) = false := by rw [nan_neg x hx]; exact hn
  rw [less_some x _ hx (neg_lt x hx) hn hm]
  unfold ltB
  rw [hn, hm, sv_neg x hx]
  have h1 : nanB 0 = false := by decide
  have h2 : sv 0 = 0 := by decide
  rw [h1, h2]
  simp only [Bool.not_false, Bool.true_and, decide_eq_decide]
  omega

set_option maxHeartbeats 2000000 in
theorem turned_walk (x : Nat) (hx : x < 18446744073709551616) (w : World) :
    Calls Try.prog 6 #[.int .u64 (x : Int)] w fun e w' => e = .returned (.bool true) ∧ Grown w w' := by
  have hf := call_from
  have hsz := keyS_size
  have hyl := neg_lt x hx
  have hneg := neg_run x
  have hS := text_same' x (Op.negFloat .f64 x) hx hyl
  cases hn : nanB x
  · have hN : (FloatKind.f64.format.order x x != some Ordering.eq) = false := by rw [f64_ne, eqB_self, hn]; rfl
    cases hz : eqB x 0
    · have hZ : (FloatKind.f64.format.order x 0 == some Ordering.eq) = false := by rw [f64_eq, hz]
      have hk := neg_key x hx hn hz
      have hl := neg_less x hx hn hz
      have hlt : (FloatKind.f64.format.order x 0 == some Ordering.lt) = ltB x 0 := f64_lt x 0
      have hkl := keyN_lt x hx
      have HB : Hid (∀ (k : Nat) (h : k < 8), ((keyS (keyN x))[k]'h).toNat = 255 - ((keyS (keyN (Op.negFloat .f64 x)))[k]'h).toNat) := by
        show ∀ (k : Nat) (h : k < 8), _
        rw [hk]; exact fun k h => byte_turned _ k hkl h
      clear hS hk hn hz
      generalize Op.negFloat .f64 x = y at *
      generalize ltB x 0 = B at *
      go_enter Try.func6, Try.ntmps6
      go_wp2_with fail
      refine (key_any _ hx _).mono ?_
      rintro e w1 ⟨rfl, g1⟩
      go_wp2_with fail
      refine (key_any _ hyl _).mono ?_
      rintro e w2 ⟨rfl, g2⟩
      go_wp2_with fail
      go_loopw [6] (fun i w' => ∃ k : Nat, k ≤ 8 ∧ i = .int .i64 k ∧ Grown w2 w') (fun i _ => 8 - (intOf i).toNat)
      case atStart => exact ⟨0, by omega, rfl, Grown.refl _⟩
      case round =>
        obtain ⟨k, hk, rfl, g3⟩ := hrel
        by_cases hlt8 : k < 8
        · have hb := HB.out k hlt8
          have hc : ((keyS (keyN y))[k]'hlt8).toNat < 256 := UInt8.toNat_lt _
          have hm : (((keyS (keyN x))[k]'hlt8).toNat : Int) = bits .xor .u8 IntKind.u8.max (((keyS (keyN y))[k]'hlt8).toNat : Int) := by rw [not_u8 _ hc, hb]
          have hne : ((((keyS (keyN x))[k]'hlt8).toNat : Int) != bits .xor .u8 (if IntKind.u8.signed = true then -1 else IntKind.u8.max) (((keyS (keyN y))[k]'hlt8).toNat : Int)) = false := by
            rw [if_neg (by decide), ← hm]; simp
          have hne2 : ((((keyS (keyN x))[k]'hlt8).toNat : Int) != bits .xor .u8 IntKind.u8.max (((keyS (keyN y))[k]'hlt8).toNat : Int)) = false := by
            rw [← hm]; simp
          clear hb hc hm
          go_wp2_with fail
          go_region
          go_wp2_with fail
          exact ⟨⟨k + 1, by omega, by go_num, Grown.drew g3⟩, by simp [intOf]; omega⟩
        · obtain rfl : k = 8 := by omega
          clear hk hlt8 HB
          cases B
          all_goals
            go_wp2_with fail
            refine (less_any _ _ hx hyl _).mono ?_
            rintro e w' ⟨rfl, rfl⟩
            go_wp2_with fail
            refine (wakes_any _).mono ?_
            rintro e w4 ⟨rfl, g4⟩
            go_wp2_with fail
            go_ret
            exact ⟨rfl, Grown.trans g1 (Grown.trans g2 (Grown.trans g3 g4))⟩
    · have hZ : (FloatKind.f64.format.order x 0 == some Ordering.eq) = true := by rw [f64_eq, hz]
      rw [neg_same x hx (.inr hz)] at hS
      clear hn hz
      generalize Op.negFloat .f64 x = y at *
      go_enter Try.func6, Try.ntmps6
      go_wp2_with fail
      refine (key_any _ hx _).mono ?_
      rintro e w1 ⟨rfl, g1⟩
      go_wp2_with fail
      refine (key_any _ hyl _).mono ?_
      rintro e w2 ⟨rfl, g2⟩
      go_wp2_with fail
      refine (wakes_any _).mono ?_
      rintro e w4 ⟨rfl, g4⟩
      go_wp2_with fail
      go_ret
      exact ⟨rfl, Grown.trans g1 (Grown.trans g2 g4)⟩
  · have hN : (FloatKind.f64.format.order x x != some Ordering.eq) = true := by rw [f64_ne, eqB_self, hn]; rfl
    rw [neg_same x hx (.inl hn)] at hS
    clear hn
    generalize Op.negFloat .f64 x = y at *
    go_enter Try.func6, Try.ntmps6
    go_wp2_with fail
    refine (key_any _ hx _).mono ?_
    rintro e w1 ⟨rfl, g1⟩
    go_wp2_with fail
    refine (key_any _ hyl _).mono ?_
    rintro e w2 ⟨rfl, g2⟩
    go_wp2_with fail
    refine (wakes_any _).mono ?_
    rintro e w4 ⟨rfl, g4⟩
    go_wp2_with fail
    go_ret
    exact ⟨rfl, Grown.trans g1 (Grown.trans g2 g4)⟩

end Go.Proofs.Ytcjbbggpnhpbaaa
