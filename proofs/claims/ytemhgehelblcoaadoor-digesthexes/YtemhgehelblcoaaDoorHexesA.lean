/-
  What DigestHexes returns: true, for every text, where the tables lie as their initialisers lay them.
-/
import Derived.Test.YtemhgehelblcoaaDoorWakes
namespace Go.Proofs.YtemhgehelblcoaaDoor
open Go.RowKit

theorem dig_small (p : Nat) (h : p < 10) : (dig p).toNat = 48 + p := by unfold dig; rw [if_pos h, byte_of _ (by omega)]
theorem dig_great (p : Nat) (h : ¬ p < 10) (h1 : p < 16) : (dig p).toNat = 87 + p := by unfold dig; rw [if_neg h, byte_of _ (by omega)]
/-- The digit at k: of which half of which byte. -/
theorem hex_at (s : ByteArray) (k m : Nat) (hk : k / 2 = m) (hm : m < s.size) (hx : ByteArray) (hh : hx = bs (hexL (L s))) (hl : k < hx.size) :
    hx[k] = dig (if k % 2 = 0 then s[m].toNat / 16 else s[m].toNat % 16) := by
  subst hh
  have h := hexL_even (L s) m s[m] (L_get s m hm)
  have h2 := L_get (bs (hexL (L s))) k hl
  rw [L_bs] at h2
  by_cases e : k % 2 = 0
  · rw [if_pos e]
    rw [show 2 * m = k by omega, h2] at h
    exact Option.some.inj h.1
  · rw [if_neg e]
    rw [show 2 * m + 1 = k by omega, h2] at h
    exact Option.some.inj h.2
theorem and_half (p : Nat) (h : p < 16) : bits .and .u8 (p : Int) 15 = (p : Int) := by
  have h1 := lo_form (UInt8.ofNat p)
  rw [byte_of p (by omega)] at h1
  rw [h1]
  omega

set_option maxHeartbeats 2000000 in
theorem hexes_small (s : ByteArray) (hs : s.size ≤ 500) (w : World) (hT : Tab w) :
    Calls Tryd.prog 6 #[.string s] w fun e w' => e = .returned (.bool true) ∧ w.keptBut w' (fun _ => False) := by
  obtain ⟨hx, hh⟩ : ∃ hx, hx = bs (hexL (L s)) := ⟨_, rfl⟩
  have hcall := hex_any s (by omega)
  rw [← hh] at hcall
  have hxs : hx.size = 2 * s.size := by rw [hh, bs_size, hexL_length, L_size]
  have HC : Hid (∀ w : World, Calls Tryd.prog 10 #[.string s] w fun e w' => e = .returned (.string hx) ∧ Kept w w') := hcall
  have HH : Hid (hx = bs (hexL (L s))) := hh
  clear hcall hh
  go_enter Tryd.func6, Tryd.ntmps6
  go_wp2_with fail
  refine (HC.out _).mono ?_
  rintro _ w1 ⟨rfl, k1⟩
  clear HC
  go_wp2_with fail
  go_loop [4] (fun i => ∃ k : Nat, k ≤ 2 * s.size ∧ i = .int .i64 (k : Int)) (fun i => 2 * s.size - (intOf i).toNat)
  case atStart => exact ⟨0, by omega, rfl⟩
  case round =>
    obtain ⟨k, hk, rfl⟩ := hrel
    by_cases hlt : k < 2 * s.size
    · obtain ⟨m, hm⟩ : ∃ m, k / 2 = m := ⟨_, rfl⟩
      have hms : m < s.size := by omega
      have hmI : (k : Int) / 2 = (m : Int) := by omega
      have hkx : k < hx.size := by omega
      have hat := hex_at s k m hm hms hx HH.out hkx
      obtain ⟨c, hc⟩ : ∃ c, hx[k] = c := ⟨_, rfl⟩
      obtain ⟨b, hb⟩ : ∃ b, s[m] = b := ⟨_, rfl⟩
      rw [hc, hb] at hat
      have hbl := b.toNat_lt
      have hlo := lo_form b
      obtain ⟨p, hp⟩ : ∃ p, (if k % 2 = 0 then b.toNat / 16 else b.toNat % 16) = p := ⟨_, rfl⟩
      rw [hp] at hat
      have hp16 : p < 16 := by split at hp <;> omega
      obtain ⟨y, hy⟩ : ∃ y, c.toNat = y := ⟨_, rfl⟩
      have hpar : (k % 2 = 0 ∧ (k : Int) % 2 = 0 ∧ (b.toNat : Int) / 16 = (p : Int) ∧ bits .and .u8 (p : Int) 15 = (p : Int)) ∨ (k % 2 = 1 ∧ (k : Int) % 2 = 1 ∧ (b.toNat : Int) = (b.toNat : Int) ∧ bits .and .u8 (b.toNat : Int) 15 = (p : Int)) := by
        split at hp
        · exact .inl ⟨by omega, by omega, by omega, and_half p hp16⟩
        · exact .inr ⟨by omega, by omega, rfl, by rw [hlo]; omega⟩
      have hdg : (decide ((48 : Int) ≤ (y : Int)) = true ∧ decide ((y : Int) ≤ 57) = true ∧ (y : Int) - 48 = (p : Int) ∧ y ≤ 57 ∧ 48 ≤ y) ∨ (decide ((48 : Int) ≤ (y : Int)) = true ∧ decide ((y : Int) ≤ 57) = false ∧ (y : Int) - 97 + 10 = (p : Int) ∧ 97 ≤ y ∧ y ≤ 102) := by
        by_cases h10 : p < 10
        · have h1 := dig_small p h10
          rw [← hat, hy] at h1
          exact .inl ⟨decide_eq_true (by omega), decide_eq_true (by omega), by omega, by omega, by omega⟩
        · have h1 := dig_great p h10 hp16
          rw [← hat, hy] at h1
          exact .inr ⟨decide_eq_true (by omega), decide_eq_false (by omega), by omega, by omega, by omega⟩
      clear hat hp hlo hm HH
      rcases hpar with ⟨_, q1, q2, q3⟩ | ⟨_, q1, q2, q3⟩ <;> rcases hdg with ⟨t1, t2, t3, t4, t5⟩ | ⟨t1, t2, t3, t4, t5⟩
      all_goals
        go_wp2_with fail
        exact ⟨⟨k + 1, by omega, by simp⟩, by simp [intOf]; omega⟩
    · obtain rfl : k = 2 * s.size := by omega
      go_wp2_with fail
      refine (wakes_any _ (hT.kept k1)).mono ?_
      rintro _ w2 ⟨rfl, k2⟩
      go_wp2_with fail
      go_ret
      exact ⟨rfl, k1.trans k2⟩

theorem hexes_walk (s : ByteArray) (w : World) (hT : Tab w) :
    Calls Tryd.prog 6 #[.string s] w fun e w' => e = .returned (.bool true) ∧ w.keptBut w' (fun _ => False) := by
  by_cases hs : s.size ≤ 500
  · exact hexes_small s hs w hT
  · go_enter Tryd.func6, Tryd.ntmps6
    go_wp2_with fail
    refine (wakes_any _ hT).mono ?_
    rintro _ w2 ⟨rfl, k2⟩
    go_wp2_with fail
    go_ret
    exact ⟨rfl, k2⟩

end Go.Proofs.YtemhgehelblcoaaDoor
