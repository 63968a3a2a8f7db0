/-
  What DigestPads returns: true, for every number, where the tables lie as their initialisers lay them.
-/
import Derived.Test.YtemhgehelblcoaaDoorWakes
namespace Go.Proofs.YtemhgehelblcoaaDoor
open Go.RowKit

theorem at_list {s : ByteArray} {l : List UInt8} (h : s = bs l) {k : Nat} (hk : k < s.size) {c : UInt8} (hc : l[k]? = some c) : s[k] = c := by
  subst h
  have h2 := L_get (bs l) k hk
  rw [L_bs, hc] at h2
  exact (Option.some.inj h2).symm
theorem padL_zero (n : Nat) : (padL n)[0]? = some 128 := rfl
theorem padL_none (n k : Nat) (h1 : 1 ≤ k) (h2 : k + 8 < padS n) : (padL n)[k]? = some 0 := by
  obtain ⟨j, rfl⟩ : ∃ j, k = j + 1 := ⟨k - 1, by omega⟩
  unfold padL
  rw [List.getElem?_cons_succ, List.getElem?_append_left (by rw [List.length_replicate]; omega), List.getElem?_replicate, if_pos (by omega)]
theorem padL_last (n j : Nat) (h : j < 8) : (padL n)[padS n - 8 + j]? = (be8 (8 * n % 18446744073709551616))[j]? := by
  have h9 := padS_ge n
  unfold padL
  rw [show padS n - 8 + j = (padS n - 9 + j) + 1 by omega, List.getElem?_cons_succ, List.getElem?_append_right (by rw [List.length_replicate]; omega), List.length_replicate, show padS n - 9 + j - (padS n - 9) = j by omega]
/-- The number of the first j of a number's eight bytes. -/
def topN (V j : Nat) : Nat := V / 2 ^ (8 * (8 - j))
theorem be8_at (V j : Nat) (h : j < 8) : (be8 V)[j]? = some (UInt8.ofNat (V / 2 ^ (8 * (7 - j)) % 256)) := by
  have h8 : j = 0 ∨ j = 1 ∨ j = 2 ∨ j = 3 ∨ j = 4 ∨ j = 5 ∨ j = 6 ∨ j = 7 := by omega
  rcases h8 with rfl | rfl | rfl | rfl | rfl | rfl | rfl | rfl
  all_goals simp [be8]
theorem topN_step (V j : Nat) (h : j < 8) : topN V (j + 1) = topN V j * 256 + V / 2 ^ (8 * (7 - j)) % 256 := by
  have h8 : j = 0 ∨ j = 1 ∨ j = 2 ∨ j = 3 ∨ j = 4 ∨ j = 5 ∨ j = 6 ∨ j = 7 := by omega
  unfold topN
  rcases h8 with rfl | rfl | rfl | rfl | rfl | rfl | rfl | rfl
  all_goals simp only [Nat.reduceSub, Nat.reduceAdd, Nat.reduceMul, Nat.reducePow]; omega
theorem topN_le (V j : Nat) : topN V j ≤ V := Nat.div_le_self _ _
theorem wraps_u64 (n : Int) (h₀ : 0 ≤ n) (h₁ : n < 2 ^ 64) : IntKind.u64.wrap n = n := by rw [IntKind.wrap_u64]; omega
theorem or_byte64 (t c : Nat) (hc : c < 256) (ht : t < 72057594037927936) : bits .or .u64 ((t : Int) * 256) (c : Int) = ((t * 256 + c : Nat) : Int) := by
  rw [bits_join .u64 64 (by decide) wraps_u64 8 _ _ (by omega) (by omega) (by omega) (by omega) (by omega) (by omega)]
  omega

set_option maxHeartbeats 2000000 in
theorem pads_walk (n : Nat) (hn : n < 4294967296) (w : World) (hT : Tab w) :
    Calls Tryd.prog 5 #[.int .u32 (n : Int)] w fun e w' => e = .returned (.bool true) ∧ w.keptBut w' (fun _ => False) := by
  obtain ⟨pp, hpp⟩ : ∃ pp, pp = bs (padL n) := ⟨_, rfl⟩
  obtain ⟨S, hS⟩ : ∃ S, padS n = S := ⟨_, rfl⟩
  have hsz : pp.size = S := by rw [hpp, bs_size, padL_length, hS]
  have hS9 := padS_ge n
  have hS72 := padS_le n
  have hSm := padS_mod n
  rw [hS] at hS9 hS72 hSm
  have hcall := pad_any n (by omega)
  rw [← hpp] at hcall
  have HC : Hid (∀ w : World, Calls Tryd.prog 12 #[.int .i64 (n : Int)] w fun e w' => e = .returned (.string pp) ∧ Kept w w') := hcall
  have h0 : pp[0] = 128 := at_list hpp (by omega) (padL_zero n)
  have HZ : Hid (∀ k, 1 ≤ k → k + 8 < S → ∀ h : k < pp.size, pp[k] = 0) := fun k h1 h2 h => at_list hpp h (padL_none n k h1 (by omega))
  have HB : Hid (∀ j, j < 8 → ∀ k, S - 8 + j = k → ∀ h : k < pp.size, pp[k].toNat = 8 * n / 2 ^ (8 * (7 - j)) % 256) := fun j hj k hk h => by
    subst hk
    have e := at_list hpp h (by rw [← hS, padL_last n j hj, Nat.mod_eq_of_lt (by omega), be8_at _ j hj])
    rw [e, byte_of _ (by omega)]
  have hm1 : ((n : Int) + (S : Int)) % 64 = 0 := by omega
  have hd1 : decide ((S : Int) < 9) = false := decide_eq_false (by omega)
  have hd2 : decide ((S : Int) > 72) = false := decide_eq_false (by omega)
  clear hcall hpp hS hSm
  go_enter Tryd.func5, Tryd.ntmps5
  go_wp2_with fail
  refine (HC.out _).mono ?_
  rintro _ w1 ⟨rfl, k1⟩
  clear HC
  go_wp2_with fail
  go_loop [4] (fun i => ∃ k : Nat, 1 ≤ k ∧ k + 8 ≤ S ∧ i = .int .i64 (k : Int)) (fun i => S - (intOf i).toNat)
  case atStart => exact ⟨1, by omega, by omega, rfl⟩
  case round =>
    obtain ⟨k, hk1, hk, rfl⟩ := hrel
    by_cases hlt : k + 8 < S
    · have hks : k < pp.size := by omega
      have hz := HZ.out k hk1 hlt hks
      have hd3 : decide ((k : Int) < (S : Int) - 8) = true := decide_eq_true (by omega)
      go_wp2_with fail
      exact ⟨⟨k + 1, by omega, by omega, by simp⟩, by simp [intOf]; omega⟩
    · have hd3 : decide ((k : Int) < (S : Int) - 8) = false := decide_eq_false (by omega)
      clear HZ
      go_wp2_with fail
      go_loop [5, 6] (fun v i => ∃ j q : Nat, j ≤ 8 ∧ S - 8 + j = q ∧ i = .int .i64 (q : Int) ∧ v = .int .u64 ((topN (8 * n) j : Nat) : Int)) (fun _ i => S - (intOf i).toNat)
      case atStart =>
        refine ⟨0, S - 8, by omega, rfl, ?_, ?_⟩
        · rw [show ((S - 8 : Nat) : Int) = (S : Int) - 8 by omega]
        · rw [show topN (8 * n) 0 = 0 from Nat.div_eq_of_lt (by show 8 * n < 2 ^ 64; omega)]; rfl
      case round =>
        obtain ⟨j, q, hj, hq, rfl, rfl⟩ := hrel
        by_cases hlt2 : j < 8
        · have hqs : q < pp.size := by omega
          obtain ⟨b, hb⟩ : ∃ b, 8 * n / 2 ^ (8 * (7 - j)) % 256 = b := ⟨_, rfl⟩
          have hbv := HB.out j hlt2 q hq hqs
          rw [hb] at hbv
          have hb256 : b < 256 := by omega
          have HT : Hid (topN (8 * n) (j + 1) = topN (8 * n) j * 256 + b) := by show _ = _; rw [topN_step _ _ hlt2, hb]
          have htl := topN_le (8 * n) j
          generalize topN (8 * n) j = t at htl HT
          have hor := or_byte64 t b hb256 (by omega)
          have hd4 : decide ((q : Int) < (S : Int)) = true := decide_eq_true (by omega)
          clear hb HB
          go_wp2_with fail
          refine ⟨⟨j + 1, q + 1, by omega, by omega, by simp, ?_⟩, by simp [intOf]; omega⟩
          rw [HT.out]
          simp
        · obtain rfl : j = 8 := by omega
          have ht : topN (8 * n) 8 = 8 * n := by unfold topN; simp
          have hpn := pad_neg (-(n : Int) - 1) (by omega)
          have hp0 := pad_any 0 (by decide)
          generalize bs (padL 0) = p0 at hpn hp0
          have HPN : Hid (∀ w : World, Calls Tryd.prog 12 #[.int .i64 (-(n : Int) - 1)] w fun e w' => e = .returned (.string p0) ∧ Kept w w') := hpn
          have hd4 : decide ((q : Int) < (S : Int)) = false := decide_eq_false (by omega)
          rw [ht]
          have hti : ((8 * n : Nat) : Int) = 8 * (n : Int) := by omega
          rw [hti]
          clear hpn HB ht hti
          go_wp2_with fail
          refine (HPN.out _).mono ?_
          rintro _ w2 ⟨rfl, k2⟩
          go_wp2_with fail
          refine (hp0 _).mono ?_
          rintro _ w3 ⟨rfl, k3⟩
          go_wp2_with fail
          refine (wakes_any _ (hT.kept (k1.trans (k2.trans k3)))).mono ?_
          rintro _ w4 ⟨rfl, k4⟩
          go_wp2_with fail
          go_ret
          exact ⟨rfl, k1.trans (k2.trans (k3.trans k4))⟩

end Go.Proofs.YtemhgehelblcoaaDoor
