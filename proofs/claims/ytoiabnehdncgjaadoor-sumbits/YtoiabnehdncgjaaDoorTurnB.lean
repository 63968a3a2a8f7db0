/-
  What SumTurned returns: true, for every text, place and row of bits, where the table of steps lies as its initialiser lays it.
-/
import Derived.Test.YtoiabnehdncgjaaDoorTurnA
namespace Go.Proofs.YtoiabnehdncgjaaDoor
open Go.RowKit

theorem xor_u8 (a b : Nat) (ha : a < 256) (hb : b < 256) : bits .xor .u8 (a : Int) (b : Int) = ((a ^^^ b : Nat) : Int) := by
  have hx : a ^^^ b < 256 := Nat.xor_lt_two_pow (n := 8) ha hb
  have h1 : (BitVec.ofInt 8 (a : Int)).toNat = a := by
    rw [BitVec.ofInt_natCast, BitVec.toNat_ofNat]; exact Nat.mod_eq_of_lt (by omega)
  have h2 : (BitVec.ofInt 8 (b : Int)).toNat = b := by
    rw [BitVec.ofInt_natCast, BitVec.toNat_ofNat]; exact Nat.mod_eq_of_lt (by omega)
  show IntKind.u8.wrap ((BitVec.ofInt 8 (a : Int) ^^^ BitVec.ofInt 8 (b : Int)).toNat : Int) = _
  rw [BitVec.toNat_xor, h1, h2, IntKind.wrap_u8]
  omega
def bit (d : Nat) : UInt8 := UInt8.ofNat (2 ^ d)
theorem bit_nat : ∀ d : Nat, d < 8 → (bit d).toNat = 2 ^ d := by decide
theorem bit_form : ∀ d : Nat, d < 8 → (2 : Int) ^ d % 256 = ((bit d).toNat : Int) := by decide
theorem xor_bit (c : UInt8) (d : Nat) (hd : d < 8) : bits .xor .u8 (c.toNat : Int) (2 ^ d % 256) = ((c ^^^ bit d).toNat : Int) := by
  rw [bit_form d hd, xor_u8 _ _ c.toNat_lt (bit d).toNat_lt, UInt8.toNat_xor]
theorem not_none (x k : Nat) (h : x < 2 ^ k) : x ^^^ (1 <<< k) ≠ 0 := by
  intro e
  have h2 : (x ^^^ (1 <<< k)) ^^^ (1 <<< k) = 0 ^^^ (1 <<< k) := congrArg (· ^^^ (1 <<< k)) e
  rw [Nat.xor_assoc, Nat.xor_self, Nat.xor_zero, Nat.zero_xor, Nat.shiftLeft_eq, Nat.one_mul] at h2
  omega
/-- One more bit turned, as numbers. -/
theorem num_turn (N M : List UInt8) (x K k j d : Nat) (c : UInt8) (hd : d < 8) (hj : M[j]? = some c) (e : 8 * j + d = K + k) (h : num M = num N ^^^ (x <<< K)) : num (M.set j (c ^^^ bit d)) = num N ^^^ ((x ^^^ (1 <<< k)) <<< K) := by
  rw [num_set M j c _ hj, h, bit_nat d hd, Nat.shiftLeft_xor_distrib, Nat.xor_assoc, ← Nat.shiftLeft_add, show 2 ^ d = 1 <<< d by rw [Nat.shiftLeft_eq, Nat.one_mul], ← Nat.shiftLeft_add, show d + 8 * j = k + K by omega]
theorem fin_bool (p q : Nat) (M : Nat) (h : p = q ↔ M = 0) : (((p : Int) == (q : Int)) == !decide (M ≠ 0)) = true := by
  by_cases e : M = 0
  · rw [h.2 e, decide_eq_false (by simp [e])]; simp
  · have : p ≠ q := fun h2 => e (h.1 h2)
    have h3 : ((p : Int) == (q : Int)) = false := by rw [beq_eq_false_iff_ne]; omega
    rw [h3, decide_eq_true e]; rfl

set_option maxHeartbeats 2000000 in
theorem turn_walk (s : ByteArray) (a b : Nat) (ha : a < 65536) (hb : b < 4294967296) (w : World) (hT : Tab w) :
    Calls Tryd.prog 5 #[.string s, .int .u16 (a : Int), .int .u32 (b : Int)] w fun e w' => e = .returned (.bool true) ∧ w.keptBut w' (fun _ => False) := by
  by_cases h0 : s.size = 0
  · have hd : ((s.size : Int) == 0) = true := by rw [h0]; rfl
    go_enter Tryd.func5, Tryd.ntmps5
    go_wp2_with fail
    refine (wakes_any _ hT).mono ?_
    rintro e w1 ⟨rfl, g⟩
    go_wp2_with fail
    go_ret
    exact ⟨rfl, g⟩
  · have hd : ((s.size : Int) == 0) = false := by rw [beq_eq_false_iff_ne]; omega
    by_cases h6 : 600 < s.size
    · have hd2 : decide ((s.size : Int) > 600) = true := decide_eq_true (by omega)
      go_enter Tryd.func5, Tryd.ntmps5
      go_wp2_with fail
      refine (wakes_any _ hT).mono ?_
      rintro e w1 ⟨rfl, g⟩
      go_wp2_with fail
      go_ret
      exact ⟨rfl, g⟩
    · have hd2 : decide ((s.size : Int) > 600) = false := decide_eq_false (by omega)
      obtain ⟨w1, cap, hcv, k1, hlt1, lies1⟩ := conv_text s w
      obtain ⟨K, hK⟩ : ∃ K, a % (8 * s.size) = K := ⟨_, rfl⟩
      have hKl : K < 8 * s.size := by rw [← hK]; exact Nat.mod_lt _ (by omega)
      have hKI : (a : Int) % (8 * (s.size : Int)) = (K : Int) := by rw [← hK]; simp
      clear hK
      go_enter Tryd.func5, Tryd.ntmps5
      go_wp2_with fail
      clear hcv
      go_loopw [9, 10] (fun t i wr => ∃ (k : Nat) (m : List UInt8), k ≤ 32 ∧ K + k ≤ 8 * s.size ∧ i = .int .i64 k ∧ t = .bool (decide (b % 2 ^ k ≠ 0)) ∧ m.length = s.size ∧ num m = num (L s) ^^^ ((b % 2 ^ k) <<< K) ∧ Lies wr w.heap.size m ∧ Kept w wr ∧ w.heap.size < wr.heap.size) (fun _ i _ => 32 - (intOf i).toNat)
      case atStart => exact ⟨0, L s, by omega, by omega, rfl, by rw [Nat.pow_zero, Nat.mod_one]; rfl, L_size s, by rw [Nat.pow_zero, Nat.mod_one, Nat.zero_shiftLeft, Nat.xor_zero], lies1, k1, hlt1⟩
      case round =>
        clear lies1 k1 hlt1
        obtain ⟨k, m, hk, hKk, rfl, rfl, hm, hnum, hl, hkept, hsz⟩ := hrel
        have HN : Hid (_ = _) := hnum
        have HM : Hid (_ = _) := hm
        clear hnum hm
        by_cases hgo : k < 32 ∧ K + k < 8 * s.size
        · obtain ⟨hk32, hk8⟩ := hgo
          have hk32I : (k : Int) < 32 := by omega
          have hk8I : (K : Int) + (k : Int) < 8 * (s.size : Int) := by omega
          obtain ⟨j, hj⟩ : ∃ j, (K + k) / 8 = j := ⟨_, rfl⟩
          obtain ⟨d, hd8⟩ : ∃ d, (K + k) % 8 = d := ⟨_, rfl⟩
          have hjl : j < s.size := by omega
          have hdl : d < 8 := by omega
          have hjI : ((K : Int) + (k : Int)) / 8 = (j : Int) := by omega
          have hdI : ((K : Int) + (k : Int)) % 8 = (d : Int) := by omega
          have hj0 : (0 : Int) ≤ (j : Int) := Int.natCast_nonneg _
          have hj1 : (j : Int) < (s.size : Int) := by omega
          have hd0 : (0 : Int) ≤ (d : Int) := Int.natCast_nonneg _
          have hd1 : (d : Int) < 8 := by omega
          have HJ : Hid (8 * j + d = K + k) := by show _ = _; omega
          clear hj hd8
          have hjm : j < m.length := by rw [HM.out]; exact hjl
          have hcell := hl.1 j m[j] (List.getElem?_eq_getElem hjm)
          have hfz := hl.2 j hjm
          obtain ⟨q, hq⟩ : ∃ q, b / 2 ^ k = q := ⟨_, rfl⟩
          have hqI : (b : Int) / 2 ^ k = (q : Int) := by rw [← hq]; simp
          have hql : q < 4294967296 := by rw [← hq]; exact Nat.lt_of_le_of_lt (Nat.div_le_self _ _) hb
          have HL : Hid (b % 2 ^ (k + 1) = (b % 2 ^ k) ^^^ ((q % 2) <<< k)) := by show _ = _; rw [low_step, hq]
          clear hq
          have HC : Hid (m[j]? = some m[j]) := List.getElem?_eq_getElem hjm
          generalize (m[j] : UInt8) = c at hcell HC
          have hand := and1 q hql
          by_cases ho : q % 2 = 1
          · rw [ho] at hand HL
            have hbit : (bits .and .u32 ((b : Int) / 2 ^ k) 1 == 1) = true := by rw [hqI, hand]; rfl
            have HX : Hid (_ = _) := xor_bit c d hdl
            generalize decide (b % 2 ^ k ≠ 0) = tt
            go_wp2_with fail
            refine ⟨⟨k + 1, m.set j (c ^^^ bit d), by omega, by omega, by go_num, ?_, by rw [List.length_set]; exact HM.out, ?_, ?_, hkept.setCell (Nat.le_refl _) _, by simpa using hsz⟩, by simp [intOf]; omega⟩
            · rw [HL.out, decide_eq_true (not_none _ k (Nat.mod_lt _ (Nat.two_pow_pos k)))]
            · rw [HL.out]; exact num_turn (L s) m _ K k j d c hdl HC.out HJ.out HN.out
            · rw [HX.out]; exact hl.set j hjm _
          · have h02 : q % 2 = 0 := by omega
            rw [h02] at hand HL
            have hbit : (bits .and .u32 ((b : Int) / 2 ^ k) 1 == 1) = false := by rw [hqI, hand]; rfl
            have HL2 : Hid (b % 2 ^ (k + 1) = b % 2 ^ k) := by show _ = _; rw [HL.out, Nat.zero_shiftLeft, Nat.xor_zero]
            obtain ⟨tt, ht⟩ : ∃ tt, decide (b % 2 ^ k ≠ 0) = tt := ⟨_, rfl⟩
            rw [ht]
            have HT : Hid (decide (b % 2 ^ k ≠ 0) = tt) := ht
            clear ht
            go_wp2_with fail
            exact ⟨⟨k + 1, m, by omega, by omega, by go_num, by rw [HL2.out, HT.out], HM.out, by rw [HL2.out]; exact HN.out, hl, hkept, hsz⟩, by simp [intOf]; omega⟩
        · have hcv := conv_back (cap := cap) HM.out hl
          have hTr := hT.kept hkept
          have hms : (bs m).size ≤ 140737488351232 := by rw [bs_size, HM.out]; omega
          have hss : s.size ≤ 140737488351232 := by omega
          have hfin := fin_bool _ _ _ (sum_turned 0 K (b % 2 ^ k) (L s) m (by rw [HM.out, L_size]) (by rw [L_size]; omega) (Nat.lt_of_le_of_lt (Nat.mod_le _ _) hb) HN.out)
          generalize decide (b % 2 ^ k ≠ 0) = tt at hfin ⊢
          have HP : Hid (_ = _) := L_bs m
          by_cases hk32 : k < 32
          · have hk32I : (k : Int) < 32 := by omega
            have hk8I : ¬ ((K : Int) + (k : Int) < 8 * (s.size : Int)) := by omega
            go_wp2_with fail
            refine (of_any _ hms _ hTr).mono ?_
            rintro e w2 ⟨rfl, rfl⟩
            rw [HP.out]
            go_wp2_with fail
            refine (of_any _ hss _ hTr).mono ?_
            rintro e w2 ⟨rfl, rfl⟩
            go_wp2_with fail
            refine (wakes_any _ hTr).mono ?_
            rintro e w2 ⟨rfl, g2⟩
            go_wp2_with fail
            go_ret
            exact ⟨rfl, hkept.trans g2⟩
          · have hk32I : ¬ (k : Int) < 32 := by omega
            go_wp2_with fail
            refine (of_any _ hms _ hTr).mono ?_
            rintro e w2 ⟨rfl, rfl⟩
            rw [HP.out]
            go_wp2_with fail
            refine (of_any _ hss _ hTr).mono ?_
            rintro e w2 ⟨rfl, rfl⟩
            go_wp2_with fail
            refine (wakes_any _ hTr).mono ?_
            rintro e w2 ⟨rfl, g2⟩
            go_wp2_with fail
            go_ret
            exact ⟨rfl, hkept.trans g2⟩

end Go.Proofs.YtoiabnehdncgjaaDoor
