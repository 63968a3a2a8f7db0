/-
  What torn tells: the sectors of the next page where the bits are set.
-/
import Derived.Test.YtkcoclpbkealgaaDoorPage
namespace Go.Proofs.YtkcoclpbkealgaaDoor
open Go.RowKit
set_option maxRecDepth 20000

theorem wraps_u8 (n : Int) (h₀ : 0 ≤ n) (h₁ : n < 2 ^ 8) : IntKind.u8.wrap n = n := by rw [IntKind.wrap_u8]; omega
theorem low_bit (n : Nat) (h : n < 256) : bits .and .u8 (n : Int) 1 = ((n % 2 : Nat) : Int) := by
  have h1 := bits_mask .u8 8 (by decide) wraps_u8 1 (by decide) (n : Int) (Int.natCast_nonneg _) (by omega)
  simp at h1
  omega
/-- The test of bit k, as the walk meets it. -/
theorem bit_test (c k : Nat) (hc : c < 256) : bits .and .u8 (((c / 2 ^ k : Nat)) : Int) 1 = if bitOf c k then 1 else 0 := by
  rw [low_bit _ (Nat.lt_of_le_of_lt (Nat.div_le_self _ _) hc)]
  unfold bitOf
  have h2 := Nat.mod_lt (c / 2 ^ k) (by decide : 2 > 0)
  generalize c / 2 ^ k % 2 = m at h2
  have h3 : m = 0 ∨ m = 1 := by omega
  rcases h3 with rfl | rfl <;> rfl

set_option maxHeartbeats 2000000 in
theorem torn_any (a b : List UInt8) (ha : a.length = 256) (hb : b.length = 256) (c : Nat) (hc : c < 256) (w : World) :
    Calls Tryd.prog 53 #[.agg (cellsL a).toArray, .agg (cellsL b).toArray, .int .u8 (c : Int)] w fun e w' => e = .returned (.agg (cellsL (tear a b c)).toArray) ∧ New w w' := by
  have ht0 := bit_test c 0 hc
  have ht1 := bit_test c 1 hc
  have ht2 := bit_test c 2 hc
  have ht3 := bit_test c 3 hc
  rw [show ((c / 2 ^ 0 : Nat) : Int) = (c : Int) by omega] at ht0
  rw [show ((c / 2 ^ 1 : Nat) : Int) = (c : Int) / 2 by omega] at ht1
  rw [show ((c / 2 ^ 2 : Nat) : Int) = (c : Int) / 4 by omega] at ht2
  rw [show ((c / 2 ^ 3 : Nat) : Int) = (c : Int) / 8 by omega] at ht3
  obtain ⟨x, hx⟩ : ∃ x, (cellsL a).toArray = x := ⟨_, rfl⟩
  obtain ⟨y, hy⟩ : ∃ y, (cellsL b).toArray = y := ⟨_, rfl⟩
  rw [hx, hy]
  go_enter Tryd.func53, Tryd.ntmps53
  go_wp2_with (refine wpList_alloc_zero (by rfl) 85 (by rfl) _ _ _ info77 ?_)
  go_loopw [8] (fun i wr => ∃ k : Nat, k ≤ 4 ∧ i = .int .i64 (k : Int) ∧ Row wr w.heap.size (cellsL (tearN a b c k)).toArray 85 ∧ Row wr (w.heap.size + 1) y 85 ∧ Row wr (w.heap.size + 2) (cellsL zeros).toArray 85 ∧ New w wr) (fun i _ => 4 - (intOf i).toNat)
  case atStart =>
    refine ⟨0, by omega, rfl, ?_, ?_, ?_, (((New.refl w).alloc _).alloc _).alloc _⟩
    · show Row _ _ (cellsL a).toArray _
      rw [hx]
      exact ((Row.new w _ _).alloc _).alloc _
    · have := (Row.new (w.alloc (.cells x 85)) y 85).alloc (.cells (cellsL zeros).toArray 85)
      simpa using this
    · have := Row.new ((w.alloc (.cells x 85)).alloc (.cells y 85)) (cellsL zeros).toArray 85
      simpa using this
  case round =>
    obtain ⟨k, hk, rfl, R0, R1, R2, hN⟩ := hrel
    have hT : (tearN a b c k).length = 256 := tearN_length ha hb hk
    by_cases hlt : k < 4
    · have hlt' : (k : Int) < 4 := by omega
      have hrg : wr.rangeAt (w.heap.size + 1) (k * 64) (cellsL (sec b k)) := by
        have := R1.range (k * 64) 64
        rw [← hy, List.toList_toArray, sec_cells] at this
        exact this
      have hth : wr.there w.heap.size (k * 64) (cellsL (sec b k)).toArray.size := R0.there _ _ (by rw [cellsL_size, cellsL_size, sec_length hb hlt, hT]; omega)
      have h75 : (Tryd.prog.info? 83).map (·.size) = some (cellsL (sec b k)).length := by rw [cellsL_length, sec_length hb hlt]; exact i75
      have HW : Hid (∃ W, W = wr.setCells w.heap.size (k * 64) (cellsL (sec b k)).toArray.toList ∧ Row W w.heap.size (cellsL (put (tearN a b c k) (64 * k) (sec b k))).toArray 85 ∧ Row W (w.heap.size + 1) y 85 ∧ Row W (w.heap.size + 2) (cellsL zeros).toArray 85 ∧ New w W) := by
        refine ⟨_, rfl, ?_, R1.of (setCells_other _ _ _ _ _ (by omega)), R2.of (setCells_other _ _ _ _ _ (by omega)), hN.setCells (by omega) _ _⟩
        have := Row.setCells (cellsL (sec b k)) (k * 64) wr _ R0 (by rw [cellsL_length, cellsL_size, sec_length hb hlt, hT]; omega)
        rw [List.toList_toArray, cellsL_put, Nat.mul_comm k 64] at this
        rw [List.toList_toArray, Nat.mul_comm k 64]
        exact this
      have HS : Hid (tearN a b c (k + 1) = if bitOf c k then put (tearN a b c k) (64 * k) (sec b k) else tearN a b c k) := rfl
      have HR : Hid (Row wr w.heap.size (cellsL (tearN a b c k)).toArray 85 ∧ Row wr (w.heap.size + 1) y 85 ∧ Row wr (w.heap.size + 2) (cellsL zeros).toArray 85) := ⟨R0, R1, R2⟩
      generalize put (tearN a b c k) (64 * k) (sec b k) = tn at HW HS
      generalize tearN a b c k = t0 at HS HR
      have HO : Hid (∀ v ∈ cellsL (sec b k), v.oneCell' = true) := cellsL_one _
      generalize (cellsL (sec b k)) = cs at *
      clear R0 R1 R2 hT hx hy
      have hone : cs.toArray.all (·.oneCell') = true := all_oneCell_toArray HO.out
      have h75' : (Tryd.prog.info? 83).map (·.size) = some cs.toArray.size := h75
      clear HO
      by_cases hbit : bitOf c k = true
      · have hk4 : k = 0 ∨ k = 1 ∨ k = 2 ∨ k = 3 := by omega
        obtain ⟨W, hW, S0, S1, S2, hN2⟩ := HW.out
        have HS' : Hid (tearN a b c (k + 1) = tn) := by have := HS.out; rw [if_pos hbit] at this; exact this
        clear HS HR
        rcases hk4 with rfl | rfl | rfl | rfl
        all_goals
          simp only [Nat.zero_mul, Nat.reduceMul] at hW
          subst hW
          go_wp2_with (first
            | refine wpList_load_mid (by rfl) 83 _ (by rfl) (w.heap.size + 1) _ (by rfl) cs _ hrg Tryd.underlying83 rfl h75 ?_
            | refine wpList_store_mid (by rfl) 83 _ _ (by rfl) w.heap.size _ cs.toArray (by rfl) (by rfl) hth h75' hone ?_)
        · exact ⟨⟨1, by omega, rfl, by rw [HS'.out]; exact S0, S1, S2, hN2⟩, by simp [intOf]⟩
        · exact ⟨⟨2, by omega, rfl, by rw [HS'.out]; exact S0, S1, S2, hN2⟩, by simp [intOf]⟩
        · exact ⟨⟨3, by omega, rfl, by rw [HS'.out]; exact S0, S1, S2, hN2⟩, by simp [intOf]⟩
        · exact ⟨⟨4, by omega, rfl, by rw [HS'.out]; exact S0, S1, S2, hN2⟩, by simp [intOf]⟩
      · have hk4 : k = 0 ∨ k = 1 ∨ k = 2 ∨ k = 3 := by omega
        obtain ⟨S0, S1, S2⟩ := HR.out
        have HS' : Hid (tearN a b c (k + 1) = t0) := by have := HS.out; rw [if_neg hbit] at this; exact this
        clear HS HR HW hrg hth hone h75 h75'
        simp only [Bool.not_eq_true] at hbit
        have HH : Hid (Row wr w.heap.size (cellsL t0).toArray 85 ∧ Row wr (w.heap.size + 1) y 85 ∧ Row wr (w.heap.size + 2) (cellsL zeros).toArray 85) := ⟨S0, S1, S2⟩
        clear S0 S1 S2
        rcases hk4 with rfl | rfl | rfl | rfl
        all_goals
          go_wp2_with fail
        · exact ⟨⟨1, by omega, rfl, by rw [HS'.out]; exact HH.out.1, HH.out.2.1, HH.out.2.2, hN⟩, by simp [intOf]⟩
        · exact ⟨⟨2, by omega, rfl, by rw [HS'.out]; exact HH.out.1, HH.out.2.1, HH.out.2.2, hN⟩, by simp [intOf]⟩
        · exact ⟨⟨3, by omega, rfl, by rw [HS'.out]; exact HH.out.1, HH.out.2.1, HH.out.2.2, hN⟩, by simp [intOf]⟩
        · exact ⟨⟨4, by omega, rfl, by rw [HS'.out]; exact HH.out.1, HH.out.2.1, HH.out.2.2, hN⟩, by simp [intOf]⟩
    · obtain rfl : k = 4 := by omega
      have HR : Hid (Row wr w.heap.size (cellsL (tear a b c)).toArray 85) := R0
      have hL : (tear a b c).length = 256 := hT
      clear R0 hT
      clear ht0 ht1 ht2 ht3 R1
      go_wp2_with (first
        | refine wpList_load_row (by rfl) 85 _ (by rfl) w.heap.size (by rfl) 85 (cellsL (tear a b c)).toArray (0, 0) _ HR.out Tryd.underlying85 rfl (by rw [cellsL_size, hL]; exact i77) ?_
        | refine wpList_store_row (by rfl) 85 _ _ (by rfl) (w.heap.size + 2) (cellsL (tear a b c)).toArray (by rfl) (by rfl) 85 (cellsL zeros).toArray R2 (by rw [cellsL_size, hL]; exact i77) (by rw [cellsL_size, cellsL_size, hL, zeros_length]) (cellsL_all _) ?_)
      exact bodyPost_ret (results_cell_row rfl _ _ (w.heap.size + 2) 85 (cellsL (tear a b c)).toArray (0, 0) _ rfl (R2.setRow _) Tryd.underlying85 rfl (by rw [cellsL_size, hL]; exact i77)) rfl ⟨rfl, hN.setRow (by omega) _⟩

end Go.Proofs.YtkcoclpbkealgaaDoor
