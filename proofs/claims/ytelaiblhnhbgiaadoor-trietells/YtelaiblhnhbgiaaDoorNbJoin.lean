/-
  What join returns: halves laid together, two a byte, for every text, where the table of upper halves lies as its initialiser lays it.
-/
import Derived.Test.YtelaiblhnhbgiaaDoorNbOf
namespace Go.Proofs.YtelaiblhnhbgiaaDoor
open Go.RowKit
set_option maxRecDepth 20000

/-- The table of upper halves lies in the first block. -/
def Tab (w : World) : Prop := 0 < w.heap.size ∧ ∀ i : Nat, i < 16 → w.cell? ⟨0, i, none⟩ = some (.int .u8 ((i * 16 : Nat) : Int))
theorem Tab.kept {w w' : World} (h : Tab w) (k : Kept w w') : Tab w' := ⟨Nat.lt_of_lt_of_le h.1 k.size, fun i hi => (k.cell h.1).trans (h.2 i hi)⟩
theorem made_zero (l : List UInt8) (J : Nat) : (madeCells (Value.int .u8 0).cells (J * 1)).toList = cellsL (padL l 0 J) := by
  rw [padL_none]
  unfold cellsL madeCells
  rw [List.map_replicate, Array.toList_map, Array.toList_range, Nat.mul_one, List.eq_replicate_iff]
  refine ⟨by simp, fun b hb => ?_⟩
  obtain ⟨j, _, rfl⟩ := List.mem_map.1 hb
  show (#[Value.int .u8 0] : Array Value)[j % 1]! = _
  rw [Nat.mod_one]; rfl

set_option maxHeartbeats 1000000 in
theorem join_any (s : ByteArray) (hs : s.size ≤ 5000) (w : World) (hT : Tab w) :
    Calls Tryd.prog 44 #[.string s] w fun e w' => e = .returned (.string (bs (joinL (L s)))) ∧ Kept w w' := by
  obtain ⟨i0, hi0, hz0, hz1, hz2⟩ := info_parts info5
  obtain ⟨J, hJ⟩ : ∃ J, (s.size + 1) / 2 = J := ⟨_, rfl⟩
  obtain ⟨w1, hmk, r1, r2⟩ := run_make_full (P := Tryd.prog) w w.heap.size 50 5 i0 _ 1 Tryd.underlying50 hi0 hz0 hz1 .i64 .i64 J (by rw [hz2]; omega) (by unfold maxLen; omega) (Nat.le_refl _)
  have hb1 : Below w.heap.size w w1 := (Below.refl _ _).grown r2 (Nat.le_refl _) (fun _ h => by cases h)
  clear r2
  have HJ : Hid ((s.size + 1) / 2 = J) := hJ
  go_enter Tryd.func44, Tryd.ntmps44
  go_wp2_with fail
  refine (joinedSize_any _ hs _).mono ?_
  rintro e w' ⟨rfl, rfl⟩
  rw [hJ]
  clear hJ
  go_wp2_with fail
  clear hmk
  go_loopw [12] (fun i wr => ∃ k : Nat, k ≤ s.size ∧ i = .int .i64 k ∧ wr.ownsRow w'.heap.size 5 1 (.slice (some ⟨w'.heap.size, 0, none⟩) J J) J (cellsL (padL (L s) k J)) ∧ Below w'.heap.size w' wr) (fun i _ => s.size - (intOf i).toNat)
  case atStart => exact ⟨0, by omega, rfl, by rw [made_zero (L s)] at r1; exact r1, hb1⟩
  case round =>
    clear r1 hb1
    obtain ⟨k, hk, rfl, hown, hb⟩ := hrel
    have hB := hb.size
    by_cases hlt : k < s.size
    · have HS : Hid ((L s)[k]? = some s[k]) := L_get s k hlt
      obtain ⟨y, hy⟩ : ∃ y, (lo s[k]).toNat = y := ⟨_, rfl⟩
      have hd := lo_form s[k]
      rw [hy] at hd
      have HY : Hid (s[k].toNat % 16 = y) := (lo_nat s[k]).symm.trans hy
      have hy16 : y < 16 := by have := HY.out; omega
      have hy0 : (0 : Int) ≤ (y : Int) := Int.natCast_nonneg _
      have hy1 : (y : Int) < 16 := by omega
      clear hy
      obtain ⟨m, hm⟩ : ∃ m, k / 2 = m := ⟨_, rfl⟩
      have HM : Hid (k / 2 = m) := hm
      have hq : (k : Int) / 2 = (m : Int) := by omega
      have hj : m < J := by have := HJ.out; omega
      have hj0 : (0 : Int) ≤ (m : Int) := Int.natCast_nonneg _
      have hj1 : (m : Int) < (J : Int) := by omega
      clear hm
      have hfz : wr.frozen? ⟨w'.heap.size, m, none⟩ = false := hown.frozenAt m
      by_cases ho : k % 2 = 1
      · have hk1 : k - 1 < s.size := by omega
        have HB : Hid ((L s)[k - 1]? = some s[k - 1]) := L_get s (k - 1) hk1
        obtain ⟨z, hz⟩ : ∃ z, (two s[k - 1] 0).toNat = z := ⟨_, rfl⟩
        obtain ⟨q, hqq⟩ : ∃ q, (two s[k - 1] s[k]).toNat = q := ⟨_, rfl⟩
        have hcell : wr.cell? ⟨w'.heap.size, m, none⟩ = some (.int .u8 (z : Int)) := by
          rw [hown.cellAt m (by omega), cellsL_get (c := two s[k - 1] 0), hz]
          rw [← HM.out]
          exact padL_now _ _ _ _ ho HB.out (by rw [HM.out]; exact hj)
        have hor : bits .or .u8 (z : Int) (y : Int) = (q : Int) := by
          rw [← hz, ← hqq, two_zero, two_nat, HY.out]
          exact or_halves _ (by omega) _ hy16
        have HP : Hid ((cellsL (padL (L s) k J)).set m (.int .u8 (q : Int)) = cellsL (padL (L s) (k + 1) J)) := by
          show _ = _
          rw [← padL_odd (L s) k J s[k - 1] s[k] ho HB.out HS.out (by rw [HM.out]; exact hj), HM.out]
          unfold cellsL
          rw [List.map_set, hqq]
        have HO : Hid (k % 2 = 1) := ho
        clear hz hqq ho
        go_wp2_with fail
        refine (isOdd_any _ _).mono ?_
        rintro e w2 ⟨rfl, rfl⟩
        rw [show oddB k = true from decide_eq_true HO.out]
        go_wp2_with fail
        all_goals exact ⟨⟨k + 1, by omega, by go_num, HP.out ▸ (hown.stored m _).1, hb.setCell (Nat.le_refl _) _⟩, by simp [intOf]; omega⟩
      · obtain ⟨t, ht⟩ : ∃ t, y * 16 = t := ⟨_, rfl⟩
        have hcell : wr.cell? ⟨0, y, none⟩ = some (.int .u8 (t : Int)) := by
          rw [hb.cell (p := ⟨0, y, none⟩) hT.1, hT.2 y hy16, ht]
        obtain ⟨u0, hu0⟩ : ∃ u, wr.cell? ⟨w'.heap.size, m, none⟩ = some u :=
          ⟨_, (hown.cellAt m (by omega)).trans (cellsL_get (padL_get _ _ _ _ hj))⟩
        have HP : Hid ((cellsL (padL (L s) k J)).set m (.int .u8 (t : Int)) = cellsL (padL (L s) (k + 1) J)) := by
          show _ = _
          rw [← padL_even (L s) k J s[k] (by omega) HS.out (by rw [HM.out]; exact hj), HM.out]
          unfold cellsL
          rw [List.map_set, two_zero, HY.out, ht]
        have HO : Hid (¬ k % 2 = 1) := ho
        clear ht ho
        go_wp2_with fail
        refine (isOdd_any _ _).mono ?_
        rintro e w2 ⟨rfl, rfl⟩
        rw [show oddB k = false from decide_eq_false HO.out]
        go_wp2_with fail
        all_goals exact ⟨⟨k + 1, by omega, by go_num, HP.out ▸ (hown.stored m _).1, hb.setCell (Nat.le_refl _) _⟩, by simp [intOf]; omega⟩
    · obtain rfl : k = s.size := by omega
      have hcv := conv_own (padL_length _ _ _) hown
      have HF : Hid (padL (L s) s.size J = joinL (L s)) := by
        show _ = _
        rw [← padL_full, L_size, HJ.out]
      rw [HF.out] at hcv
      clear hown
      go_wp2_with fail
      go_ret
      exact ⟨rfl, Kept.below hb⟩

end Go.Proofs.YtelaiblhnhbgiaaDoor
