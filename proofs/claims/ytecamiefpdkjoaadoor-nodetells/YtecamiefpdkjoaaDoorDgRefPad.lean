/-
  What the document's Pad tells: the same as Pad.
-/
import Derived.Test.YtecamiefpdkjoaaDoorDgPad
namespace Go.Proofs.YtecamiefpdkjoaaDoor.Dg
open Go.RowKit
set_option maxRecDepth 20000

/-- How long a slice is. -/
def lenV : Value → Nat
  | .slice _ n _ => n
  | _ => 0
theorem zeros_step (k : Nat) : cellsL (128 :: List.replicate k 0) ++ [.int .u8 0] = cellsL (128 :: List.replicate (k + 1) 0) := by
  rw [List.replicate_succ', ← List.cons_append, cellsL_append]; rfl
theorem be8_step (l : List UInt8) (v j : Nat) (h : j < 8) (y : Nat) (hy : v / 2 ^ (8 * (7 - j)) % 256 = y) : cellsL (l ++ (be8 v).take j) ++ [.int .u8 (y : Int)] = cellsL (l ++ (be8 v).take (j + 1)) := by
  have hb : (be8 v)[j]? = some (UInt8.ofNat y) := by
    have h8 : j = 0 ∨ j = 1 ∨ j = 2 ∨ j = 3 ∨ j = 4 ∨ j = 5 ∨ j = 6 ∨ j = 7 := by omega
    rcases h8 with rfl | rfl | rfl | rfl | rfl | rfl | rfl | rfl
    all_goals simp at hy; simp [be8, hy]
  rw [List.take_add_one, hb, ← List.append_assoc, cellsL_append (l ++ (be8 v).take j)]
  congr 1
  unfold cellsL
  simp only [Option.toList_some, List.map_cons, List.map_nil]
  rw [byte_of y (by omega)]

set_option maxHeartbeats 1600000 in
theorem refPad_core (a : Int) (n : Nat) (hn : n ≤ 576460752303423488) (hm : (if 0 < a then a else 0) = (n : Int)) (w : World) :
    Calls Tryd.prog 65 #[.int .i64 a] w fun e w' => e = .returned (.string (bs (padL n))) ∧ Kept w w' := by
  obtain ⟨i0, hi0, hz0, hz1, hz2⟩ := info_parts info5
  obtain ⟨S, hS⟩ : ∃ S, padS n = S := ⟨_, rfl⟩
  obtain ⟨v, hv⟩ : ∃ v, 8 * n = v := ⟨_, rfl⟩
  have hS9 := padS_ge n
  have hS72 := padS_le n
  rw [hS] at hS9 hS72
  have HL : Hid (padL n = 128 :: List.replicate (S - 9) 0 ++ be8 v) := by
    show padL n = _
    unfold padL
    rw [hS, Nat.mod_eq_of_lt (by omega), hv]
    rfl
  have HP : Hid ((padL n).length = S) := by show _ = _; rw [padL_length, hS]
  have HT : Hid (∀ k, k ≤ S - 9 → ((n + (k + 1)) % 64 = 56 ↔ k = S - 9)) := by
    show ∀ k, _
    intro k hk
    unfold padS at hS
    split at hS <;> omega
  have hvI : IntKind.u64.wrap ((n : Int) * 8) = (v : Int) := by rw [IntKind.wrap_u64]; omega
  have hvl : v ≤ 4611686018427387904 := by omega
  clear hS hv
  go_enter Tryd.func65, Tryd.ntmps65
  go_upto_region 2 with fail
  clear hm
  go_wp2_with fail
  go_loopw [3] (fun u wr => ∃ k c : Nat, k ≤ S - 9 ∧ k + 1 = c ∧ wr.ownsRow w.heap.size 5 1 u c (cellsL (128 :: List.replicate k 0)) ∧ Below w.heap.size w wr) (fun u _ => S - lenV u)
  case atStart => exact ⟨0, 1, by omega, rfl, World.ownsRow_lit w #[.int .u8 128] 1 (Nat.le_refl _) (by decide) (by simp), (Below.refl _ _).alloc (Nat.le_refl _) _⟩
  case round =>
    obtain ⟨k, c, hk, hc, hown, hb⟩ := hrel
    have hB := hb.size
    obtain ⟨g, cap, rfl, _, _⟩ := hown.form (by omega)
    have hT := HT.out k hk
    by_cases hlt : k < S - 9
    · have hd1 : (((n : Int) + (c : Int)) % 64 != 56) = true := by rw [bne_iff_ne]; omega
      have HZ : Hid (_ = _) := zeros_step k
      clear hT HT
      go_wp2_with (at_builtin; refine wpList_append_lies _ rfl _ _ 56 rfl w.heap.size 5 i0 (.int .u8 0) 1 1 Tryd.underlying56 hi0 hz0 hz1 hz2 rfl (by decide) _ _ _ rfl (hown.alloc _) ⟨wr.heap.size, 0, none⟩ 1 1 [.int .u8 0] rfl rfl (World.news_of_block (cs := #[.int .u8 0]) (t := 5) (fr := (0, 0)) (heap_alloc_new wr _)) (by simp [Value.oneCell']) (by decide) (by unfold maxLen; omega) (by omega) (by simp; omega) (wr.heap.size + 1) (by simp) ?_)
      intro gg cap2 w2 hown1 hgrow _ _
      rw [HZ.out] at hown1
      go_wp2_with fail
      exact ⟨⟨k + 1, c + 1, by omega, by omega, hown1, grow_plain hown hb hgrow⟩, by simp [lenV]; omega⟩
    · obtain rfl : k = S - 9 := by omega
      have hd1 : (((n : Int) + (c : Int)) % 64 != 56) = false := by rw [bne_eq_false_iff_eq]; omega
      obtain ⟨zl, hzl⟩ : ∃ zl, (128 : UInt8) :: List.replicate (S - 9) 0 = zl := ⟨_, rfl⟩
      rw [hzl] at hown HL
      clear hT HT hzl
      go_wp2_with fail
      go_loopw [3, 5] (fun u i wr => ∃ j m : Nat, j ≤ 8 ∧ S - 8 + j = m ∧ i = .int .i64 (7 - (j : Int)) ∧ wr.ownsRow w.heap.size 5 1 u m (cellsL (zl ++ (be8 v).take j)) ∧ Below w.heap.size w wr) (fun _ i _ => (1 + intOf i).toNat)
      case atStart => exact ⟨0, c, by omega, by omega, rfl, by rw [List.take_zero, List.append_nil]; exact hown, hb⟩
      case round =>
        clear hown hb hB
        obtain ⟨j, m, hj, hjm, rfl, hown, hb⟩ := hrel
        have hB := hb.size
        by_cases hlt2 : j < 8
        · obtain ⟨d, hd⟩ : ∃ d, 7 - j = d := ⟨_, rfl⟩
          have hdI : (7 : Int) - (j : Int) = (d : Int) := by omega
          obtain ⟨q, hq⟩ : ∃ q, 8 * d = q := ⟨_, rfl⟩
          have hqI : (8 : Int) * (d : Int) = (q : Int) := by omega
          obtain ⟨y, hy⟩ : ∃ y, v / 2 ^ (8 * (7 - j)) % 256 = y := ⟨_, rfl⟩
          have HS : Hid (_ = _) := be8_step zl v j hlt2 y hy
          have hyI : (v : Int) / 2 ^ q % 256 = (y : Int) := by rw [← hy, hd, hq]; simp
          have hq63 : q ≤ 56 := by omega
          have hm72 : m ≤ 72 := by omega
          clear hy hd hq
          go_wp2_with (at_builtin; refine wpList_append_lies _ rfl _ _ 56 rfl w.heap.size 5 i0 (.int .u8 0) 1 1 Tryd.underlying56 hi0 hz0 hz1 hz2 rfl (by decide) _ _ _ rfl (hown.alloc _) ⟨wr.heap.size, 0, none⟩ 1 1 [.int .u8 (y : Int)] rfl rfl (World.news_of_block (cs := #[.int .u8 (y : Int)]) (t := 5) (fr := (0, 0)) (heap_alloc_new wr _)) (by simp [Value.oneCell']) (by decide) (by unfold maxLen; omega) (by omega) (by simp; omega) (wr.heap.size + 1) (by simp) ?_)
          intro gg cap2 w2 hown1 hgrow _ _
          rw [HS.out] at hown1
          go_wp2_with fail
          exact ⟨⟨j + 1, m + 1, by omega, by omega, by go_num, hown1, grow_plain hown hb hgrow⟩, by simp [intOf]; omega⟩
        · obtain rfl : j = 8 := by omega
          rw [show (be8 v).take 8 = be8 v from rfl, ← HL.out] at hown
          have hcv := conv_own (by rw [HP.out]; omega) hown
          clear hown
          go_wp2_with fail
          go_ret
          exact ⟨rfl, Kept.below hb⟩

theorem refPad_any (n : Nat) (hn : n ≤ 576460752303423488) (w : World) :
    Calls Tryd.prog 65 #[.int .i64 (n : Int)] w fun e w' => e = .returned (.string (bs (padL n))) ∧ Kept w w' :=
  refPad_core (n : Int) n hn (by split <;> omega) w
theorem refPad_neg (a : Int) (ha : a < 0) (w : World) :
    Calls Tryd.prog 65 #[.int .i64 a] w fun e w' => e = .returned (.string (bs (padL 0))) ∧ Kept w w' :=
  refPad_core a 0 (by omega) (by rw [if_neg (by omega)]; rfl) w

end Go.Proofs.YtecamiefpdkjoaaDoor.Dg
