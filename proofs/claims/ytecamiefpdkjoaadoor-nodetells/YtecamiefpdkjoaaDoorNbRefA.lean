/-
  What the document's own Of, Common and Good return, for every text: the same.
-/
import Derived.Test.YtecamiefpdkjoaaDoorNbUnpack
import Derived.Test.YtecamiefpdkjoaaDoorNbQuiet
namespace Go.Proofs.YtecamiefpdkjoaaDoor
open Go.RowKit
set_option maxRecDepth 20000

theorem lo_form2 (c : UInt8) : (c.toNat : Int) % 16 = ((lo c).toNat : Int) := by rw [lo_nat]; omega

set_option maxHeartbeats 1000000 in
theorem refOf_any (s : ByteArray) (hs : s.size ≤ 4000) (w : World) :
    Calls Tryd.prog 47 #[.string s] w fun e w' => e = .returned (.string (bs (ofL (L s)))) ∧ Below w.heap.size w w' := by
  obtain ⟨i0, hi0, hz0, hz1, hz2⟩ := info_parts info5
  go_enter Tryd.func47, Tryd.ntmps47
  go_wp2_with fail
  go_loopw [3, 4] (fun v i wr => ∃ k : Nat, k ≤ s.size ∧ i = .int .i64 k ∧ wr.ownsRow w.heap.size 5 1 v (2 * k) (cellsL (ofL ((L s).take k))) ∧ Below w.heap.size w wr) (fun _ i _ => s.size - (intOf i).toNat)
  case atStart => exact ⟨0, by omega, rfl, World.ownsRow_nil _ _ _ _, Below.refl _ _⟩
  case round =>
    obtain ⟨k, hk, rfl, hown, hb⟩ := hrel
    have hB := hb.size
    by_cases hlt : k < s.size
    · have hc := hi_form s[k]
      have hd := lo_form2 s[k]
      have hd' : ((s[k].toNat : Int)).tmod 16 = ((lo s[k]).toNat : Int) := by rw [Int.tmod_eq_emod_of_nonneg (by omega)]; exact hd
      have hc' : IntKind.u8.wrap ((hi s[k]).toNat : Int) = ((hi s[k]).toNat : Int) := by rw [IntKind.wrap_u8, hi_nat]; have := s[k].toNat_lt; omega
      have HS : Hid (_ = _) := cells_step (L s) k s[k] (L_get s k hlt)
      go_wp2_with fail
      go_region_held3 (fun _ => True) (trivial)
        ((refine step_append_lies _ (by rfl) _ _ _ (by rfl) w.heap.size 5 i0 _ 1 1 Tryd.underlying56 hi0 hz0 hz1 hz2 rfl (by omega) u3 (2 * k) (cellsL (ofL ((L s).take k))) (by rfl) ((hown.alloc _).drew)
            ⟨wr.heap.size, 0, none⟩ 2 2 [.int .u8 ((hi s[k]).toNat : Int), .int .u8 ((lo s[k]).toNat : Int)] (by rfl) (by rfl) (World.news_of_block (cs := #[.int .u8 ((hi s[k]).toNat : Int), .int .u8 ((lo s[k]).toNat : Int)]) (t := 5) (fr := (0, 0)) (heap_alloc_new wr _)) (by simp [Value.oneCell'])
            (by omega) (by unfold maxLen; omega) (by omega) (by simp; omega) (wr.heap.size + 1) (by simp) ?_; intro gg cap w1 hown1 hgrow hat hlt1))
      go_wp2_with fail
      all_goals exact ⟨⟨k + 1, by omega, by go_num, HS.out ▸ hown1, grow_kept hown hb hgrow⟩, by simp [intOf]; omega⟩
    · obtain rfl : k = s.size := by omega
      have hcv := conv_own (by rw [ofL_length, List.length_take, L_size]; omega) hown
      rw [← L_size, List.take_length] at hcv
      clear hown
      go_wp2_with fail
      go_ret
      exact ⟨rfl, hb⟩

set_option maxHeartbeats 400000 in
theorem refGood_any (s : ByteArray) (hs : s.size ≤ 4000) (w : World) :
    Calls Tryd.prog 29 #[.string s] w fun e w' => e = .returned (.bool (goodB (L s))) ∧ w' = w := by
  go_enter Tryd.func29, Tryd.ntmps29
  go_wp2_with fail
  go_loop [3] (fun i => ∃ k : Nat, k ≤ s.size ∧ i = .int .i64 k ∧ ∀ (j : Nat) c, j < k → (L s)[j]? = some c → c.toNat < 16) (fun i => s.size - (intOf i).toNat)
  case atStart => exact ⟨0, by omega, rfl, fun j c h => absurd h (by omega)⟩
  case round =>
    obtain ⟨k, hk, rfl, hall⟩ := hrel
    have HA : Hid (∀ (j : Nat) c, j < k → (L s)[j]? = some c → c.toNat < 16) := hall
    clear hall
    by_cases hlt : k < s.size
    · have hc : Hid ((L s)[k]? = some s[k]) := L_get s k hlt
      by_cases h16 : (s[k]).toNat < 16
      · have ht : decide ((15 : Int) < (s[k].toNat : Int)) = false := decide_eq_false (by omega)
        go_wp2_with fail
        go_round
        case rel => exact ⟨k + 1, by omega, by go_num, fun j c hj hjc => by
          by_cases e : j = k
          · subst e; rw [hc.out] at hjc; cases hjc; exact h16
          · exact HA.out j c (by omega) hjc⟩
        case measure => simp [intOf]; omega
      · have ht : decide ((15 : Int) < (s[k].toNat : Int)) = true := decide_eq_true (by omega)
        have HG : Hid (goodB (L s) = false) := by show _ = _; unfold goodB; rw [halvesB_bad hc.out h16, Bool.and_false]
        go_wp2_with fail
        go_ret
        exact ⟨ret_bool HG.out.symm, rfl⟩
    · obtain rfl : k = s.size := by omega
      have HG : Hid (decide ((s.size : Int) ≤ 16) = goodB (L s)) := by
        show _ = _
        unfold goodB
        rw [halvesB_good fun j c h => HA.out j c (by rw [← L_size s]; exact (List.getElem?_eq_some_iff.1 h).1) h, Bool.and_true, L_size, Bool.eq_iff_iff, decide_eq_true_eq, decide_eq_true_eq]
        omega
      go_wp2_with fail
      go_ret
      exact ⟨ret_bool HG.out, rfl⟩

end Go.Proofs.YtecamiefpdkjoaaDoor
