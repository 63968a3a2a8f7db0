/-
  What the document's own Of, Common and Good return, for every text: the same.
-/
import Derived.Test.YtelaiblhnhbgiaaDoorNbKey
import Derived.Test.YtelaiblhnhbgiaaDoorNbQuiet
namespace Go.Proofs.YtelaiblhnhbgiaaDoor
open Go.RowKit
set_option maxRecDepth 20000

theorem lo_form2 (c : UInt8) : (c.toNat : Int) % 16 = ((lo c).toNat : Int) := by rw [lo_nat]; omega

set_option maxHeartbeats 1000000 in
theorem refOf_any (s : ByteArray) (hs : s.size ≤ 5000) (w : World) :
    Calls Tryd.prog 25 #[.string s] w fun e w' => e = .returned (.string (bs (ofL (L s)))) ∧ Below w.heap.size w w' := by
  obtain ⟨i0, hi0, hz0, hz1, hz2⟩ := info_parts info5
  go_enter Tryd.func25, Tryd.ntmps25
  go_wp2_with fail
  go_loopw [3, 4] (fun v i wr => ∃ k : Nat, k ≤ s.size ∧ i = .int .i64 k ∧ wr.ownsRow w.heap.size 5 1 v (2 * k) (cellsL (ofL ((L s).take k))) ∧ Below w.heap.size w wr) (fun _ i _ => s.size - (intOf i).toNat)
  case atStart => exact ⟨0, by omega, rfl, World.ownsRow_nil _ _ _ _, Below.refl _ _⟩
  case round =>
    obtain ⟨k, hk, rfl, hown, hb⟩ := hrel
    have hB := hb.size
    by_cases hlt : k < s.size
    · have hc := hi_form s[k]
      have hd := lo_form2 s[k]
      have hd' : ((s[k].toNat : Int)).tmod 16 = ((lo s[k]).toNat : Int) := by rw [Int.tmod_eq_emod_of_nonneg (by omega)]; exact hd
      have hc' : IntKind.u8.wrap ((hi s[k]).toNat : Int) = ((hi s[k]).toNat : Int) := by rw [IntKind.wrap_u8, hi_nat]; have := s[k].toNat_lt; omega
      have HS : Hid (_ = _) := cells_step (L s) k s[k] (L_get s k hlt)
      go_wp2_with fail
      go_region_held3 (fun _ => True) (trivial)
        ((refine step_append_lies _ (by rfl) _ _ _ (by rfl) w.heap.size 5 i0 _ 1 1 Tryd.underlying50 hi0 hz0 hz1 hz2 rfl (by omega) u3 (2 * k) (cellsL (ofL ((L s).take k))) (by rfl) ((hown.alloc _).drew)
            ⟨wr.heap.size, 0, none⟩ 2 2 [.int .u8 ((hi s[k]).toNat : Int), .int .u8 ((lo s[k]).toNat : Int)] (by rfl) (by rfl) (World.news_of_block (cs := #[.int .u8 ((hi s[k]).toNat : Int), .int .u8 ((lo s[k]).toNat : Int)]) (t := 5) (fr := (0, 0)) (heap_alloc_new wr _)) (by simp [Value.oneCell'])
            (by omega) (by unfold maxLen; omega) (by omega) (by simp; omega) (wr.heap.size + 1) (by simp) ?_; intro gg cap w1 hown1 hgrow hat hlt1))
      go_wp2_with fail
      all_goals exact ⟨⟨k + 1, by omega, by go_num, HS.out ▸ hown1, grow_kept hown hb hgrow⟩, by simp [intOf]; omega⟩
    · obtain rfl : k = s.size := by omega
      have hcv := conv_own (by rw [ofL_length, List.length_take, L_size]; omega) hown
      rw [← L_size, List.take_length] at hcv
      clear hown
      go_wp2_with fail
      go_ret
      exact ⟨rfl, hb⟩

set_option maxHeartbeats 1000000 in
theorem refCommon_any (s t : ByteArray) (hs : s.size ≤ 5000) (ht : t.size ≤ 5000) (w : World) :
    Calls Tryd.prog 35 #[.string s, .string t] w fun e w' => e = .returned (.int .i64 (comN (L s) (L t) : Nat)) ∧ Kept w w' := by
  have hne : Nonempty (KeptW w) := ⟨⟨w, Kept.refl w⟩⟩
  go_enter Tryd.func35, Tryd.ntmps35
  go_wp2_with fail
  go_loopw [5] (fun i wr => ∃ k : Nat, k ≤ s.size ∧ k ≤ t.size ∧ i = .int .i64 k ∧ (L s).take k = (L t).take k ∧ Kept w wr) (fun i _ => s.size - (intOf i).toNat)
  case atStart => exact ⟨0, by omega, by omega, rfl, rfl, Kept.refl _⟩
  case round =>
    obtain ⟨k, hk1, hk2, rfl, hpre, hkept⟩ := hrel
    have HP : Hid ((L s).take k = (L t).take k) := hpre
    clear hpre
    by_cases h1 : k < s.size
    · have n1 : decide (k < s.size) = true := decide_eq_true h1
      by_cases h2 : k < t.size
      · have n2 : decide (k < t.size) = true := decide_eq_true h2
        have hc : Hid ((L s)[k]? = some s[k]) := L_get s k h1
        have hd : Hid ((L t)[k]? = some t[k]) := L_get t k h2
        by_cases he : s[k] = t[k]
        · have hb : ((s[k].toNat : Int) == (t[k].toNat : Int)) = true := by rw [he]; simp
          have HE : Hid (s[k] = t[k]) := he
          clear he
          go_wp2_with fail
          refine region_kept w hkept (by kernel_rfl) (by kernel_rfl) ?_
          repeat (go_big_quiet_step (fail))
          refine wpQuiet_nil ?_
          rintro _ ⟨⟨w5, hk5⟩, rfl⟩
          go_wp2_with fail
          exact ⟨⟨k + 1, by omega, by omega, by go_num, com_step HP.out (hc.out.trans (by rw [HE.out])) hd.out, hk5⟩, by simp [intOf]; omega⟩
        · have hb : ((s[k].toNat : Int) == (t[k].toNat : Int)) = false := by
            rw [beq_eq_false_iff_ne]; intro h; exact he (UInt8.toNat_inj.1 (by omega))
          have HE : Hid (comN (L s) (L t) = k) := comN_stop _ _ _ HP.out (by rw [L_size]; omega) (by rw [L_size]; omega) (.inr (.inr ⟨_, _, hc.out, hd.out, he⟩))
          clear he
          go_wp2_with fail
          refine region_kept w hkept (by kernel_rfl) (by kernel_rfl) ?_
          repeat (go_big_quiet_step (fail))
          refine wpQuiet_nil ?_
          rintro _ ⟨⟨w5, hk5⟩, rfl⟩
          go_wp2_with fail
          go_ret
          exact ⟨ret_int (by rw [HE.out]), hk5⟩
      · have n2 : decide (k < t.size) = false := decide_eq_false h2
        have HE : Hid (comN (L s) (L t) = k) := comN_stop _ _ _ HP.out (by rw [L_size]; omega) (by rw [L_size]; omega) (by rw [L_size, L_size]; omega)
        go_wp2_with fail
        refine region_kept w hkept (by kernel_rfl) (by kernel_rfl) ?_
        repeat (go_big_quiet_step (fail))
        refine wpQuiet_nil ?_
        rintro _ ⟨⟨w5, hk5⟩, rfl⟩
        go_wp2_with fail
        go_ret
        exact ⟨ret_int (by rw [HE.out]), hk5⟩
    · have n1 : decide (k < s.size) = false := decide_eq_false h1
      have HE : Hid (comN (L s) (L t) = k) := comN_stop _ _ _ HP.out (by rw [L_size]; omega) (by rw [L_size]; omega) (by rw [L_size, L_size]; omega)
      go_wp2_with fail
      refine region_kept w hkept (by kernel_rfl) (by kernel_rfl) ?_
      repeat (go_big_quiet_step (fail))
      refine wpQuiet_nil ?_
      rintro _ ⟨⟨w5, hk5⟩, rfl⟩
      go_wp2_with fail
      go_ret
      exact ⟨ret_int (by rw [HE.out]), hk5⟩

end Go.Proofs.YtelaiblhnhbgiaaDoor
