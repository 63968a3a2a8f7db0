/-
  What Put and Right return: a page's bytes, or none; whether bytes are as long as a page and end in their sum.
-/
import Derived.Test.YtlbnikkpfhclgaaDoorText
import Derived.Test.YtlbnikkpfhclgaaDoorEq
namespace Go.Proofs.YtlbnikkpfhclgaaDoor
open Go.RowKit

theorem bs_append (l m : List UInt8) : bs l ++ bs m = bs (l ++ m) := eq_of_L (by rw [L_append, L_bs, L_bs, L_bs])
theorem new_of_eq {w w' : World} (h : w' = w) : New w w' := by rw [h]; exact New.refl w

set_option maxRecDepth 20000 in
set_option maxHeartbeats 2000000 in
theorem put_yes (k n g : Nat) (hk1 : 1 ≤ k) (hk2 : k < 256) (hn : n < 65536) (hg : g < 2147483648) (s : ByteArray) (hs : s.size ≤ 243) (w : World) (hT : Tab w) :
    Calls Tryd.prog 7 #[.agg #[.int .i64 (k : Int), .int .i64 (g : Int), .string s], .int .i64 (n : Int)] w fun e w' => e = .returned (.tuple #[.string (bs (pageB (frOf k n g (L s)))), .bool true]) ∧ New w w' := by
  have hO : (frOf k n g (L s)).Ok := frOf_ok hk2 hn (by omega) (by rw [L_size]; exact hs)
  have hc := fun w => frameOf_yes k n g hk1 hk2 hn hg s hs w
  obtain ⟨f, hf⟩ : ∃ f, frOf k n g (L s) = f := ⟨_, rfl⟩
  rw [hf] at hO hc
  have HF : Hid (frOf k n g (L s) = f) := hf
  have hp := hO.p
  have htx := fun w => text_any f hO w
  obtain ⟨t, ht⟩ : ∃ t, f.text = t := ⟨_, rfl⟩
  rw [ht] at htx
  have hts : (bs t).size = 252 := by rw [bs_size, ← ht, Fr.text_length hp]
  have htl : (bs t).size ≤ 140737488351232 := by omega
  obtain ⟨v, hv⟩ : ∃ v, sumL 0 t = v := ⟨_, rfl⟩
  have hvl : v < 4294967296 := by rw [← hv]; exact sumL_lt (by decide) _
  have HP : Hid (pageB f = t ++ putL v) := by show _ = _; unfold pageB; rw [ht, hv]
  have hof : ∀ w, Tab w → Calls Tryd.prog 16 #[.string (bs t)] w fun e w' => e = .returned (.int .u32 (v : Int)) ∧ w' = w := fun w h => by
    have := of_any (bs t) htl w h
    rw [L_bs, hv] at this
    exact this
  clear hf ht hv
  go_enter Tryd.func7, Tryd.ntmps7
  go_wp2_with (first
    | (refine wpList_box_at (by rfl) 2 (by rfl) 23 _ (by rfl) _ (by rfl) ?_; intro W1 R1 N1)
    | refine wpList_load_row (by rfl) 23 _ (by rfl) w.heap.size (by rfl) 23 _ (0, 0) _ R1 Tryd.underlying23 rfl i23 ?_)
  refine (hc _).mono ?_
  rintro _ W2 ⟨rfl, N2⟩
  go_wp2_with (first
    | (refine wpList_alloc_at (by rfl) 6 (by rfl) 46 (by rfl) _ _ _ info46 ?_; intro W3 R3 N3)
    | (refine wpList_store_new (by rfl) 46 _ _ (by rfl) W2.heap.size (frL f).toArray (by rfl) (by rfl) 46 (frL noFr).toArray R3 (f46 hp) (same46 zeros_length hp) (frL_all _) ?_; intro W4 R4 B4)
    | refine wpList_load_row (by rfl) 46 _ (by rfl) W2.heap.size (by rfl) 46 _ (0, 0) _ R4 Tryd.underlying46 rfl (f46 hp) ?_)
  refine (htx _).mono ?_
  rintro _ W5 ⟨rfl, N5⟩
  have l2 := N2.size
  have l1 := N1.size
  have N4 : New w W4 := B4.new ((N1.trans N2).trans N3) (by omega)
  have T5 := hT.after (N4.trans N5)
  go_wp2_with fail
  refine (hof _ T5).mono ?_
  rintro _ w6 ⟨rfl, rfl⟩
  go_wp2_with fail
  refine (put_any v hvl _).mono ?_
  rintro _ W7 ⟨rfl, N7⟩
  have z4 : (bs (putL v)).size = 4 := rfl
  go_wp2_with fail
  go_ret2
  exact ⟨by rw [HF.out, HP.out, ← bs_append]; rfl, (N4.trans N5).trans N7⟩

set_option maxRecDepth 20000 in
set_option maxHeartbeats 2000000 in
theorem put_no (k a g : Int) (s : ByteArray) (h : ¬ Fits k a g (s.size : Int)) (w : World) :
    Calls Tryd.prog 7 #[.agg #[.int .i64 k, .int .i64 g, .string s], .int .i64 a] w fun e w' => e = .returned (.tuple #[.string ⟨#[]⟩, .bool false]) ∧ New w w' := by
  have hc := fun w => frameOf_no k a g s h w
  go_enter Tryd.func7, Tryd.ntmps7
  go_wp2_with (first
    | (refine wpList_box_at (by rfl) 2 (by rfl) 23 _ (by rfl) _ (by rfl) ?_; intro W1 R1 N1)
    | refine wpList_load_row (by rfl) 23 _ (by rfl) w.heap.size (by rfl) 23 _ (0, 0) _ R1 Tryd.underlying23 rfl i23 ?_)
  refine (hc _).mono ?_
  rintro _ W2 ⟨rfl, N2⟩
  go_wp2_with (first
    | (refine wpList_alloc_at (by rfl) 6 (by rfl) 46 (by rfl) _ _ _ info46 ?_; intro W3 R3 N3)
    | (refine wpList_store_new (by rfl) 46 _ _ (by rfl) W2.heap.size (frL noFr).toArray (by rfl) (by rfl) 46 (frL noFr).toArray R3 (f46 zeros_length) rfl (frL_all _) ?_; intro W4 R4 B4))
  go_ret2
  have l2 := N2.size
  have l1 := N1.size
  exact ⟨rfl, B4.new ((N1.trans N2).trans N3) (by omega)⟩

set_option maxRecDepth 20000 in
set_option maxHeartbeats 2000000 in
theorem right_any (s : ByteArray) (w : World) (hT : Tab w) :
    Calls Tryd.prog 11 #[.string s] w fun e w' => e = .returned (.bool (rightB (L s))) ∧ New w w' := by
  by_cases h : s.size = 256
  · obtain ⟨t, ht⟩ : ∃ t, s.extract 0 252 = t := ⟨_, rfl⟩
    obtain ⟨u, hu⟩ : ∃ u, s.extract 252 256 = u := ⟨_, rfl⟩
    have hL : (L s).length = 256 := by rw [L_size]; exact h
    have hLt : L t = (L s).take 252 := by rw [← ht, L_extract, List.drop_zero]
    have hLu : L u = (L s).drop 252 := by rw [← hu, L_extract, List.take_of_length_le (by omega)]
    have hts : t.size = 252 := by rw [← L_size, hLt, List.length_take]; omega
    obtain ⟨v, hv⟩ : ∃ v, sumL 0 (L t) = v := ⟨_, rfl⟩
    have hvl : v < 4294967296 := by rw [← hv]; exact sumL_lt (by decide) _
    have hof : ∀ w, Tab w → Calls Tryd.prog 16 #[.string t] w fun e w' => e = .returned (.int .u32 (v : Int)) ∧ w' = w := fun w h => by
      have := of_any t (by omega) w h
      rw [hv] at this
      exact this
    have HR : Hid (rightB (L s) = (u.toList == (bs (putL v)).toList)) := by
      show _ = _
      unfold rightB
      rw [← hLt, ← hLu, hv, hL, ByteArray.toList_eq, ByteArray.toList_eq]
      rfl
    clear hv hLt hLu hL
    go_enter Tryd.func11, Tryd.ntmps11
    go_wp2_with fail
    have hne := NewW.ne w
    refine region_first 13 0 w (New.refl w) (by kernel_rfl) (by kernel_rfl) ?_
    simp only [List.take_succ_cons, List.take_zero, List.drop_succ_cons, List.drop_zero]
    repeat (go_big_quiet_step (first | (go_at_call 16; exact Calls.neww_same (hof _ (hT.after (NewW.h _)))) | (go_at_call 15; exact Calls.neww (put_any v hvl _))))
    refine wpQuiet_nil ?_
    rintro w5 ⟨⟨_, hk5⟩, rfl⟩
    go_wp2_with fail
    go_ret
    exact ⟨by rw [HR.out]; rfl, hk5⟩
  · have h1 : ((s.size : Int) == 256) = false := by rw [beq_eq_false_iff_ne]; omega
    have h2 : (s.size == 256) = false := by rw [beq_eq_false_iff_ne]; omega
    have HR : Hid (rightB (L s) = false) := rightB_false (fun h0 => h (by rw [← L_size]; exact h0.1))
    clear h
    go_enter Tryd.func11, Tryd.ntmps11
    go_wp2_with fail
    have hne := NewW.ne w
    refine region_first 13 0 w (New.refl w) (by kernel_rfl) (by kernel_rfl) ?_
    simp only [List.take_succ_cons, List.take_zero, List.drop_succ_cons, List.drop_zero]
    repeat (go_big_quiet_step (fail))
    refine wpQuiet_nil ?_
    rintro w5 ⟨⟨_, hk5⟩, rfl⟩
    go_wp2_with fail
    go_ret
    exact ⟨by rw [HR.out]; rfl, hk5⟩

end Go.Proofs.YtlbnikkpfhclgaaDoor
