/-
  What Put and Right return: a page's bytes, or none; whether bytes are as long as a page and end in their sum.
-/
import Derived.Test.YtkcoclpbkealgaaDoorPgOut
import Derived.Test.YtkcoclpbkealgaaDoorPgTake
namespace Go.Proofs.YtkcoclpbkealgaaDoor
open Go.RowKit
set_option maxRecDepth 20000

theorem bs_append (l m : List UInt8) : bs l ++ bs m = bs (l ++ m) := eq_of_L (by rw [L_append, L_bs, L_bs, L_bs])
theorem new_of_eq {w w' : World} (h : w' = w) : New w w' := by rw [h]; exact New.refl w

set_option maxRecDepth 20000 in
set_option maxHeartbeats 2000000 in
theorem right_any (s : ByteArray) (w : World) (hT : Tab w) :
    Calls Tryd.prog 62 #[.string s] w fun e w' => e = .returned (.bool (rightB (L s))) ∧ New w w' := by
  by_cases h : s.size = 256
  · obtain ⟨t, ht⟩ : ∃ t, s.extract 0 252 = t := ⟨_, rfl⟩
    obtain ⟨u, hu⟩ : ∃ u, s.extract 252 256 = u := ⟨_, rfl⟩
    have hL : (L s).length = 256 := by rw [L_size]; exact h
    have hLt : L t = (L s).take 252 := by rw [← ht, L_extract, List.drop_zero]
    have hLu : L u = (L s).drop 252 := by rw [← hu, L_extract, List.take_of_length_le (by omega)]
    have hts : t.size = 252 := by rw [← L_size, hLt, List.length_take]; omega
    obtain ⟨v, hv⟩ : ∃ v, sumL 0 (L t) = v := ⟨_, rfl⟩
    have hvl : v < 4294967296 := by rw [← hv]; exact sumL_lt (by decide) _
    have hof : ∀ w, Tab w → Calls Tryd.prog 79 #[.string t] w fun e w' => e = .returned (.int .u32 (v : Int)) ∧ w' = w := fun w h => by
      have := of_any t (by omega) w h
      rw [hv] at this
      exact this
    have HR : Hid (rightB (L s) = (u.toList == (bs (putL v)).toList)) := by
      show _ = _
      unfold rightB
      rw [← hLt, ← hLu, hv, hL, ByteArray.toList_eq, ByteArray.toList_eq]
      rfl
    clear hv hLt hLu hL
    go_enter Tryd.func62, Tryd.ntmps62
    go_wp2_with fail
    have hne := NewW.ne w
    refine region_first 13 0 w (New.refl w) (by kernel_rfl) (by kernel_rfl) ?_
    simp only [List.take_succ_cons, List.take_zero, List.drop_succ_cons, List.drop_zero]
    repeat (go_big_quiet_step (first | (go_at_call 79; exact Calls.neww_same (hof _ (hT.after (NewW.h _)))) | (go_at_call 78; exact Calls.neww (put_any v hvl _))))
    refine wpQuiet_nil ?_
    rintro w5 ⟨⟨_, hk5⟩, rfl⟩
    go_wp2_with fail
    go_ret
    exact ⟨by rw [HR.out]; rfl, hk5⟩
  · have h1 : ((s.size : Int) == 256) = false := by rw [beq_eq_false_iff_ne]; omega
    have h2 : (s.size == 256) = false := by rw [beq_eq_false_iff_ne]; omega
    have HR : Hid (rightB (L s) = false) := rightB_false (fun h0 => h (by rw [← L_size]; exact h0.1))
    clear h
    go_enter Tryd.func62, Tryd.ntmps62
    go_wp2_with fail
    have hne := NewW.ne w
    refine region_first 13 0 w (New.refl w) (by kernel_rfl) (by kernel_rfl) ?_
    simp only [List.take_succ_cons, List.take_zero, List.drop_succ_cons, List.drop_zero]
    repeat (go_big_quiet_step (fail))
    refine wpQuiet_nil ?_
    rintro w5 ⟨⟨_, hk5⟩, rfl⟩
    go_wp2_with fail
    go_ret
    exact ⟨by rw [HR.out]; rfl, hk5⟩

end Go.Proofs.YtkcoclpbkealgaaDoor
