/-
  What wakes returns: true, and all that lay in memory is as it was.
-/
import Derived.Test.YtoiabnehdncgjaaDoorPut
import Derived.Test.YtoiabnehdncgjaaDoorGet
namespace Go.Proofs.YtoiabnehdncgjaaDoor
open Go.RowKit

theorem sum19 : sumL 0 (L ⟨#[49, 50, 51, 52, 53, 54, 55, 56, 57]⟩) = 3808858755 := by decide +kernel
theorem sum0 : sumL 0 (L ⟨#[]⟩) = 0 := by decide +kernel
theorem sum4 : sumL (sumL 0 (L ⟨#[49, 50, 51, 52]⟩)) (L ⟨#[53, 54, 55, 56, 57]⟩) = 3808858755 := by decide +kernel
theorem put4 : bs (putL 16909060) = ⟨#[1, 2, 3, 4]⟩ := by decide +kernel
theorem get5 : beN ((L ⟨#[1, 2, 3, 4, 5]⟩).take 4) = 16909060 := by decide +kernel

set_option maxHeartbeats 2000000 in
theorem wakes_any (w : World) (hT : Tab w) :
    Calls Tryd.prog 7 #[] w fun e w' => e = .returned (.bool true) ∧ Kept w w' := by
  obtain ⟨c, hc⟩ : ∃ c, sumL 0 (L ⟨#[49, 50, 51, 52]⟩) = c := ⟨_, rfl⟩
  have hcl : c < 4294967296 := by rw [← hc]; exact sumL_lt (by decide) _
  have HC : Hid (sumL 0 (L ⟨#[49, 50, 51, 52]⟩) = c) := hc
  have h4 : Hid (sumL c (L ⟨#[53, 54, 55, 56, 57]⟩) = 3808858755) := by rw [← hc]; exact sum4
  clear hc
  go_enter Tryd.func7, Tryd.ntmps7
  go_wp2_with fail
  refine (get_core ⟨#[1, 2, 3, 4, 5]⟩ (by decide) _ get5 _).mono ?_
  rintro e w1 ⟨rfl, rfl⟩
  go_wp2_with fail
  refine (get_short ⟨#[97, 98, 99]⟩ (by decide) _).mono ?_
  rintro e w1 ⟨rfl, rfl⟩
  go_wp2_with fail
  refine (of_any _ (by decide) _ hT).mono ?_
  rintro e w1 ⟨rfl, rfl⟩
  rw [sum19]
  go_wp2_with fail
  refine (of_any _ (by decide) _ hT).mono ?_
  rintro e w1 ⟨rfl, rfl⟩
  rw [sum0]
  go_wp2_with fail
  refine (of_any _ (by decide) _ hT).mono ?_
  rintro e w1 ⟨rfl, rfl⟩
  rw [HC.out]
  go_wp2_with fail
  refine (add_core c hcl _ (by decide) _ h4 _ hT).mono ?_
  rintro e w1 ⟨rfl, rfl⟩
  go_wp2_with fail
  refine (put_any 16909060 (by decide) _).mono ?_
  rintro e w2 ⟨rfl, g⟩
  rw [put4]
  go_wp2_with fail
  go_ret
  exact ⟨rfl, g⟩

end Go.Proofs.YtoiabnehdncgjaaDoor
