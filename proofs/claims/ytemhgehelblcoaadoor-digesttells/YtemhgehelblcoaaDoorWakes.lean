/-
  What wakes returns: true, and all that lay in memory is as it was.
-/
import Derived.Test.YtemhgehelblcoaaDoorOf
namespace Go.Proofs.YtemhgehelblcoaaDoor
open Go.RowKit

theorem of_abc (w : World) (hT : Tab w) : Calls Tryd.prog 8 #[.string ⟨#[97, 98, 99]⟩] w fun e w' => e = .returned (.string (bs (ofL [97, 98, 99]))) ∧ Kept w w' := of_any ⟨#[97, 98, 99]⟩ (by decide) w hT
theorem of_none (w : World) (hT : Tab w) : Calls Tryd.prog 8 #[.string ⟨#[]⟩] w fun e w' => e = .returned (.string (bs (ofL []))) ∧ Kept w w' := of_any ⟨#[]⟩ (by decide) w hT
theorem hex_abc (w : World) : Calls Tryd.prog 10 #[.string (bs (ofL [97, 98, 99]))] w fun e w' => e = .returned (.string ⟨#[98, 97, 55, 56, 49, 54, 98, 102, 56, 102, 48, 49, 99, 102, 101, 97, 52, 49, 52, 49, 52, 48, 100, 101, 53, 100, 97, 101, 50, 50, 50, 51, 98, 48, 48, 51, 54, 49, 97, 51, 57, 54, 49, 55, 55, 97, 57, 99, 98, 52, 49, 48, 102, 102, 54, 49, 102, 50, 48, 48, 49, 53, 97, 100]⟩) ∧ Kept w w' := by
  have h := hex_any (bs (ofL [97, 98, 99])) (by rw [bs_size, ofL_length]; decide) w
  rw [L_bs, abc_says] at h
  exact h
theorem hex_none (w : World) : Calls Tryd.prog 10 #[.string (bs (ofL []))] w fun e w' => e = .returned (.string ⟨#[101, 51, 98, 48, 99, 52, 52, 50, 57, 56, 102, 99, 49, 99, 49, 52, 57, 97, 102, 98, 102, 52, 99, 56, 57, 57, 54, 102, 98, 57, 50, 52, 50, 55, 97, 101, 52, 49, 101, 52, 54, 52, 57, 98, 57, 51, 52, 99, 97, 52, 57, 53, 57, 57, 49, 98, 55, 56, 53, 50, 98, 56, 53, 53]⟩) ∧ Kept w w' := by
  have h := hex_any (bs (ofL [])) (by rw [bs_size, ofL_length]; decide) w
  rw [L_bs, none_says] at h
  exact h
theorem hex_two (w : World) : Calls Tryd.prog 10 #[.string ⟨#[0, 255]⟩] w fun e w' => e = .returned (.string ⟨#[48, 48, 102, 102]⟩) ∧ Kept w w' := hex_any ⟨#[0, 255]⟩ (by decide) w
theorem pad0_size : (bs (padL 0)).size = 64 := by rw [bs_size, padL_length]; decide
theorem pad56_size : (bs (padL 56)).size = 72 := by rw [bs_size, padL_length]; decide

set_option maxHeartbeats 2000000 in
theorem wakes_any (w : World) (hT : Tab w) :
    Calls Tryd.prog 7 #[] w fun e w' => e = .returned (.bool true) ∧ Kept w w' := by
  have h1 := of_abc
  have h2 := hex_abc
  have h3 := of_none
  have h4 := hex_none
  have hp0 := pad0_size
  have hp56 := pad56_size
  generalize bs (ofL [97, 98, 99]) = d1 at h1 h2
  generalize bs (ofL []) = d2 at h3 h4
  have h5 := pad_any 0 (by decide)
  have h6 := pad_any 56 (by decide)
  generalize bs (padL 0) = p0 at h5 hp0
  generalize bs (padL 56) = p1 at h6 hp56
  have H1 : Hid (∀ w : World, Tab w → Calls Tryd.prog 8 #[.string ⟨#[97, 98, 99]⟩] w fun e w' => e = .returned (.string d1) ∧ Kept w w') := h1
  clear h1
  go_enter Tryd.func7, Tryd.ntmps7
  go_wp2_with fail
  refine (H1.out _ hT).mono ?_
  rintro _ w1 ⟨rfl, k1⟩
  go_wp2_with fail
  refine (h2 _).mono ?_
  rintro _ w2 ⟨rfl, k2⟩
  go_wp2_with fail
  refine (h3 _ ((hT.kept k1).kept k2)).mono ?_
  rintro _ w3 ⟨rfl, k3⟩
  go_wp2_with fail
  refine (h4 _).mono ?_
  rintro _ w4 ⟨rfl, k4⟩
  go_wp2_with fail
  refine (h5 _).mono ?_
  rintro _ w5 ⟨rfl, k5⟩
  go_wp2_with fail
  refine (h6 _).mono ?_
  rintro _ w6 ⟨rfl, k6⟩
  go_wp2_with fail
  refine (hex_two _).mono ?_
  rintro _ w7 ⟨rfl, k7⟩
  go_wp2_with fail
  go_ret
  exact ⟨rfl, k1.trans (k2.trans (k3.trans (k4.trans (k5.trans (k6.trans k7)))))⟩

end Go.Proofs.YtemhgehelblcoaaDoor
