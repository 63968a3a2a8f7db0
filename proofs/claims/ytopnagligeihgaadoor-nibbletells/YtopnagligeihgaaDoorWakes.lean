/-
  The statements' own examples (wakes) come out true, where the table of upper halves lies as its initialiser lays it.
-/
import Derived.Test.YtopnagligeihgaaDoorUnpack
namespace Go.Proofs.YtopnagligeihgaaDoor
open Go.RowKit

theorem key_a (w : World) (hT : Tab w) : Calls Tryd.prog 9 #[.string ⟨#[6, 1]⟩] w fun e w' => e = .returned (.tuple #[.string ⟨#[97]⟩, .bool true]) ∧ Kept w w' := by
  have := key_yes ⟨#[6, 1]⟩ (by decide) (by decide) w hT
  rwa [show bs (joinL (L ⟨#[6, 1]⟩)) = ⟨#[97]⟩ by decide] at this
theorem key_six (w : World) : Calls Tryd.prog 9 #[.string ⟨#[6]⟩] w fun e w' => e = .returned (.tuple #[.string (bs []), .bool false]) ∧ Kept w w' :=
  key_no ⟨#[6]⟩ (by decide) (by decide) w
theorem pack_three (w : World) (hT : Tab w) : Calls Tryd.prog 10 #[.string ⟨#[1, 2, 3]⟩] w fun e w' => e = .returned (.tuple #[.string ⟨#[3, 18, 48]⟩, .bool true]) ∧ Kept w w' := by
  have := pack_yes ⟨#[1, 2, 3]⟩ (by decide) (by decide) w hT
  rwa [show bs (packL (L ⟨#[1, 2, 3]⟩)) = ⟨#[3, 18, 48]⟩ by decide] at this
theorem unpack_three (w : World) : Calls Tryd.prog 11 #[.string ⟨#[3, 18, 48, 122, 122]⟩] w fun e w' => e = .returned (.tuple #[.string ⟨#[1, 2, 3]⟩, .int .i64 3, .bool true]) ∧ Kept w w' := by
  have := unpack_yes ⟨#[3, 18, 48, 122, 122]⟩ (by decide) (by decide) w
  rwa [show bs (unN (L ⟨#[3, 18, 48, 122, 122]⟩)) = ⟨#[1, 2, 3]⟩ by decide, show ((unUsed (L ⟨#[3, 18, 48, 122, 122]⟩) : Nat) : Int) = 3 by decide] at this
theorem unpack_bad (w : World) : Calls Tryd.prog 11 #[.string ⟨#[3, 18, 49]⟩] w fun e w' => e = .returned (.tuple #[.string (bs []), .int .i64 0, .bool false]) ∧ Kept w w' :=
  unpack_no ⟨#[3, 18, 49]⟩ (by decide) (by decide) w
theorem of_two (w : World) : Calls Tryd.prog 15 #[.string ⟨#[97, 255]⟩] w fun e w' => e = .returned (.string ⟨#[6, 1, 15, 15]⟩) ∧ Kept w w' := by
  have := of_any ⟨#[97, 255]⟩ (by decide) w
  rwa [show bs (ofL (L ⟨#[97, 255]⟩)) = ⟨#[6, 1, 15, 15]⟩ by decide] at this
theorem common_two (w : World) : Calls Tryd.prog 17 #[.string ⟨#[97, 98, 99]⟩, .string ⟨#[97, 98, 100]⟩] w fun e w' => e = .returned (.int .i64 2) ∧ Kept w w' := by
  have := common_any ⟨#[97, 98, 99]⟩ ⟨#[97, 98, 100]⟩ (by decide) (by decide) w
  rwa [show ((comN (L ⟨#[97, 98, 99]⟩) (L ⟨#[97, 98, 100]⟩) : Nat) : Int) = 2 by decide] at this
theorem good_none (w : World) : Calls Tryd.prog 19 #[.string ⟨#[]⟩] w fun e w' => e = .returned (.bool true) ∧ w' = w :=
  good_any ⟨#[]⟩ (by decide) w
theorem good_bad (w : World) : Calls Tryd.prog 19 #[.string ⟨#[16]⟩] w fun e w' => e = .returned (.bool false) ∧ w' = w := by
  have := good_any ⟨#[16]⟩ (by decide) w
  rwa [show goodB (L ⟨#[16]⟩) = false by decide] at this

set_option maxHeartbeats 1000000 in
theorem wakes_any (w : World) (hT : Tab w) : Calls Tryd.prog 8 #[] w fun e w' => e = .returned (.bool true) ∧ Kept w w' := by
  go_enter Tryd.func8, Tryd.ntmps8
  go_wp2_with fail
  refine (key_a _ hT).mono ?_
  rintro e w1 ⟨rfl, g1⟩
  go_wp2_with fail
  refine (key_six _).mono ?_
  rintro e w2 ⟨rfl, g2⟩
  go_wp2_with fail
  refine (pack_three _ ((hT.kept g1).kept g2)).mono ?_
  rintro e w3 ⟨rfl, g3⟩
  go_wp2_with fail
  refine (unpack_three _).mono ?_
  rintro e w4 ⟨rfl, g4⟩
  go_wp2_with fail
  refine (unpack_bad _).mono ?_
  rintro e w5 ⟨rfl, g5⟩
  go_wp2_with fail
  refine (of_two _).mono ?_
  rintro e w6 ⟨rfl, g6⟩
  go_wp2_with fail
  refine (common_two _).mono ?_
  rintro e w7 ⟨rfl, g7⟩
  go_wp2_with fail
  refine (good_none _).mono ?_
  rintro e w8 ⟨rfl, rfl⟩
  go_wp2_with fail
  refine (good_bad _).mono ?_
  rintro e w9 ⟨rfl, rfl⟩
  go_wp2_with fail
  go_ret
  exact ⟨rfl, g1.trans (g2.trans (g3.trans (g4.trans (g5.trans (g6.trans g7)))))⟩

end Go.Proofs.YtopnagligeihgaaDoor
