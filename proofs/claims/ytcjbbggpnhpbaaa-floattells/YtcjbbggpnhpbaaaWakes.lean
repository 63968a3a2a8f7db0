/-
  The statements' own examples (wakes) come out true, whatever the world.
-/
import Derived.Test.YtcjbbggpnhpbaaaValue
namespace Go.Proofs.Ytcjbbggpnhpbaaa
open Go.RowKit
open Plain

theorem value_two (w : World) : Calls Try.prog 9 #[.string ⟨#[192, 0, 0, 0, 0, 0, 0, 0]⟩] w fun e w' => e = .returned (.tuple #[.float .f64 4611686018427387904, .bool true]) ∧ Grown w w' :=
  value_core ⟨#[192, 0, 0, 0, 0, 0, 0, 0]⟩ rfl 13835058055282163712 (by show _ = _; decide) (by decide) true (by show _ = _; decide) w
theorem value_none (w : World) : Calls Try.prog 9 #[.string ⟨#[127, 255, 255, 255, 255, 255, 255, 255]⟩] w fun e w' => e = .returned (.tuple #[.float .f64 0, .bool false]) ∧ Grown w w' :=
  value_core ⟨#[127, 255, 255, 255, 255, 255, 255, 255]⟩ rfl 9223372036854775807 (by show _ = _; decide) (by decide) false (by show _ = _; decide) w
theorem key_nought (w : World) : Calls Try.prog 11 #[.float .f64 0] w fun e w' => e = .returned (.string ⟨#[128, 0, 0, 0, 0, 0, 0, 0]⟩) ∧ Grown w w' :=
  key_core 0 9223372036854775808 (by decide) (by show _ = _; decide) (by decide) w
theorem key_minus (w : World) : Calls Try.prog 11 #[.float .f64 9223372036854775808] w fun e w' => e = .returned (.string ⟨#[128, 0, 0, 0, 0, 0, 0, 0]⟩) ∧ Grown w w' :=
  key_core 9223372036854775808 9223372036854775808 (by decide) (by show _ = _; decide) (by decide) w
theorem key_none (w : World) : Calls Try.prog 11 #[.float .f64 9221120237041090561] w fun e w' => e = .returned (.string ⟨#[255, 248, 0, 0, 0, 0, 0, 0]⟩) ∧ Grown w w' :=
  key_core 9221120237041090561 18444492273895866368 (by decide) (by show _ = _; decide) (by decide) w
theorem value_nan (w : World) : Calls Try.prog 9 #[.string ⟨#[255, 248, 0, 0, 0, 0, 0, 0]⟩] w fun e w' => e = .returned (.tuple #[.float .f64 9221120237041090560, .bool true]) ∧ Grown w w' :=
  value_core ⟨#[255, 248, 0, 0, 0, 0, 0, 0]⟩ rfl 18444492273895866368 (by show _ = _; decide) (by decide) true (by show _ = _; decide) w
theorem less_one (w : World) : Calls Try.prog 14 #[.float .f64 18442240474082181120, .float .f64 13830554455654793216] w fun e w' => e = .returned (.bool true) ∧ w' = w := by
  have := less_any 18442240474082181120 13830554455654793216 (by decide) (by decide) w
  rwa [show lessB 18442240474082181120 13830554455654793216 = true by decide] at this
theorem less_two (w : World) : Calls Try.prog 14 #[.float .f64 9218868437227405312, .float .f64 9221120237041090561] w fun e w' => e = .returned (.bool true) ∧ w' = w := by
  have := less_any 9218868437227405312 9221120237041090561 (by decide) (by decide) w
  rwa [show lessB 9218868437227405312 9221120237041090561 = true by decide] at this
theorem less_nans (w : World) : Calls Try.prog 14 #[.float .f64 9221120237041090561, .float .f64 9221120237041090561] w fun e w' => e = .returned (.bool false) ∧ w' = w := by
  have := less_any 9221120237041090561 9221120237041090561 (by decide) (by decide) w
  rwa [show lessB 9221120237041090561 9221120237041090561 = false by decide] at this
theorem same_nans (w : World) : Calls Try.prog 16 #[.float .f64 9221120237041090561, .float .f64 9221120237041090561] w fun e w' => e = .returned (.bool true) ∧ w' = w := by
  have := same_any 9221120237041090561 9221120237041090561 (by decide) (by decide) w
  rwa [show sameB 9221120237041090561 9221120237041090561 = true by decide] at this
theorem same_noughts (w : World) : Calls Try.prog 16 #[.float .f64 0, .float .f64 9223372036854775808] w fun e w' => e = .returned (.bool true) ∧ w' = w := by
  have := same_any 0 9223372036854775808 (by decide) (by decide) w
  rwa [show sameB 0 9223372036854775808 = true by decide] at this

theorem neg_nought : Op.unary .neg (.float .f64 0) = pure (.float .f64 9223372036854775808) := rfl
theorem two_two : (FloatKind.f64.format.order 4611686018427387904 4611686018427387904 == some Ordering.eq) = true := by rw [f64_eq]; decide
theorem nan_nan : (FloatKind.f64.format.order 9221120237041090560 9221120237041090560 != some Ordering.eq) = true := by rw [f64_ne]; decide

set_option maxHeartbeats 1000000 in
theorem wakes_any (w : World) : Calls Try.prog 17 #[] w fun e w' => e = .returned (.bool true) ∧ Grown w w' := by
  have hn := neg_nought
  have h2 := two_two
  have h3 := nan_nan
  go_enter Try.func17, Try.ntmps17
  go_wp2_with fail
  refine (value_two _).mono ?_
  rintro e w1 ⟨rfl, g1⟩
  go_wp2_with fail
  refine (nan_any _).mono ?_
  rintro e w' ⟨rfl, rfl⟩
  go_wp2_with fail
  refine (key_none _).mono ?_
  rintro e w2 ⟨rfl, g2⟩
  go_wp2_with fail
  refine (value_nan _).mono ?_
  rintro e w3 ⟨rfl, g3⟩
  go_wp2_with fail
  refine (value_none _).mono ?_
  rintro e w4 ⟨rfl, g4⟩
  go_wp2_with fail
  refine (key_nought _).mono ?_
  rintro e w5 ⟨rfl, g5⟩
  go_wp2_with fail
  refine (key_minus _).mono ?_
  rintro e w6 ⟨rfl, g6⟩
  go_wp2_with fail
  refine (key_nought _).mono ?_
  rintro e w7 ⟨rfl, g7⟩
  go_wp2_with fail
  refine (inf_neg _).mono ?_
  rintro e w' ⟨rfl, rfl⟩
  go_wp2_with fail
  refine (less_one _).mono ?_
  rintro e w' ⟨rfl, rfl⟩
  go_wp2_with fail
  refine (inf_pos _).mono ?_
  rintro e w' ⟨rfl, rfl⟩
  go_wp2_with fail
  refine (nan_any _).mono ?_
  rintro e w' ⟨rfl, rfl⟩
  go_wp2_with fail
  refine (less_two _).mono ?_
  rintro e w' ⟨rfl, rfl⟩
  go_wp2_with fail
  refine (nan_any _).mono ?_
  rintro e w' ⟨rfl, rfl⟩
  go_wp2_with fail
  refine (nan_any _).mono ?_
  rintro e w' ⟨rfl, rfl⟩
  go_wp2_with fail
  refine (less_nans _).mono ?_
  rintro e w' ⟨rfl, rfl⟩
  go_wp2_with fail
  refine (nan_any _).mono ?_
  rintro e w' ⟨rfl, rfl⟩
  go_wp2_with fail
  refine (nan_any _).mono ?_
  rintro e w' ⟨rfl, rfl⟩
  go_wp2_with fail
  refine (same_nans _).mono ?_
  rintro e w' ⟨rfl, rfl⟩
  go_wp2_with fail
  refine (same_noughts _).mono ?_
  rintro e w' ⟨rfl, rfl⟩
  go_wp2_with fail
  go_ret
  exact ⟨rfl, Grown.trans g1 (Grown.trans g2 (Grown.trans g3 (Grown.trans g4 (Grown.trans g5 (Grown.trans g6 g7)))))⟩

end Go.Proofs.Ytcjbbggpnhpbaaa
