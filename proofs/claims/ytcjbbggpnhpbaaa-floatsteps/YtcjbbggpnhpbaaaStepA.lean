/-
  What IsInf, Copysign and Nextafter of the library return where FloatSteps calls them; and what the next number's key is.
-/
import Derived.Test.YtcjbbggpnhpbaaaWakes
namespace Go.Proofs.Ytcjbbggpnhpbaaa
open Go.RowKit
open Plain

set_option maxHeartbeats 400000 in
theorem isInf_any (x : Nat) (w : World) :
    Calls Try.prog 18 #[.float .f64 x, .int .i64 1] w fun e w' => e = .returned (.bool (ltB 9218868437227405311 x)) ∧ w' = w := by
  go_enter Try.func18, Try.ntmps18
  go_wp2
  go_ret
  refine ⟨ret_bool ?_, rfl⟩
  rw [← f64_gt]

set_option maxHeartbeats 400000 in
theorem copysign_one (w : World) :
    Calls Try.prog 29 #[.float .f64 1, .float .f64 9218868437227405312] w fun e w' => e = .returned (.float .f64 1) ∧ w' = w := by
  have hf := call_from
  have hb := call_bits
  go_enter Try.func29, Try.ntmps29
  go_wp2
  go_ret
  exact ⟨rfl, rfl⟩

/-- The next number towards the positive infinity. -/
def nextN (x : Nat) : Nat := if x = 0 ∨ x = 9223372036854775808 then 1 else if x < 9223372036854775808 then x + 1 else x - 1

theorem not_inf (x : Nat) (hi : ltB 9218868437227405311 x = false) : x ≠ 9218868437227405312 := by
  rintro rfl; exact absurd hi (by decide)

theorem sv_word (x : Nat) (hx : x < 18446744073709551616) : sv x = if x < 9223372036854775808 then (x : Int) else 9223372036854775808 - (x : Int) := by
  unfold sv; split <;> split <;> omega

theorem ret_flt {a b : Nat} (h : a = b) : Ending.returned (.float .f64 a) = .returned (.float .f64 b) := by rw [h]

set_option maxHeartbeats 1000000 in
theorem next_any (x : Nat) (hx : x < 18446744073709551616) (hn : nanB x = false) (hi : x ≠ 9218868437227405312) (w : World) :
    Calls Try.prog 19 #[.float .f64 x, .float .f64 9218868437227405312] w fun e w' => e = .returned (.float .f64 (nextN x)) ∧ w' = w := by
  have hf := call_from
  have hb := call_bits
  have hni : nanB 9218868437227405312 = false := by decide
  have hs := sv_word x hx
  have hbd := nan_bd x hn
  have hsi : sv 9218868437227405312 = 9218868437227405312 := by decide
  have hs0 : sv 0 = 0 := by decide
  have hn0 : nanB 0 = false := by decide
  have h1 : (FloatKind.f64.format.order x 9218868437227405312 == some Ordering.eq) = false := by
    rw [f64_eq]; unfold eqB; rw [hn, hni, hsi]; simp only [Bool.not_false, Bool.true_and, decide_eq_false_iff_not]; rw [hs]; split <;> omega
  have h2 : (FloatKind.f64.format.order x 0 == some Ordering.eq) = (decide (x = 0) || decide (x = 9223372036854775808)) := by rw [f64_eq]; exact eqB_zero x hx
  have h3 : (FloatKind.f64.format.order 9218868437227405312 x == some Ordering.gt) = true := by
    rw [f64_gt]; unfold ltB; rw [hn, hni, hsi]; simp only [Bool.not_false, Bool.true_and, decide_eq_true_eq]; rw [hs]; split <;> omega
  have h4 : (FloatKind.f64.format.order x 0 == some Ordering.gt) = decide (0 < x ∧ x < 9223372036854775808) := by
    rw [f64_gt]; unfold ltB; rw [hn, hn0, hs0]; simp only [Bool.not_false, Bool.true_and, decide_eq_decide]; rw [hs]; split <;> omega
  clear hs hsi hs0 hn0
  by_cases hz : x = 0 ∨ x = 9223372036854775808
  · have h2' : (FloatKind.f64.format.order x 0 == some Ordering.eq) = true := by rw [h2]; rcases hz with h | h <;> simp [h]
    have HN : Hid (nextN x = 1) := by show _ = _; unfold nextN; rw [if_pos hz]
    clear h2 h3 h4 hz hbd hi
    go_enter Try.func19, Try.ntmps19
    go_wp2_with (first | (go_at_call 26; refine (isNaN_any _ _).mono ?_; rintro e w' ⟨rfl, rfl⟩) | (go_at_call 29; refine (copysign_one _).mono ?_; rintro e w' ⟨rfl, rfl⟩))
    go_ret
    exact ⟨ret_flt HN.out.symm, rfl⟩
  · have h2' : (FloatKind.f64.format.order x 0 == some Ordering.eq) = false := by rw [h2]; simp; omega
    by_cases hp : x < 9223372036854775808
    · have h4' : (FloatKind.f64.format.order x 0 == some Ordering.gt) = true := by rw [h4]; simp; omega
      have HN : Hid (nextN x = x + 1) := by show _ = _; unfold nextN; rw [if_neg hz, if_pos hp]
      clear h2 h4 hz hi
      go_enter Try.func19, Try.ntmps19
      go_wp2_with (first | (go_at_call 26; refine (isNaN_any _ _).mono ?_; rintro e w' ⟨rfl, rfl⟩))
      go_ret
      refine ⟨ret_flt ?_, rfl⟩
      rw [HN.out]
    · have h4' : (FloatKind.f64.format.order x 0 == some Ordering.gt) = false := by rw [h4]; simp; omega
      have HN : Hid (nextN x = x - 1) := by show _ = _; unfold nextN; rw [if_neg hz, if_neg hp]
      clear h2 h4 hz hi
      go_enter Try.func19, Try.ntmps19
      go_wp2_with (first | (go_at_call 26; refine (isNaN_any _ _).mono ?_; rintro e w' ⟨rfl, rfl⟩))
      go_ret
      refine ⟨ret_flt ?_, rfl⟩
      rw [HN.out]

theorem next_lt (x : Nat) (hx : x < 18446744073709551616) : nextN x < 18446744073709551616 := by
  unfold nextN; split
  · omega
  · split <;> omega
theorem next_nan (x : Nat) (hx : x < 18446744073709551616) (hn : nanB x = false) (hi : x ≠ 9218868437227405312) : nanB (nextN x) = false := by
  have hb := nan_bd x hn
  refine decide_eq_false ?_
  unfold nextN; split
  · omega
  · split <;> omega
theorem key_word (x : Nat) (hn : nanB x = false) : keyN x = if x < 9223372036854775808 then x + 9223372036854775808 else if x = 9223372036854775808 then 9223372036854775808 else 18446744073709551615 - x := by
  unfold keyN
  rw [plain_of x hn]
  unfold turnN
  by_cases h : x = 9223372036854775808
  · subst h; decide
  · rw [if_neg h]; split <;> rfl
/-- The next number's key. -/
theorem next_key (x : Nat) (hx : x < 18446744073709551616) (hn : nanB x = false) (hi : x ≠ 9218868437227405312) : keyN (nextN x) = keyN x + if eqB (nextN x) 0 = true then 2 else 1 := by
  have hb := nan_bd x hn
  rw [eqB_zero _ (next_lt x hx), key_word x hn, key_word _ (next_nan x hx hn hi)]
  simp only [Bool.or_eq_true, decide_eq_true_eq]
  unfold nextN
  by_cases hz : x = 0 ∨ x = 9223372036854775808
  · simp only [if_pos hz]
    rcases hz with rfl | rfl <;> decide
  · simp only [if_neg hz]
    by_cases hp : x < 9223372036854775808
    · simp only [if_pos hp]
      repeat' split
      all_goals omega
    · simp only [if_neg hp]
      rw [if_neg (show ¬ x = 9223372036854775808 by omega)]
      by_cases hq : x = 9223372036854775809
      · subst hq; decide
      · repeat' split
        all_goals omega

end Go.Proofs.Ytcjbbggpnhpbaaa
