/-
  What Less, Same and the document's own bits and Rank return, for every word below 2^64, told by the numbers that the keys spell.
-/
import Derived.Test.YtcjbbggpnhpbaaaLeafA
namespace Go.Proofs.Ytcjbbggpnhpbaaa
open Go.RowKit
open Plain

/-- The number that a word's key spells. -/
def keyN (x : Nat) : Nat := turnN (plainN x)
def lessB (x y : Nat) : Bool := decide (keyN x < keyN y)
def sameB (x y : Nat) : Bool := decide (keyN x = keyN y)

theorem keyN_lt (x : Nat) (h : x < 18446744073709551616) : keyN x < 18446744073709551616 := turnN_lt _ (plainN_lt x h)

theorem key_nan (x : Nat) (hn : nanB x = true) : keyN x = 18444492273895866368 := by
  unfold keyN plainN; rw [if_pos hn]; rfl

theorem nan_bd (x : Nat) (hn : nanB x = false) : x % 9223372036854775808 ≤ 9218868437227405312 := by
  have := of_decide_eq_false hn; omega

theorem plain_of (x : Nat) (hn : nanB x = false) : plainN x = if x = 9223372036854775808 then 0 else x := by
  unfold plainN; rw [hn]; rfl

theorem key_of (x : Nat) (h : x < 18446744073709551616) (hn : nanB x = false) :
    (keyN x : Int) = if sv x < 0 then 9223372036854775807 + sv x else 9223372036854775808 + sv x := by
  have hb := nan_bd x hn
  unfold keyN
  rw [plain_of x hn]
  unfold turnN sv
  by_cases h1 : x < 9223372036854775808
  · rw [if_neg (show ¬ x = 9223372036854775808 by omega), if_pos h1, if_neg (show ¬ x / 9223372036854775808 % 2 = 1 by omega), if_neg (by omega)]; omega
  · rw [if_pos (show x / 9223372036854775808 % 2 = 1 by omega)]
    by_cases h2 : x = 9223372036854775808
    · subst h2; rfl
    · rw [if_neg h2, if_neg h1, if_pos (by omega)]; omega

theorem sv_bd (x : Nat) (hn : nanB x = false) : -9218868437227405312 ≤ sv x ∧ sv x ≤ 9218868437227405312 := by
  have hb := nan_bd x hn
  unfold sv; split <;> omega

theorem less_left_nan (x y : Nat) (hy : y < 18446744073709551616) (hn : nanB x = true) : lessB x y = false := by
  unfold lessB
  rw [key_nan x hn]
  cases h : nanB y
  · have := key_of y hy h; have := sv_bd y h
    refine decide_eq_false ?_
    split at * <;> omega
  · rw [key_nan y h]; decide
theorem less_right_nan (x y : Nat) (hx : x < 18446744073709551616) (hn : nanB x = false) (hm : nanB y = true) : lessB x y = true := by
  unfold lessB
  rw [key_nan y hm]
  have := key_of x hx hn; have := sv_bd x hn
  refine decide_eq_true ?_
  split at * <;> omega
theorem less_some (x y : Nat) (hx : x < 18446744073709551616) (hy : y < 18446744073709551616) (hn : nanB x = false) (hm : nanB y = false) : lessB x y = ltB x y := by
  unfold lessB ltB
  rw [hn, hm]
  simp only [Bool.not_false, Bool.true_and, decide_eq_decide]
  have := key_of x hx hn; have := sv_bd x hn
  have := key_of y hy hm; have := sv_bd y hm
  split at * <;> split at * <;> omega
theorem same_some (x y : Nat) (hx : x < 18446744073709551616) (hy : y < 18446744073709551616) (hn : nanB x = false) (hm : nanB y = false) : sameB x y = eqB x y := by
  unfold sameB eqB
  rw [hn, hm]
  simp only [Bool.not_false, Bool.true_and, decide_eq_decide]
  have := key_of x hx hn; have := sv_bd x hn
  have := key_of y hy hm; have := sv_bd y hm
  split at * <;> split at * <;> omega
theorem same_left_nan (x y : Nat) (hy : y < 18446744073709551616) (hn : nanB x = true) : sameB x y = nanB y := by
  unfold sameB
  rw [key_nan x hn]
  cases h : nanB y
  · have := key_of y hy h; have := sv_bd y h
    refine decide_eq_false ?_
    split at * <;> omega
  · rw [key_nan y h]; decide
theorem same_right_nan (x y : Nat) (hx : x < 18446744073709551616) (hn : nanB x = false) (hm : nanB y = true) : sameB x y = false := by
  unfold sameB
  rw [key_nan y hm]
  have := key_of x hx hn; have := sv_bd x hn
  refine decide_eq_false ?_
  split at * <;> omega

theorem ret_bool {a b : Bool} (h : a = b) : Ending.returned (.bool a) = .returned (.bool b) := by rw [h]

set_option maxHeartbeats 400000 in
theorem less_any (x y : Nat) (hx : x < 18446744073709551616) (hy : y < 18446744073709551616) (w : World) :
    Calls Try.prog 14 #[.float .f64 x, .float .f64 y] w fun e w' => e = .returned (.bool (lessB x y)) ∧ w' = w := by
  cases hn : nanB x
  · cases hm : nanB y
    · have H := less_some x y hx hy hn hm
      have H2 : Hid (_ = _) := H
      clear H
      go_enter Try.func14, Try.ntmps14
      go_wp2_with (go_at_call 26; refine (isNaN_any _ _).mono ?_; rintro e w' ⟨rfl, rfl⟩)
      go_ret
      refine ⟨ret_bool ?_, rfl⟩
      rw [H2.out, ← f64_lt]
    · have H := less_right_nan x y hx hn hm
      have H2 : Hid (_ = _) := H
      clear H
      go_enter Try.func14, Try.ntmps14
      go_wp2_with (go_at_call 26; refine (isNaN_any _ _).mono ?_; rintro e w' ⟨rfl, rfl⟩)
      go_ret
      exact ⟨ret_bool H2.out.symm, rfl⟩
  · have H := less_left_nan x y hy hn
    have H2 : Hid (_ = _) := H
    clear H
    go_enter Try.func14, Try.ntmps14
    go_wp2_with (go_at_call 26; refine (isNaN_any _ _).mono ?_; rintro e w' ⟨rfl, rfl⟩)
    go_ret
    exact ⟨ret_bool H2.out.symm, rfl⟩

set_option maxHeartbeats 400000 in
theorem same_any (x y : Nat) (hx : x < 18446744073709551616) (hy : y < 18446744073709551616) (w : World) :
    Calls Try.prog 16 #[.float .f64 x, .float .f64 y] w fun e w' => e = .returned (.bool (sameB x y)) ∧ w' = w := by
  cases hn : nanB x
  · have H : Hid (sameB x y = eqB x y) := by
      cases hm : nanB y
      · exact same_some x y hx hy hn hm
      · show _ = _
        rw [same_right_nan x y hx hn hm]; unfold eqB; rw [hm]; simp
    go_enter Try.func16, Try.ntmps16
    go_wp2_with (go_at_call 26; refine (isNaN_any _ _).mono ?_; rintro e w' ⟨rfl, rfl⟩)
    go_ret
    refine ⟨ret_bool ?_, rfl⟩
    rw [H.out, ← f64_eq]
  · have H := same_left_nan x y hy hn
    have H2 : Hid (_ = _) := H
    clear H
    go_enter Try.func16, Try.ntmps16
    go_wp2_with (go_at_call 26; refine (isNaN_any _ _).mono ?_; rintro e w' ⟨rfl, rfl⟩)
    go_ret
    exact ⟨ret_bool H2.out.symm, rfl⟩

theorem eqB_zero (x : Nat) (h : x < 18446744073709551616) : eqB x 0 = (decide (x = 0) || decide (x = 9223372036854775808)) := by
  unfold eqB nanB sv
  by_cases h0 : x = 0
  · subst h0; decide
  · by_cases h1 : x = 9223372036854775808
    · subst h1; decide
    · simp only [h0, h1, decide_false, Bool.or_false]
      have : ¬ (if x / 9223372036854775808 % 2 = 1 then -((x % 9223372036854775808 : Nat) : Int) else ((x % 9223372036854775808 : Nat) : Int)) = (if 0 / 9223372036854775808 % 2 = 1 then -((0 % 9223372036854775808 : Nat) : Int) else ((0 % 9223372036854775808 : Nat) : Int)) := by
        split <;> simp <;> omega
      simp only [this, decide_false, Bool.and_false]

theorem or_sign (x : Nat) (h : x < 9223372036854775808) : bits .or .u64 (x : Int) 9223372036854775808 = ((x + 9223372036854775808 : Nat) : Int) := by
  have := u64_or_nat x 9223372036854775808 (by omega) (by omega)
  have e : x ||| 9223372036854775808 = x + 9223372036854775808 := by
    have := Nat.two_pow_add_eq_or_of_lt (i := 63) h 1
    rw [Nat.mul_one] at this
    rw [Nat.or_comm, Nat.add_comm]; exact this.symm
  rw [e] at this
  exact this

set_option maxHeartbeats 400000 in
theorem refBits_any (x : Nat) (hx : x < 18446744073709551616) (w : World) :
    Calls Try.prog 22 #[.float .f64 x] w fun e w' => e = .returned (.int .u64 (plainN x : Nat)) ∧ w' = w := by
  have hf := call_bits
  have hz := eqB_zero x hx
  cases hn : nanB x
  · have h1 : (FloatKind.f64.format.order x x != some Ordering.eq) = false := by rw [f64_ne, eqB_self, hn]; rfl
    by_cases hs : x = 0 ∨ x = 9223372036854775808
    · have h2 : (FloatKind.f64.format.order x 0 == some Ordering.eq) = true := by
        rw [f64_eq, hz]; rcases hs with h | h <;> simp [h]
      have H : Hid (plainN x = 0) := by
        show _ = _
        unfold plainN; rw [hn, if_neg (by decide)]; split <;> omega
      clear hz hs
      go_enter Try.func22, Try.ntmps22
      go_wp2
      go_ret
      exact ⟨ret_u64 (by rw [H.out]; rfl), rfl⟩
    · have h2 : (FloatKind.f64.format.order x 0 == some Ordering.eq) = false := by
        rw [f64_eq, hz]; simp; omega
      have H : Hid (plainN x = x) := by
        show _ = _
        unfold plainN; rw [hn, if_neg (by decide)]; split <;> omega
      clear hz hs
      go_enter Try.func22, Try.ntmps22
      go_wp2
      go_ret
      exact ⟨ret_u64 (by rw [H.out]), rfl⟩
  · have h1 : (FloatKind.f64.format.order x x != some Ordering.eq) = true := by rw [f64_ne, eqB_self, hn]; rfl
    have H : Hid (plainN x = 9221120237041090560) := by
      show _ = _
      unfold plainN; rw [hn, if_pos rfl]
    clear hz
    go_enter Try.func22, Try.ntmps22
    go_wp2
    go_ret
    exact ⟨ret_u64 (by rw [H.out]; rfl), rfl⟩

theorem rank_hi (p : Nat) (hp : p < 18446744073709551616) (h : ((p : Int) / 9223372036854775808 == 1) = true) : bits .xor .u64 IntKind.u64.max (p : Int) = (turnN p : Nat) := by
  rw [not_u64 p hp]
  have h' := beq_iff_eq.1 h
  unfold turnN; rw [if_neg (by omega)]
theorem rank_lo (p : Nat) (hp : p < 18446744073709551616) (h : ((p : Int) / 9223372036854775808 == 1) = false) : bits .or .u64 (p : Int) 9223372036854775808 = (turnN p : Nat) := by
  have h' := beq_eq_false_iff_ne.1 h
  rw [or_sign p (by omega)]
  unfold turnN; rw [if_pos (by omega)]

set_option maxHeartbeats 400000 in
theorem rank_any (x : Nat) (hx : x < 18446744073709551616) (w : World) :
    Calls Try.prog 15 #[.float .f64 x] w fun e w' => e = .returned (.int .u64 (keyN x : Nat)) ∧ w' = w := by
  have hp := plainN_lt x hx
  have hk : Hid (keyN x = turnN (plainN x)) := rfl
  generalize hpe : plainN x = p at hp hk
  have HP : Hid (plainN x = p) := hpe
  clear hpe
  go_enter Try.func15, Try.ntmps15
  go_wp2_with fail
  refine (refBits_any _ hx _).mono ?_
  rintro e w' ⟨rfl, rfl⟩
  rw [HP.out]
  go_wp2_with fail
  · go_ret
    exact ⟨ret_u64 (by rw [hk.out]; exact rank_hi p hp ‹_›), rfl⟩
  · go_ret
    exact ⟨ret_u64 (by rw [hk.out]; exact rank_lo p hp ‹_›), rfl⟩

end Go.Proofs.Ytcjbbggpnhpbaaa
