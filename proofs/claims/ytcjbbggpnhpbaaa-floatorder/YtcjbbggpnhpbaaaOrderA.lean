/-
  FloatOrder's walk: whatever two words, the call returns true.
-/
import Derived.Test.YtcjbbggpnhpbaaaWakes
namespace Go.Proofs.Ytcjbbggpnhpbaaa
open Go.RowKit
open Plain

/-- The six ways in which two numbers stand to each other, as the program's tests see them. -/
def Ways (x y : Nat) (A B S L E N M : Bool) : Prop :=
  lessB x y = A ∧ lessB y x = B ∧ sameB x y = S ∧ (FloatKind.f64.format.order x y == some Ordering.lt) = L ∧ (FloatKind.f64.format.order x y == some Ordering.eq) = E ∧ (FloatKind.f64.format.order x x != some Ordering.eq) = N ∧ (FloatKind.f64.format.order y y == some Ordering.eq) = M

theorem ways (x y : Nat) (hx : x < 18446744073709551616) (hy : y < 18446744073709551616) :
    Ways x y false false true false false true false ∨ Ways x y false true false false false true true ∨ Ways x y true false false false false false false ∨
    Ways x y true false false true false false true ∨ Ways x y false false true false true false true ∨ Ways x y false true false false false false true := by
  unfold Ways
  simp only [f64_lt, f64_eq, f64_ne, eqB_self]
  cases hn : nanB x <;> cases hm : nanB y
  · have e1 := less_some x y hx hy hn hm
    have e2 := less_some y x hy hx hm hn
    have e3 := same_some x y hx hy hn hm
    rw [e1, e2, e3]
    unfold ltB eqB
    rw [hn, hm]
    simp only [Bool.not_false, Bool.true_and, decide_eq_true_eq, decide_eq_false_iff_not, Bool.not_true]
    rcases Int.lt_trichotomy (sv x) (sv y) with h | h | h
    · refine .inr (.inr (.inr (.inl ?_)))
      refine ⟨?_, ?_, ?_, ?_, ?_, ?_, ?_⟩ <;> first | trivial | omega
    · refine .inr (.inr (.inr (.inr (.inl ?_))))
      refine ⟨?_, ?_, ?_, ?_, ?_, ?_, ?_⟩ <;> first | trivial | omega
    · refine .inr (.inr (.inr (.inr (.inr ?_))))
      refine ⟨?_, ?_, ?_, ?_, ?_, ?_, ?_⟩ <;> first | trivial | omega
  · refine .inr (.inr (.inl ?_))
    refine ⟨less_right_nan x y hx hn hm, less_left_nan y x hx hm, same_right_nan x y hx hn hm, ?_, ?_, ?_, ?_⟩
    · unfold ltB; rw [hm]; simp
    · unfold eqB; rw [hm]; simp
    · rfl
    · rfl
  · refine .inr (.inl ?_)
    refine ⟨less_left_nan x y hy hn, less_right_nan y x hy hm hn, by rw [same_left_nan x y hy hn, hm], ?_, ?_, ?_, ?_⟩
    · unfold ltB; rw [hn]; simp
    · unfold eqB; rw [hn]; simp
    · rfl
    · rfl
  · refine .inl ?_
    refine ⟨less_left_nan x y hy hn, less_left_nan y x hx hm, by rw [same_left_nan x y hy hn, hm], ?_, ?_, ?_, ?_⟩
    · unfold ltB; rw [hn]; simp
    · unfold eqB; rw [hn]; simp
    · rfl
    · rfl

theorem text_less (x y : Nat) (hx : x < 18446744073709551616) (hy : y < 18446744073709551616) : Op.bytesLess (keyS (keyN x)).toList (keyS (keyN y)).toList = lessB x y := key_less _ _ (keyN_lt x hx) (keyN_lt y hy)
theorem text_same (x y : Nat) (hx : x < 18446744073709551616) (hy : y < 18446744073709551616) : ((keyS (keyN x)).toList == (keyS (keyN y)).toList) = sameB x y := key_same _ _ (keyN_lt x hx) (keyN_lt y hy)

set_option maxHeartbeats 2000000 in
theorem order_walk (x y : Nat) (hx : x < 18446744073709551616) (hy : y < 18446744073709551616) (w : World) :
    Calls Try.prog 4 #[.int .u64 (x : Int), .int .u64 (y : Int)] w fun e w' => e = .returned (.bool true) ∧ Grown w w' := by
  have hf := call_from
  have hsz := keyS_size
  have hl := text_less x y hx hy
  have hs := text_same x y hx hy
  rcases ways x y hx hy with h | h | h | h | h | h
  all_goals
    obtain ⟨hA, hB, hS, hL, hE, hN, hM⟩ := h
    rw [hA] at hl
    rw [hS] at hs
    go_enter Try.func4, Try.ntmps4
    go_wp2_with fail
    refine (key_any _ hx _).mono ?_
    rintro e w1 ⟨rfl, g1⟩
    go_wp2_with fail
    refine (key_any _ hy _).mono ?_
    rintro e w2 ⟨rfl, g2⟩
    go_wp2_with (first | (go_at_call 14; refine (less_any _ _ (by assumption) (by assumption) _).mono ?_; rintro e w' ⟨rfl, rfl⟩) | (go_at_call 16; refine (same_any _ _ (by assumption) (by assumption) _).mono ?_; rintro e w' ⟨rfl, rfl⟩))
    refine (wakes_any _).mono ?_
    rintro e w3 ⟨rfl, g3⟩
    go_wp2_with fail
    go_ret
    exact ⟨rfl, Grown.trans g1 (Grown.trans g2 g3)⟩

end Go.Proofs.Ytcjbbggpnhpbaaa
