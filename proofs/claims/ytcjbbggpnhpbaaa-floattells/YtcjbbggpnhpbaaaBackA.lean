/-
  FloatBack's walk: whatever word and text, the call returns true.
-/
import Derived.Test.YtcjbbggpnhpbaaaWakes
namespace Go.Proofs.Ytcjbbggpnhpbaaa
open Go.RowKit
open Plain

set_option maxHeartbeats 400000 in
theorem bits_any (x : Nat) (w : World) :
    Calls Try.prog 13 #[.float .f64 x] w fun e w' => e = .returned (.int .u64 (x : Int)) ∧ w' = w := by
  have hf := call_bits
  go_enter Try.func13, Try.ntmps13
  go_wp2
  go_ret
  exact ⟨rfl, rfl⟩

/-- A text is no number's key, or it is one's. -/
theorem value_cases (s : ByteArray) :
    (∀ w, Calls Try.prog 9 #[.string s] w fun e w' => e = .returned (.tuple #[.float .f64 0, .bool false]) ∧ Grown w w') ∨
    (∃ f, f < 18446744073709551616 ∧ ((keyS (keyN f)).toList == s.toList) = true ∧ ((s.size : Int) == 8) = true ∧
      ∀ w, Calls Try.prog 9 #[.string s] w fun e w' => e = .returned (.tuple #[.float .f64 f, .bool true]) ∧ Grown w w') := by
  by_cases hs : s.size = 8
  · have hl := val_lt s hs
    cases hk : isKey (valL s.data.toList)
    · refine .inl fun w => ?_
      have := value_any s hs w
      simp only [hk, Bool.false_eq_true, if_false] at this
      exact this
    · refine .inr ⟨backN (valL s.data.toList), backN_lt _ hl, ?_, by rw [hs]; rfl, fun w => ?_⟩
      · rw [key_back _ hk, key_text _ s hl hs]; simp
      · have := value_any s hs w
        simp only [hk, if_true] at this
        exact this
  · exact .inl fun w => value_short s hs w

/-- What the first test of FloatBack sees of a word. -/
def Seen (x : Nat) (E Z : Bool) : Prop :=
  sameB (plainN x) x = true ∧ (FloatKind.f64.format.order x x == some Ordering.eq) = E ∧ (FloatKind.f64.format.order x 0 != some Ordering.eq) = Z ∧
  (E = true → (FloatKind.f64.format.order (plainN x) x != some Ordering.eq) = false) ∧ (E = true → Z = true → ((plainN x : Int) != (x : Int)) = false)

theorem seen (x : Nat) (hx : x < 18446744073709551616) : Seen x false true ∨ Seen x true false ∨ Seen x true true := by
  have h1 : sameB (plainN x) x = true := by unfold sameB keyN; rw [plain_plain x]; simp
  have hz := eqB_zero x hx
  unfold Seen
  simp only [f64_eq, f64_ne, eqB_self]
  cases hn : nanB x
  · have hv : eqB (plainN x) x = true := by
      unfold eqB
      rw [plain_of x hn, hn]
      by_cases h : x = 9223372036854775808
      · subst h; decide
      · rw [if_neg h, hn]; simp
    by_cases h : x = 0 ∨ x = 9223372036854775808
    · refine .inr (.inl ⟨h1, rfl, ?_, fun _ => by rw [hv]; rfl, fun _ h => by cases h⟩)
      rw [hz]; rcases h with h | h <;> simp [h]
    · refine .inr (.inr ⟨h1, rfl, ?_, fun _ => by rw [hv]; rfl, fun _ _ => ?_⟩)
      · rw [hz]; simp; omega
      · rw [plain_of x hn, if_neg (by omega)]; simp
  · refine .inl ⟨h1, rfl, ?_, (fun h => by cases h), (fun h => by cases h)⟩
    unfold eqB; rw [hn]; rfl

set_option maxHeartbeats 2000000 in
theorem back_walk (x : Nat) (s : ByteArray) (hx : x < 18446744073709551616) (w : World) :
    Calls Try.prog 5 #[.int .u64 (x : Int), .string s] w fun e w' => e = .returned (.bool true) ∧ Grown w w' := by
  have hf := call_from
  have hp := plainN_lt x hx
  have h3 := seen x hx
  unfold Seen at h3
  have hv := value_key x hx
  generalize plainN x = p at *
  have HV : Hid (∀ w, _) := hv
  clear hv
  have h2 : Hid (_ ∨ _) := value_cases s
  rcases h3 with h | h | h
  all_goals
    obtain ⟨hS, hE, hZ, hV, hD⟩ := h
    try have hV := hV rfl
    try have hD := hD rfl rfl
    try clear hD
    go_enter Try.func5, Try.ntmps5
    go_wp2_with fail
    refine (key_any _ hx _).mono ?_
    rintro e w1 ⟨rfl, g1⟩
    go_wp2_with fail
    refine (HV.out _).mono ?_
    rintro e w2 ⟨rfl, g2⟩
    go_wp2_with (first | (go_at_call 16; refine (same_any _ _ (by assumption) (by assumption) _).mono ?_; rintro e w' ⟨rfl, rfl⟩) | (go_at_call 13; refine (bits_any _ _).mono ?_; rintro e w' ⟨rfl, rfl⟩))
    rcases h2.out with hA | ⟨f, hfl, hft, hf8, hB⟩
    · refine (hA _).mono ?_
      clear hA h2
      rintro e w3 ⟨rfl, g3⟩
      go_wp2_with fail
      refine (bits_any _ _).mono ?_
      rintro e w' ⟨rfl, rfl⟩
      go_wp2_with fail
      refine (wakes_any _).mono ?_
      rintro e w4 ⟨rfl, g4⟩
      go_wp2_with fail
      go_ret
      exact ⟨rfl, Grown.trans g1 (Grown.trans g2 (Grown.trans g3 g4))⟩
    · refine (hB _).mono ?_
      clear hB h2
      rintro e w3 ⟨rfl, g3⟩
      go_wp2_with fail
      refine (key_any _ hfl _).mono ?_
      rintro e w4 ⟨rfl, g4⟩
      go_wp2_with fail
      refine (wakes_any _).mono ?_
      rintro e w5 ⟨rfl, g5⟩
      go_wp2_with fail
      go_ret
      exact ⟨rfl, Grown.trans g1 (Grown.trans g2 (Grown.trans g3 (Grown.trans g4 g5)))⟩

end Go.Proofs.Ytcjbbggpnhpbaaa
