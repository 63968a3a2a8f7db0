/-
  NibbleCommon's walk: whatever two texts, the call returns true, where the table of upper halves lies as its initialiser lays it.
-/
import Derived.Test.YtelaiblhnhbgiaaDoorNbKey
namespace Go.Proofs.YtelaiblhnhbgiaaDoor
open Go.RowKit
set_option maxRecDepth 20000

theorem comN_facts : ∀ l m : List UInt8, comN l m ≤ l.length ∧ comN l m ≤ m.length ∧ l.take (comN l m) = m.take (comN l m) ∧
    (comN l m = l.length ∨ comN l m = m.length ∨ ∃ a b, l[comN l m]? = some a ∧ m[comN l m]? = some b ∧ a ≠ b) := by
  intro l
  induction l with
  | nil => intro m; cases m <;> exact ⟨Nat.zero_le _, Nat.zero_le _, rfl, .inl rfl⟩
  | cons a l ih =>
    intro m
    cases m with
    | nil => exact ⟨Nat.zero_le _, Nat.zero_le _, rfl, .inr (.inl rfl)⟩
    | cons b m =>
      by_cases h : a = b
      · subst h
        have e : comN (a :: l) (a :: m) = comN l m + 1 := by show (if a = a then _ else _) = _; rw [if_pos rfl]
        rw [e]
        obtain ⟨h1, h2, h3, h4⟩ := ih m
        refine ⟨by simp only [List.length_cons]; omega, by simp only [List.length_cons]; omega, by rw [List.take_succ_cons, List.take_succ_cons, h3], ?_⟩
        rcases h4 with h | h | ⟨x, y, hx, hy, hne⟩
        · exact .inl (by simp only [List.length_cons]; omega)
        · exact .inr (.inl (by simp only [List.length_cons]; omega))
        · exact .inr (.inr ⟨x, y, hx, hy, hne⟩)
      · have e : comN (a :: l) (b :: m) = 0 := by show (if a = b then _ else _) = _; rw [if_neg h]
        rw [e]
        exact ⟨Nat.zero_le _, Nat.zero_le _, rfl, .inr (.inr ⟨a, b, rfl, rfl, h⟩)⟩
theorem comN_symm (l m : List UInt8) : comN l m = comN m l := by
  obtain ⟨h1, h2, h3, h4⟩ := comN_facts m l
  refine comN_stop l m _ h3.symm h2 h1 ?_
  rcases h4 with h | h | ⟨x, y, hx, hy, hne⟩
  · exact .inr (.inl h)
  · exact .inl h
  · exact .inr (.inr ⟨y, x, hy, hx, fun e => hne e.symm⟩)
theorem comN_self (l : List UInt8) : comN l l = l.length := comN_stop l l _ rfl (Nat.le_refl _) (Nat.le_refl _) (.inl rfl)
/-- Halves have twice as many in common, or one more. -/
theorem comN_of : ∀ l m : List UInt8, comN (ofL l) (ofL m) = 2 * comN l m ∨
    (comN (ofL l) (ofL m) = 2 * comN l m + 1 ∧ ∃ a b, l[comN l m]? = some a ∧ m[comN l m]? = some b ∧ a ≠ b ∧ hi a = hi b) := by
  intro l
  induction l with
  | nil => intro m; left; cases m <;> rfl
  | cons a l ih =>
    intro m
    cases m with
    | nil => left; rfl
    | cons b m =>
      have e0 : comN (ofL (a :: l)) (ofL (b :: m)) = if hi a = hi b then (if lo a = lo b then comN (ofL l) (ofL m) + 1 else 0) + 1 else 0 := rfl
      by_cases h : a = b
      · subst h
        have e : comN (a :: l) (a :: m) = comN l m + 1 := by show (if a = a then _ else _) = _; rw [if_pos rfl]
        rw [e0, e, if_pos rfl, if_pos rfl]
        rcases ih m with h | ⟨h, x, y, hx, hy, hne, hh⟩
        · left; omega
        · right; exact ⟨by omega, x, y, hx, hy, hne, hh⟩
      · have e : comN (a :: l) (b :: m) = 0 := by show (if a = b then _ else _) = _; rw [if_neg h]
        rw [e0, e]
        by_cases hh : hi a = hi b
        · rw [if_pos hh]
          by_cases hl : lo a = lo b
          · exact absurd (by rw [← two_hi_lo a, ← two_hi_lo b, hh, hl]) h
          · rw [if_neg hl]
            right
            exact ⟨rfl, a, b, rfl, rfl, h, hh⟩
        · rw [if_neg hh]; left; rfl

end Go.Proofs.YtelaiblhnhbgiaaDoor
