/-
  The order of halves, and of packed halves of one length: plain mathematics; and NibbleOrder's walk: whatever two texts, the call returns true, where the table of upper halves lies as its initialiser lays it.
-/
import Derived.Test.YtelaiblhnhbgiaaDoorNbKey
namespace Go.Proofs.YtelaiblhnhbgiaaDoor
open Go.RowKit
set_option maxRecDepth 20000

theorem less_cons (a b : UInt8) (l m : List UInt8) : Op.bytesLess (a :: l) (b :: m) = (decide (a.toNat < b.toNat) || (decide (a.toNat = b.toNat) && Op.bytesLess l m)) := by
  show (decide (a < b) || (a == b && Op.bytesLess l m)) = _
  congr 2
  rw [Bool.eq_iff_iff, beq_iff_eq, decide_eq_true_eq, UInt8.toNat_inj]
theorem less_of : ∀ l m : List UInt8, Op.bytesLess (ofL l) (ofL m) = Op.bytesLess l m := by
  intro l
  induction l with
  | nil => intro m; cases m <;> rfl
  | cons a l ih =>
    intro m
    cases m with
    | nil => rfl
    | cons b m =>
      have e : Op.bytesLess (ofL (a :: l)) (ofL (b :: m)) = Op.bytesLess (hi a :: lo a :: ofL l) (hi b :: lo b :: ofL m) := rfl
      rw [e, less_cons, less_cons, less_cons, ih, hi_nat, hi_nat, lo_nat, lo_nat]
      generalize Op.bytesLess l m = z
      rw [Bool.eq_iff_iff]
      simp only [Bool.or_eq_true, Bool.and_eq_true, decide_eq_true_eq]
      generalize a.toNat = x
      generalize b.toNat = y
      constructor
      · rintro (h | ⟨h, h2 | ⟨h2, h3⟩⟩)
        · left; omega
        · left; omega
        · right; exact ⟨by omega, h3⟩
      · rintro (h | ⟨h, h3⟩)
        · by_cases c : x / 16 < y / 16
          · exact .inl c
          · exact .inr ⟨by omega, .inl (by omega)⟩
        · exact .inr ⟨by omega, .inr ⟨by omega, h3⟩⟩
theorem less_join (l : List UInt8) : ∀ m : List UInt8, l.length = m.length → halvesB l = true → halvesB m = true → Op.bytesLess (joinL l) (joinL m) = Op.bytesLess l m := by
  induction l using pairs with
  | h0 => intro m h _ _; cases m with
    | nil => rfl
    | cons b m => simp at h
  | h1 a =>
    intro m h hl hm
    match m, h with
    | [b], _ =>
      have ha : a.toNat < 16 := halvesB_get hl (k := 0) rfl
      have hb : b.toNat < 16 := halvesB_get hm (k := 0) rfl
      show Op.bytesLess [two a 0] [two b 0] = _
      rw [less_cons, less_cons, two_zero, two_zero]
      rw [Bool.eq_iff_iff]
      simp only [Bool.or_eq_true, Bool.and_eq_true, decide_eq_true_eq]
      constructor
      · rintro (h | ⟨_, h⟩)
        · left; omega
        · cases h
      · rintro (h | ⟨_, h⟩)
        · left; omega
        · cases h
  | h2 a b l ih =>
    intro m h hl hm
    match m, h with
    | c :: d :: m, h =>
      obtain ⟨ha, hb, hl⟩ := halvesB_cons2 hl
      obtain ⟨hc, hd, hm⟩ := halvesB_cons2 hm
      show Op.bytesLess (two a b :: joinL l) (two c d :: joinL m) = _
      rw [less_cons, less_cons, less_cons, ih m (by simpa using h) hl hm, two_nat, two_nat]
      generalize Op.bytesLess l m = z
      rw [Bool.eq_iff_iff]
      simp only [Bool.or_eq_true, Bool.and_eq_true, decide_eq_true_eq]
      generalize a.toNat = x at *
      generalize b.toNat = y at *
      generalize c.toNat = u at *
      generalize d.toNat = v at *
      constructor
      · rintro (h | ⟨h, h3⟩)
        · by_cases e : x < u
          · exact .inl e
          · exact .inr ⟨by omega, .inl (by omega)⟩
        · exact .inr ⟨by omega, .inr ⟨by omega, h3⟩⟩
      · rintro (h | ⟨h, h2 | ⟨h2, h3⟩⟩)
        · left; omega
        · left; omega
        · right; exact ⟨by omega, h3⟩
theorem goodB_parts {l : List UInt8} (h : goodB l = true) : l.length ≤ 16 ∧ halvesB l = true := by
  unfold goodB at h
  rw [Bool.and_eq_true, decide_eq_true_eq] at h
  exact h
theorem less_pack (l m : List UInt8) (h : l.length = m.length) (hl : goodB l = true) (hm : goodB m = true) : Op.bytesLess (packL l) (packL m) = Op.bytesLess l m := by
  unfold packL
  rw [less_cons, h, less_join l m h (goodB_parts hl).2 (goodB_parts hm).2]
  simp

end Go.Proofs.YtelaiblhnhbgiaaDoor
