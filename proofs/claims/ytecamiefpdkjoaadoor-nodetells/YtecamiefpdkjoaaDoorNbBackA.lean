/-
  Packed halves unpack to themselves, whatever stands behind; what unpacks is the Pack of that: plain mathematics.
-/
import Derived.Test.YtecamiefpdkjoaaDoorNbOrdA
namespace Go.Proofs.YtecamiefpdkjoaaDoor
open Go.RowKit
set_option maxRecDepth 20000

theorem keyB_of (l : List UInt8) : keyB (ofL l) = true := by
  unfold keyB oddB
  rw [halvesB_of, ofL_length, decide_eq_false (by omega)]; rfl
theorem join_odd (x : List UInt8) : x ≠ [] → ((ofL x).getD (2 * x.length - 1) 0).toNat = 0 → joinL ((ofL x).take (2 * x.length - 1)) = x := by
  induction x with
  | nil => intro h; exact absurd rfl h
  | cons c l ih =>
    intro _ h
    cases l with
    | nil =>
      have h' : (lo c).toNat = 0 := h
      show [two (hi c) 0] = [c]
      have e : lo c = 0 := UInt8.toNat_inj.1 h'
      rw [← e, two_hi_lo]
    | cons d l =>
      have e : 2 * (c :: d :: l).length - 1 = (2 * (d :: l).length - 1) + 1 + 1 := by simp only [List.length_cons]; omega
      rw [e] at h ⊢
      have h' : ((ofL (d :: l)).getD (2 * (d :: l).length - 1) 0).toNat = 0 := h
      have := ih (by simp) h'
      show two (hi c) (lo c) :: joinL ((ofL (d :: l)).take (2 * (d :: l).length - 1)) = _
      rw [this, two_hi_lo]
theorem pack_head (n : List UInt8) (h : goodB n = true) : (UInt8.ofNat n.length).toNat = n.length := byte_of _ (by have := (goodB_parts h).1; omega)
theorem pack_length (n : List UInt8) : (packL n).length = 1 + (n.length + 1) / 2 := by unfold packL; rw [List.length_cons, joinL_length]; omega

theorem unpack_pack (n m : List UInt8) (h : goodB n = true) : unpackB (packL n ++ m) = true ∧ unN (packL n ++ m) = n ∧ unUsed (packL n ++ m) = (packL n).length := by
  have hp := goodB_parts h
  have hc := pack_head n h
  have ht : (joinL n ++ m).take ((n.length + 1) / 2) = joinL n := by
    rw [← joinL_length, List.take_left]
  have e : packL n ++ m = UInt8.ofNat n.length :: (joinL n ++ m) := rfl
  rw [e]
  refine ⟨?_, ?_, ?_⟩
  · show (headB _ _ && lastB _ _) = true
    unfold headB lastB
    rw [hc, ht, of_join n hp.2, decide_eq_true hp.1, decide_eq_true (by rw [List.length_append, joinL_length]; omega), Bool.true_and, Bool.true_and]
    by_cases ho : n.length % 2 = 1
    · rw [if_pos ho]
      have : (n ++ [0]).getD n.length 0 = (0 : UInt8) := by
        rw [List.getD_eq_getElem?_getD, List.getElem?_append_right (Nat.le_refl _), Nat.sub_self]; rfl
      rw [this]
      simp
    · unfold oddB; rw [decide_eq_false ho]; rfl
  · show (ofL ((joinL n ++ m).take (((UInt8.ofNat n.length).toNat + 1) / 2))).take (UInt8.ofNat n.length).toNat = n
    rw [hc, ht, of_join n hp.2]
    split
    · rw [List.take_left]
    · rw [List.take_length]
  · show 1 + ((UInt8.ofNat n.length).toNat + 1) / 2 = _
    rw [hc, pack_length]

theorem halvesB_take {l : List UInt8} (h : halvesB l = true) (k : Nat) : halvesB (l.take k) = true := by
  refine halvesB_good fun j c hj => ?_
  rw [List.getElem?_take] at hj
  split at hj
  · exact halvesB_get h hj
  · cases hj

theorem pack_unpack (l : List UInt8) (h : unpackB l = true) : goodB (unN l) = true ∧ packL (unN l) = l.take (unUsed l) ∧ 1 ≤ unUsed l ∧ unUsed l ≤ l.length := by
  cases l with
  | nil => cases h
  | cons c r =>
    have h' : (headB c r && lastB c r) = true := h
    unfold headB lastB at h'
    rw [Bool.and_eq_true, Bool.and_eq_true, decide_eq_true_eq, decide_eq_true_eq] at h'
    obtain ⟨⟨h16, hJ⟩, hl⟩ := h'
    have hlen : (unN (c :: r)).length = c.toNat := by
      show ((ofL (r.take ((c.toNat + 1) / 2))).take c.toNat).length = _
      rw [List.length_take, ofL_length, List.length_take]; omega
    have hj : joinL (unN (c :: r)) = r.take ((c.toNat + 1) / 2) := by
      show joinL ((ofL (r.take ((c.toNat + 1) / 2))).take c.toNat) = _
      by_cases ho : c.toNat % 2 = 1
      · have hx : (r.take ((c.toNat + 1) / 2)).length = (c.toNat + 1) / 2 := by rw [List.length_take]; omega
        have e : c.toNat = 2 * (r.take ((c.toNat + 1) / 2)).length - 1 := by rw [hx]; omega
        unfold oddB at hl
        rw [decide_eq_true ho, Bool.not_true, Bool.false_or, decide_eq_true_eq] at hl
        generalize hxx : r.take ((c.toNat + 1) / 2) = x at *
        rw [e]
        rw [e] at hl
        refine join_odd x ?_ hl
        intro h0
        rw [h0] at e
        simp at e
        omega
      · rw [List.take_of_length_le (by rw [ofL_length, List.length_take]; omega), join_of]
    refine ⟨?_, ?_, ?_, ?_⟩
    · unfold goodB
      rw [hlen, decide_eq_true h16, Bool.true_and]
      exact halvesB_take (halvesB_of _) _
    · unfold packL
      rw [hlen, hj]
      show UInt8.ofNat c.toNat :: _ = (c :: r).take (1 + (c.toNat + 1) / 2)
      rw [Nat.add_comm 1, List.take_succ_cons, UInt8.ofNat_toNat]
    · show 1 ≤ 1 + _; omega
    · show 1 + (c.toNat + 1) / 2 ≤ r.length + 1; omega

end Go.Proofs.YtecamiefpdkjoaaDoor
