/-
  What the reference's Decode reads out of a text; of an Item's text: that Item.
-/
import Derived.Test.YtecamiefpdkjoaaDoorREncB
namespace Go.Proofs.YtecamiefpdkjoaaDoor
open Go.RowKit
set_option maxRecDepth 20000
set_option linter.unusedVariables false

def byteN (s : List UInt8) (i : Nat) : Nat := (s.getD i 0).toNat
def rHs (s : List UInt8) (o : Nat) : List (List UInt8) := cutH (s.drop o) ((s.length - o) / 32)
/-- Whether there is a value, the value, how far. -/
def rValB (s : List UInt8) (o : Nat) : Bool := decide (o < s.length) && decide (o + 1 + byteN s o ≤ s.length)
def rV (s : List UInt8) (b : Bool) (o : Nat) : List UInt8 := if b then (s.drop (o + 1)).take (byteN s o) else []
def rO (s : List UInt8) (b : Bool) (o : Nat) : Nat := if b then o + (1 + byteN s o) else o
/-- What stands ahead of the value. -/
def rHeadB (s : List UInt8) : Bool := if byteN s 0 = 3 then decide (4 ≤ s.length) && decide (byteN s 3 ≤ 1) else unpackB (s.drop 1)
def rPath (s : List UInt8) : List UInt8 := if byteN s 0 = 3 then [] else unN (s.drop 1)
def rMask (s : List UInt8) : Nat := if byteN s 0 = 3 then byteN s 1 * 256 + byteN s 2 else if byteN s 0 = 2 then 1 else 0
def rHas (s : List UInt8) : Bool := if byteN s 0 = 3 then decide (byteN s 3 = 1) else decide (byteN s 0 = 1)
def rAt (s : List UInt8) : Nat := if byteN s 0 = 3 then 4 else 1 + unUsed (s.drop 1)
def rOkB (s : List UInt8) : Bool := !emptyB s && (rHeadB s && (!rHas s || rValB s (rAt s)))
def rIt (s : List UInt8) : It := ⟨(byteN s 0 : Nat), rPath s, rHas s, rV s (rHas s) (rAt s), (rMask s : Nat), rHs s (rO s (rHas s) (rAt s))⟩

theorem drop_two (k : UInt8) (a b : List UInt8) (o : Nat) (h : o = 1 + a.length) : (k :: (a ++ b)).drop o = b := by
  subst h
  rw [Nat.add_comm, List.drop_succ_cons, List.drop_left]
theorem flat_div (hs : List (List UInt8)) (h : ∀ x ∈ hs, x.length = 32) : hs.flatten.length / 32 = hs.length := by rw [flat32 hs h]; omega
theorem hs_self (hs : List (List UInt8)) (h : ∀ x ∈ hs, x.length = 32) : cutH hs.flatten (hs.flatten.length / 32) = hs := by
  have := (cutH_eq hs [] h).1
  rw [List.append_nil] at this
  rw [flat_div hs h]
  exact this
theorem rpar_enc (I : It) (h : goodI I = true) : rOkB (encL I) = true ∧ rIt (encL I) = I := by
  rw [goodI_iff] at h
  cases h with
  | leaf p v hp hv =>
    have hu := unpack_pack p (UInt8.ofNat v.length :: v) hp
    have e : encL ⟨1, p, true, v, 0, []⟩ = 1 :: (packL p ++ (UInt8.ofNat v.length :: v)) := by
      unfold encL Pt.text ptOf
      simp [pad16]
    rw [e]
    have e0 : byteN (1 :: (packL p ++ (UInt8.ofNat v.length :: v))) 0 = 1 := rfl
    have e1 : (1 :: (packL p ++ (UInt8.ofNat v.length :: v))).drop 1 = packL p ++ (UInt8.ofNat v.length :: v) := rfl
    have hA : rAt (1 :: (packL p ++ (UInt8.ofNat v.length :: v))) = 1 + (packL p).length := by unfold rAt; rw [e0, if_neg (by decide), e1, hu.2.2]
    have hH : rHas (1 :: (packL p ++ (UInt8.ofNat v.length :: v))) = true := by unfold rHas; rw [e0, if_neg (by decide)]; rfl
    have hb : byteN (1 :: (packL p ++ (UInt8.ofNat v.length :: v))) (1 + (packL p).length) = v.length := by
      unfold byteN
      rw [List.getD_eq_getElem?_getD, Nat.add_comm, List.getElem?_cons_succ, List.getElem?_append_right (Nat.le_refl _), Nat.sub_self]
      show (UInt8.ofNat v.length).toNat = _
      rw [UInt8.toNat_ofNat']; omega
    have hl : (1 :: (packL p ++ (UInt8.ofNat v.length :: v))).length = 1 + (packL p).length + 1 + v.length := by simp; omega
    have hd : (1 :: (packL p ++ (UInt8.ofNat v.length :: v))).drop (1 + (packL p).length + 1) = v := by
      rw [← List.drop_drop, drop_two 1 (packL p) _ _ rfl]; rfl
    refine ⟨?_, ?_⟩
    · unfold rOkB rHeadB rValB
      rw [hA, hH, e0, e1, hu.1, hb, hl, if_neg (by decide), decide_eq_true (show 1 + (packL p).length < 1 + (packL p).length + 1 + v.length by omega), decide_eq_true (show 1 + (packL p).length + 1 + v.length ≤ 1 + (packL p).length + 1 + v.length by omega)]
      rfl
    · unfold rIt rPath rMask rHs rV rO
      rw [hA, hH, e0, e1, hu.2.1, hb, if_pos rfl, if_pos rfl, hd, List.take_length, if_neg (by decide), if_neg (by decide), if_neg (by decide)]
      rw [hl, show 1 + (packL p).length + 1 + v.length - (1 + (packL p).length + (1 + v.length)) = 0 by omega]
      rfl
  | ext p h hp h0 hh =>
    have hu := unpack_pack p h hp
    have e : encL ⟨2, p, false, [], 1, [h]⟩ = 2 :: (packL p ++ h) := by
      unfold encL Pt.text ptOf
      simp [pad16]
    rw [e]
    have e0 : byteN (2 :: (packL p ++ h)) 0 = 2 := rfl
    have e1 : (2 :: (packL p ++ h)).drop 1 = packL p ++ h := rfl
    have hA : rAt (2 :: (packL p ++ h)) = 1 + (packL p).length := by unfold rAt; rw [e0, if_neg (by decide), e1, hu.2.2]
    have hH : rHas (2 :: (packL p ++ h)) = false := by unfold rHas; rw [e0, if_neg (by decide)]; rfl
    have hl : (2 :: (packL p ++ h)).length = 1 + (packL p).length + 32 := by simp; omega
    refine ⟨?_, ?_⟩
    · unfold rOkB rHeadB
      rw [hH, e0, e1, hu.1, if_neg (by decide)]
      rfl
    · unfold rIt rPath rMask rHs rV rO
      rw [hA, hH, e0, e1, hu.2.1, if_neg (by decide), if_neg (by decide), if_neg (by decide), if_pos rfl, if_neg (by decide), drop_two 2 (packL p) h _ rfl, hl, show (1 + (packL p).length + 32 - (1 + (packL p).length)) / 32 = 1 by omega]
      have := hs_self [h] (fun x hx => by simp only [List.mem_singleton] at hx; subst hx; exact hh)
      simp only [List.flatten_cons, List.flatten_nil, List.append_nil, hh, show 32 / 32 = 1 by decide] at this
      rw [this]
      rfl
  | branch has v m hs hv hv2 hm h2 hl hh =>
    have hm1 : byteN [UInt8.ofNat (m / 256), UInt8.ofNat m] 0 * 256 + byteN [UInt8.ofNat (m / 256), UInt8.ofNat m] 1 = m := by
      show (UInt8.ofNat (m / 256)).toNat * 256 + (UInt8.ofNat m).toNat = m
      rw [UInt8.toNat_ofNat', UInt8.toNat_ofNat']; omega
    cases has with
    | true =>
      have e : encL ⟨3, [], true, v, (m : Int), hs⟩ = 3 :: UInt8.ofNat (m / 256) :: UInt8.ofNat m :: 1 :: UInt8.ofNat v.length :: (v ++ hs.flatten) := by
        unfold encL Pt.text ptOf
        simp [pad16_flat]
      rw [e]
      generalize UInt8.ofNat (m / 256) = ch at *
      generalize UInt8.ofNat m = cl at *
      have hb : byteN (3 :: ch :: cl :: 1 :: UInt8.ofNat v.length :: (v ++ hs.flatten)) 4 = v.length := by
        show (UInt8.ofNat v.length).toNat = _
        rw [UInt8.toNat_ofNat']; omega
      have e0 : byteN (3 :: ch :: cl :: 1 :: UInt8.ofNat v.length :: (v ++ hs.flatten)) 0 = 3 := rfl
      have e3 : byteN (3 :: ch :: cl :: 1 :: UInt8.ofNat v.length :: (v ++ hs.flatten)) 3 = 1 := rfl
      have hA : rAt (3 :: ch :: cl :: 1 :: UInt8.ofNat v.length :: (v ++ hs.flatten)) = 4 := rfl
      have hH : rHas (3 :: ch :: cl :: 1 :: UInt8.ofNat v.length :: (v ++ hs.flatten)) = true := rfl
      have hl5 : (3 :: ch :: cl :: 1 :: UInt8.ofNat v.length :: (v ++ hs.flatten)).length = 5 + v.length + hs.flatten.length := by simp; omega
      have hd : (3 :: ch :: cl :: 1 :: UInt8.ofNat v.length :: (v ++ hs.flatten)).drop (4 + 1) = v ++ hs.flatten := rfl
      have hd2 : (3 :: ch :: cl :: 1 :: UInt8.ofNat v.length :: (v ++ hs.flatten)).drop (4 + (1 + v.length)) = hs.flatten := by
        rw [show 4 + (1 + v.length) = (4 + 1) + v.length by omega, ← List.drop_drop, hd, List.drop_left]
      refine ⟨?_, ?_⟩
      · unfold rOkB rHeadB rValB
        rw [hA, hH, e0, e3, hb, hl5, if_pos rfl, decide_eq_true (show 4 ≤ 5 + v.length + hs.flatten.length by omega), decide_eq_true (show 4 < 5 + v.length + hs.flatten.length by omega), decide_eq_true (show 4 + 1 + v.length ≤ 5 + v.length + hs.flatten.length by omega)]
        rfl
      · unfold rIt rPath rMask rHs rV rO
        rw [hA, hH, e0, hb, if_pos rfl, if_pos rfl, if_pos rfl, if_pos rfl, hd, hd2, List.take_left, hl5, show 5 + v.length + hs.flatten.length - (4 + (1 + v.length)) = hs.flatten.length by omega, hs_self hs hh]
        rw [show byteN (3 :: ch :: cl :: 1 :: UInt8.ofNat v.length :: (v ++ hs.flatten)) 1 * 256 + byteN (3 :: ch :: cl :: 1 :: UInt8.ofNat v.length :: (v ++ hs.flatten)) 2 = m from hm1]
        rfl
    | false =>
      obtain rfl := hv2 rfl
      have e : encL ⟨3, [], false, [], (m : Int), hs⟩ = 3 :: UInt8.ofNat (m / 256) :: UInt8.ofNat m :: 0 :: hs.flatten := by
        unfold encL Pt.text ptOf
        simp [pad16_flat]
      rw [e]
      generalize UInt8.ofNat (m / 256) = ch at *
      generalize UInt8.ofNat m = cl at *
      have e0 : byteN (3 :: ch :: cl :: 0 :: hs.flatten) 0 = 3 := rfl
      have e3 : byteN (3 :: ch :: cl :: 0 :: hs.flatten) 3 = 0 := rfl
      have hA : rAt (3 :: ch :: cl :: 0 :: hs.flatten) = 4 := rfl
      have hH : rHas (3 :: ch :: cl :: 0 :: hs.flatten) = false := rfl
      have hl5 : (3 :: ch :: cl :: 0 :: hs.flatten).length = 4 + hs.flatten.length := by simp; omega
      have hd2 : (3 :: ch :: cl :: 0 :: hs.flatten).drop 4 = hs.flatten := rfl
      refine ⟨?_, ?_⟩
      · unfold rOkB rHeadB
        rw [hH, e0, e3, hl5, if_pos rfl, decide_eq_true (by omega)]
        rfl
      · unfold rIt rPath rMask rHs rV rO
        rw [hA, hH, e0, if_pos rfl, if_pos rfl, if_neg (by decide), if_neg (by decide), hd2, hl5, show 4 + hs.flatten.length - 4 = hs.flatten.length by omega, hs_self hs hh]
        rw [show byteN (3 :: ch :: cl :: 0 :: hs.flatten) 1 * 256 + byteN (3 :: ch :: cl :: 0 :: hs.flatten) 2 = m from hm1]
        rfl
theorem dec_none {s : List UInt8} (h : rOkB s = false) : decB s = false := by
  rw [Bool.eq_false_iff]
  intro hd
  obtain ⟨h1, h2⟩ := dec_yes hd
  have h3 := (rpar_enc _ h1).1
  rw [h2, h] at h3
  cases h3
theorem dec_not {s : List UInt8} (h : encB (rIt s) ≠ s) : decB s = false := by
  rw [Bool.eq_false_iff]
  intro hd
  obtain ⟨h1, h2⟩ := dec_yes hd
  have h3 := (rpar_enc _ h1).2
  rw [h2] at h3
  refine h ?_
  rw [h3]
  unfold encB
  rw [h1, if_pos rfl, h2]
theorem dec_it {s : List UInt8} (h0 : rOkB s = true) (h : encB (rIt s) = s) : decB s = true ∧ itP (inP s) = rIt s := by
  have hne : s ≠ [] := by
    intro e
    subst e
    cases h0
  cases hg : goodI (rIt s)
  · unfold encB at h
    rw [hg] at h
    exact absurd h.symm hne
  · unfold encB at h
    rw [hg, if_pos rfl] at h
    have h2 := dec_enc _ hg
    rw [h] at h2
    exact h2
end Go.Proofs.YtecamiefpdkjoaaDoor
