/-
  The order of halves, and of packed halves of one length: plain mathematics; and NibbleOrder's walk: whatever two texts, the call returns true, where the table of upper halves lies as its initialiser lays it.
-/
import Derived.Test.YtopnagligeihgaaDoorPlaceA
namespace Go.Proofs.YtopnagligeihgaaDoor
open Go.RowKit

theorem less_cons (a b : UInt8) (l m : List UInt8) : Op.bytesLess (a :: l) (b :: m) = (decide (a.toNat < b.toNat) || (decide (a.toNat = b.toNat) && Op.bytesLess l m)) := by
  show (decide (a < b) || (a == b && Op.bytesLess l m)) = _
  congr 2
  rw [Bool.eq_iff_iff, beq_iff_eq, decide_eq_true_eq, UInt8.toNat_inj]
theorem less_of : ∀ l m : List UInt8, Op.bytesLess (ofL l) (ofL m) = Op.bytesLess l m := by
  intro l
  induction l with
  | nil => intro m; cases m <;> rfl
  | cons a l ih =>
    intro m
    cases m with
    | nil => rfl
    | cons b m =>
      have e : Op.bytesLess (ofL (a :: l)) (ofL (b :: m)) = Op.bytesLess (hi a :: lo a :: ofL l) (hi b :: lo b :: ofL m) := rfl
      rw [e, less_cons, less_cons, less_cons, ih, hi_nat, hi_nat, lo_nat, lo_nat]
      generalize Op.bytesLess l m = z
      rw [Bool.eq_iff_iff]
      simp only [Bool.or_eq_true, Bool.and_eq_true, decide_eq_true_eq]
      generalize a.toNat = x
      generalize b.toNat = y
      constructor
      · rintro (h | ⟨h, h2 | ⟨h2, h3⟩⟩)
        · left; omega
        · left; omega
        · right; exact ⟨by omega, h3⟩
      · rintro (h | ⟨h, h3⟩)
        · by_cases c : x / 16 < y / 16
          · exact .inl c
          · exact .inr ⟨by omega, .inl (by omega)⟩
        · exact .inr ⟨by omega, .inr ⟨by omega, h3⟩⟩
theorem less_join (l : List UInt8) : ∀ m : List UInt8, l.length = m.length → halvesB l = true → halvesB m = true → Op.bytesLess (joinL l) (joinL m) = Op.bytesLess l m := by
  induction l using pairs with
  | h0 => intro m h _ _; cases m with
    | nil => rfl
    | cons b m => simp at h
  | h1 a =>
    intro m h hl hm
    match m, h with
    | [b], _ =>
      have ha : a.toNat < 16 := halvesB_get hl (k := 0) rfl
      have hb : b.toNat < 16 := halvesB_get hm (k := 0) rfl
      show Op.bytesLess [two a 0] [two b 0] = _
      rw [less_cons, less_cons, two_zero, two_zero]
      rw [Bool.eq_iff_iff]
      simp only [Bool.or_eq_true, Bool.and_eq_true, decide_eq_true_eq]
      constructor
      · rintro (h | ⟨_, h⟩)
        · left; omega
        · cases h
      · rintro (h | ⟨_, h⟩)
        · left; omega
        · cases h
  | h2 a b l ih =>
    intro m h hl hm
    match m, h with
    | c :: d :: m, h =>
      obtain ⟨ha, hb, hl⟩ := halvesB_cons2 hl
      obtain ⟨hc, hd, hm⟩ := halvesB_cons2 hm
      show Op.bytesLess (two a b :: joinL l) (two c d :: joinL m) = _
      rw [less_cons, less_cons, less_cons, ih m (by simpa using h) hl hm, two_nat, two_nat]
      generalize Op.bytesLess l m = z
      rw [Bool.eq_iff_iff]
      simp only [Bool.or_eq_true, Bool.and_eq_true, decide_eq_true_eq]
      generalize a.toNat = x at *
      generalize b.toNat = y at *
      generalize c.toNat = u at *
      generalize d.toNat = v at *
      constructor
      · rintro (h | ⟨h, h3⟩)
        · by_cases e : x < u
          · exact .inl e
          · exact .inr ⟨by omega, .inl (by omega)⟩
        · exact .inr ⟨by omega, .inr ⟨by omega, h3⟩⟩
      · rintro (h | ⟨h, h2 | ⟨h2, h3⟩⟩)
        · left; omega
        · left; omega
        · right; exact ⟨by omega, h3⟩
theorem goodB_parts {l : List UInt8} (h : goodB l = true) : l.length ≤ 16 ∧ halvesB l = true := by
  unfold goodB at h
  rw [Bool.and_eq_true, decide_eq_true_eq] at h
  exact h
theorem less_pack (l m : List UInt8) (h : l.length = m.length) (hl : goodB l = true) (hm : goodB m = true) : Op.bytesLess (packL l) (packL m) = Op.bytesLess l m := by
  unfold packL
  rw [less_cons, h, less_join l m h (goodB_parts hl).2 (goodB_parts hm).2]
  simp

theorem pack_any (s : ByteArray) (hs : s.size ≤ 4000) (w : World) (hT : Tab w) :
    Calls Tryd.prog 10 #[.string s] w fun e w' => e = .returned (.tuple #[.string (if goodB (L s) then bs (packL (L s)) else bs []), .bool (goodB (L s))]) ∧ Kept w w' := by
  cases h : goodB (L s)
  · exact pack_no s hs h w
  · exact pack_yes s hs h w hT

set_option maxHeartbeats 1000000 in
theorem ord_long (a b : ByteArray) (h : 500 < a.size ∨ 500 < b.size) (w : World) (hT : Tab w) :
    Calls Tryd.prog 7 #[.string a, .string b] w fun e w' => e = .returned (.bool true) ∧ Kept w w' := by
  by_cases ha : 500 < a.size
  · have hd : decide ((500 : Int) < (a.size : Int)) = true := decide_eq_true (by omega)
    go_enter Tryd.func7, Tryd.ntmps7
    go_wp2_with fail
    refine (wakes_any _ hT).mono ?_
    rintro e w1 ⟨rfl, g1⟩
    go_wp2_with fail
    go_ret
    exact ⟨rfl, g1⟩
  · have hd : decide ((500 : Int) < (a.size : Int)) = false := decide_eq_false (by omega)
    have hd2 : decide ((500 : Int) < (b.size : Int)) = true := decide_eq_true (by omega)
    go_enter Tryd.func7, Tryd.ntmps7
    go_wp2_with fail
    refine (wakes_any _ hT).mono ?_
    rintro e w1 ⟨rfl, g1⟩
    go_wp2_with fail
    go_ret
    exact ⟨rfl, g1⟩

set_option maxHeartbeats 2000000 in
theorem ord_walk (a b : ByteArray) (ha : a.size ≤ 500) (hb : b.size ≤ 500) (w : World) (hT : Tab w) :
    Calls Tryd.prog 7 #[.string a, .string b] w fun e w' => e = .returned (.bool true) ∧ Kept w w' := by
  have hd : decide ((500 : Int) < (a.size : Int)) = false := decide_eq_false (by omega)
  have hd2 : decide ((500 : Int) < (b.size : Int)) = false := decide_eq_false (by omega)
  have h1 : Op.bytesLess (bs (ofL (L a))).toList (bs (ofL (L b))).toList = Op.bytesLess (L a) (L b) := by rw [toList_L, toList_L, L_bs, L_bs, less_of]
  have h2 : Op.bytesLess a.toList b.toList = Op.bytesLess (L a) (L b) := by rw [toList_L, toList_L]
  have HP : Hid ((L a).length = (L b).length → goodB (L a) = true → goodB (L b) = true → Op.bytesLess (bs (packL (L a))).toList (bs (packL (L b))).toList = Op.bytesLess (L a) (L b)) := by
    intro h h1 h2
    rw [toList_L, toList_L, L_bs, L_bs, less_pack _ _ h h1 h2]
  generalize Op.bytesLess (L a) (L b) = lt at *
  have H1 : Hid (∀ w, Tab w → _) := fun w hT => pack_any a (by omega) w hT
  have H2 : Hid (∀ w, Tab w → _) := fun w hT => pack_any b (by omega) w hT
  rw [L_size, L_size] at HP
  generalize goodB (L a) = x at *
  generalize goodB (L b) = y at *
  generalize bs (packL (L a)) = p at *
  generalize bs (packL (L b)) = q at *
  cases lt
  all_goals
    go_enter Tryd.func7, Tryd.ntmps7
    go_wp2_with fail
    refine (of_any a (by omega) _).mono ?_
    rintro e w1 ⟨rfl, g1⟩
    go_wp2_with fail
    refine (of_any b (by omega) _).mono ?_
    rintro e w2 ⟨rfl, g2⟩
    go_wp2_with fail
    have hT2 := hT.kept (g1.trans g2)
    refine (H1.out _ hT2).mono ?_
    rintro e w3 ⟨rfl, g3⟩
    have hT3 := hT2.kept g3
    cases x
    · cases y
      all_goals
        go_wp2_with fail
        refine (H2.out _ hT3).mono ?_
        rintro e w4 ⟨rfl, g4⟩
        go_wp2_with fail
        refine (wakes_any _ (hT3.kept g4)).mono ?_
        rintro e w5 ⟨rfl, g5⟩
        go_wp2_with fail
        go_ret
        exact ⟨rfl, g1.trans (g2.trans (g3.trans (g4.trans g5)))⟩
    · cases y
      · go_wp2_with fail
        refine (H2.out _ hT3).mono ?_
        rintro e w4 ⟨rfl, g4⟩
        go_wp2_with fail
        refine (wakes_any _ (hT3.kept g4)).mono ?_
        rintro e w5 ⟨rfl, g5⟩
        go_wp2_with fail
        go_ret
        exact ⟨rfl, g1.trans (g2.trans (g3.trans (g4.trans g5)))⟩
      · by_cases hz : a.size = b.size
        · have hz1 : ((a.size : Int) != (b.size : Int)) = false := by rw [hz]; simp
          have h3 := HP.out hz rfl rfl
          go_wp2_with fail
          refine (H2.out _ hT3).mono ?_
          rintro e w4 ⟨rfl, g4⟩
          clear HP H1 H2 hz
          go_wp2_with fail
          refine (wakes_any _ (hT3.kept g4)).mono ?_
          rintro e w5 ⟨rfl, g5⟩
          go_wp2_with fail
          go_ret
          exact ⟨rfl, g1.trans (g2.trans (g3.trans (g4.trans g5)))⟩
        · have hz1 : ((a.size : Int) != (b.size : Int)) = true := by rw [bne_iff_ne]; omega
          go_wp2_with fail
          refine (H2.out _ hT3).mono ?_
          rintro e w4 ⟨rfl, g4⟩
          go_wp2_with fail
          refine (wakes_any _ (hT3.kept g4)).mono ?_
          rintro e w5 ⟨rfl, g5⟩
          go_wp2_with fail
          go_ret
          exact ⟨rfl, g1.trans (g2.trans (g3.trans (g4.trans g5)))⟩

theorem ord_any (a b : ByteArray) (w : World) (hT : Tab w) :
    Calls Tryd.prog 7 #[.string a, .string b] w fun e w' => e = .returned (.bool true) ∧ w.keptBut w' (fun _ => False) := by
  by_cases h : 500 < a.size ∨ 500 < b.size
  · exact ord_long a b h w hT
  · exact ord_walk a b (by omega) (by omega) w hT

end Go.Proofs.YtopnagligeihgaaDoor
