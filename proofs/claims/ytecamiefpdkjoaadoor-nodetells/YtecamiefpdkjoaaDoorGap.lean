/-
  The statements' own examples (wakes) come out true, where the tables lie as their initialisers lay them. The reference's Good: it says what Good says. Whether two lists of texts, and two Items, are alike. NodeBack's walk: whatever two Items and a text, the call returns true, where the tables lie as their initialisers lay them.
-/
import Derived.Test.YtecamiefpdkjoaaDoorGao
namespace Go.Proofs.YtecamiefpdkjoaaDoor
open Go.RowKit
set_option maxRecDepth 20000
set_option linter.unusedVariables false

def ex1 : It := ⟨1, [1, 2, 3], true, [118], 0, []⟩
def ex2 : It := ⟨3, [], false, [], 32769, [hash1 1, hash1 2]⟩
def ex3 : It := ⟨3, [], false, [], 1, [hash1 1]⟩
def ex4 : It := ⟨1, [], true, [], 0, []⟩
theorem small_of (I : It) (h : (decide (I.p.length ≤ 4000) && (decide (I.v.length ≤ 4000) && (decide (I.hs.length ≤ 4000) && I.hs.all fun h => decide (h.length ≤ 4000)))) = true) : Small I := by
  simp only [Bool.and_eq_true, decide_eq_true_eq, List.all_eq_true] at h
  exact ⟨h.1, h.2.1, by omega, fun x hx => by have := h.2.2.2 x hx; omega⟩
theorem ex1_any (w : World) (hT : Tab w) : Calls Tryd.prog 9 #[.agg #[.int .i64 1, .string ⟨#[1, 2, 3]⟩, .bool true, .string ⟨#[118]⟩, .int .i64 0, .slice none 0 0]] w fun e w' => e = .returned (.tuple #[.string ⟨#[1, 3, 18, 48, 1, 118]⟩, .bool true]) ∧ New w w' := by
  have h := encode_any ex1 (small_of _ (by decide +kernel)) none 0 w (Tx.nil _ _) hT
  rwa [show bs (encB ex1) = ⟨#[1, 3, 18, 48, 1, 118]⟩ by decide +kernel, show goodI ex1 = true by decide +kernel] at h
theorem tx2 (w : World) (g : Nat) (x y : List UInt8) (R : Row w g #[.string (bs x), .string (bs y)] 9) : Tx w (some ⟨g, 0, none⟩) [x, y] := fun _ => ⟨_, rfl, fun i h hi => by
  rw [Addr.add_mid, Nat.zero_add, R.cell]
  match i, hi with
  | 0, hi => cases hi; rfl
  | 1, hi => cases hi; rfl⟩
theorem tx1 (w : World) (g : Nat) (x : List UInt8) (R : Row w g #[.string (bs x)] 9) : Tx w (some ⟨g, 0, none⟩) [x] := fun _ => ⟨_, rfl, fun i h hi => by
  rw [Addr.add_mid, Nat.zero_add, R.cell]
  match i, hi with
  | 0, hi => cases hi; rfl⟩
theorem ex2_good : goodI ex2 = true := by decide +kernel
theorem ex2_any (w : World) (hT : Tab w) (g c : Nat) (R : Row w g #[.string (bs (hash1 1)), .string (bs (hash1 2))] 9) : Calls Tryd.prog 9 #[.agg #[.int .i64 3, .string ⟨#[]⟩, .bool false, .string ⟨#[]⟩, .int .i64 32769, .slice (some ⟨g, 0, none⟩) 2 c]] w fun e w' => e = .returned (.tuple #[.string (bs (encL ex2)), .bool true]) ∧ New w w' := by
  have h := encode_any ex2 (small_of _ (by decide +kernel)) (some ⟨g, 0, none⟩) c w (tx2 _ _ _ _ R) hT
  rwa [show encB ex2 = encL ex2 by unfold encB; rw [ex2_good]; rfl, ex2_good] at h
theorem ex3_any (w : World) (hT : Tab w) (g c : Nat) (R : Row w g #[.string (bs (hash1 1))] 9) : Calls Tryd.prog 9 #[.agg #[.int .i64 3, .string ⟨#[]⟩, .bool false, .string ⟨#[]⟩, .int .i64 1, .slice (some ⟨g, 0, none⟩) 1 c]] w fun e w' => e = .returned (.tuple #[.string ⟨#[]⟩, .bool false]) ∧ New w w' := by
  have h := encode_any ex3 (small_of _ (by decide +kernel)) (some ⟨g, 0, none⟩) c w (tx1 _ _ _ R) hT
  rwa [show goodI ex3 = false by decide +kernel, show bs (encB ex3) = ⟨#[]⟩ by decide +kernel] at h
theorem ex4_any (w : World) (hT : TT w) : Calls Tryd.prog 10 #[.agg #[.int .i64 1, .string ⟨#[]⟩, .bool true, .string ⟨#[]⟩, .int .i64 0, .slice none 0 0]] w fun e w' => e = .returned (.tuple #[.string (bs (Dg.ofL [1, 0, 0])), .bool true]) ∧ New w w' := by
  have h := hash_any ex4 (small_of _ (by decide +kernel)) none 0 w (Tx.nil _ _) hT
  rwa [show hashB ex4 = Dg.ofL [1, 0, 0] by unfold hashB; rw [show goodI ex4 = true by decide +kernel, if_pos rfl, show encL ex4 = [1, 0, 0] by decide +kernel], show goodI ex4 = true by decide +kernel] at h
theorem ex5_any (w : World) (hT : Tab w) : Calls Tryd.prog 11 #[.string ⟨#[1, 0, 0, 122]⟩] w fun e w' => e = .returned (.tuple #[.agg #[.int .i64 0, .string ⟨#[]⟩, .bool false, .string ⟨#[]⟩, .int .i64 0, .slice none 0 0], .bool false]) ∧ New w w' := by
  refine (decode_any [1, 0, 0, 122] (by decide) w hT).mono fun e w' h => ?_
  unfold MadeG at h
  rw [show decB [1, 0, 0, 122] = false by decide +kernel, if_neg Bool.false_ne_true] at h
  exact ⟨h.2, h.1⟩
def MadeE (w : World) (e : Ending) (w' : World) : Prop := New w w' ∧ ∃ a c, e = .returned (.tuple #[.agg #[.int .i64 3, .string ⟨#[]⟩, .bool false, .string ⟨#[]⟩, .int .i64 32769, .slice a 2 c], .bool true])
theorem ex6_any (w : World) (hT : Tab w) : Calls Tryd.prog 11 #[.string (bs (encL ex2))] w fun e w' => MadeE w e w' := by
  have hd := dec_enc ex2 ex2_good
  refine (decode_any (encL ex2) (by rw [(enc_len ex2 ex2_good).1]; have := (enc_len ex2 ex2_good).2.1; omega) w hT).mono fun e w' h => ?_
  unfold MadeG at h
  rw [hd.1, hd.2, if_pos rfl] at h
  obtain ⟨h1, a, c, h2, _⟩ := h
  exact ⟨h1, a, c, h2⟩
theorem ex7_any (w : World) (hT : Dg.Tab w) : Calls Tryd.prog 18 #[.string ⟨#[1, 0, 0]⟩] w fun e w' => e = .returned (.string (bs (Dg.ofL [1, 0, 0]))) ∧ New w w' := dg_of [1, 0, 0] (by decide) w hT
theorem h1_any (w : World) : Calls Tryd.prog 19 #[.int .u8 1] w fun e w' => e = .returned (.string (bs (hash1 1))) ∧ New w w' := hash1_any 1 w
theorem h2_any (w : World) : Calls Tryd.prog 19 #[.int .u8 2] w fun e w' => e = .returned (.string (bs (hash1 2))) ∧ New w w' := hash1_any 2 w

set_option maxHeartbeats 4000000 in
theorem wakes_any (w : World) (hT : TT w) : Calls Tryd.prog 8 #[] w fun e w' => e = .returned (.bool true) ∧ New w w' := by
  have z2 : (bs (encL ex2)).size = 68 := by decide +kernel
  have x2 : (bs (encL ex2)).extract 0 4 = ⟨#[3, 128, 1, 0]⟩ := by decide +kernel
  have H2 := ex2_any
  have H6 := ex6_any
  have H4 := ex4_any
  have H7 := ex7_any
  have H1 := h1_any
  have H1b := h2_any
  have H3 := ex3_any
  generalize bs (encL ex2) = s2 at *
  generalize bs (Dg.ofL [1, 0, 0]) = s4 at *
  generalize bs (hash1 1) = q1 at *
  generalize bs (hash1 2) = q2 at *
  have d4 : (s4.toList == s4.toList) = true := beq_self_eq_true _
  go_enter Tryd.func8, Tryd.ntmps8
  go_wp2_with fail
  refine (ex1_any _ hT.1).mono ?_
  rintro _ W1 ⟨rfl, N1⟩
  go_wp2_with fail
  refine (H1 _).mono ?_
  rintro _ W2 ⟨rfl, N2⟩
  go_wp2_with fail
  refine (H1b _).mono ?_
  rintro _ W3 ⟨rfl, N3⟩
  have N := (N1.trans N2).trans N3
  clear N1 N2 N3
  go_wp2_with fail
  refine (H2 _ (hT.after (N.alloc _)).1 _ _ (Row.new _ _ _)).mono ?_
  rintro _ W4 ⟨rfl, N4⟩
  have N' := (N.alloc _).trans N4
  clear N N4
  go_wp2_with fail
  refine (H6 _ (hT.after N').1).mono ?_
  rintro _ W5 ⟨N5, a, c, rfl⟩
  have N := N'.trans N5
  clear N' N5
  go_wp2_with fail
  refine (H1 _).mono ?_
  rintro _ W6 ⟨rfl, N6⟩
  have R5 := (Row.new W5 #[.int .i64 3, .string ⟨#[]⟩, .bool false, .string ⟨#[]⟩, .int .i64 32769, .slice a 2 c] 24).after N6
  have N' := (N.alloc _).trans N6
  generalize W5.heap.size = g at *
  clear N N6
  go_wp2_with fail
  refine (H3 _ (hT.after (N'.alloc _)).1 _ _ (Row.new _ _ _)).mono ?_
  rintro _ W7 ⟨rfl, N7⟩
  replace R5 := (R5.alloc _).after N7
  have N := (N'.alloc _).trans N7
  clear N' N7
  go_wp2_with fail
  refine (H4 _ (hT.after N)).mono ?_
  rintro _ W8 ⟨rfl, N8⟩
  replace R5 := R5.after N8
  have N' := N.trans N8
  clear N N8
  go_wp2_with fail
  refine (ex5_any _ (hT.after N').1).mono ?_
  rintro _ W9 ⟨rfl, N9⟩
  replace R5 := R5.after N9
  have N := N'.trans N9
  clear N' N9
  have hlt := R5.lt
  have hne : g ≠ W9.heap.size := by omega
  have c4 : W9.cell? ⟨g, 4, none⟩ = some (.int .i64 32769) := R5.cell 4
  have c5 : W9.cell? ⟨g, 5, none⟩ = some (.slice a 2 c) := R5.cell 5
  go_wp2_with fail
  refine (H7 _ (hT.after (N.alloc _)).2).mono ?_
  rintro _ Wa ⟨rfl, Na⟩
  go_wp2_with fail
  go_ret
  exact ⟨rfl, (N.alloc _).trans Na⟩

end Go.Proofs.YtecamiefpdkjoaaDoor
namespace Go.Proofs.YtecamiefpdkjoaaDoor
open Go.RowKit
set_option maxRecDepth 20000
set_option linter.unusedVariables false

theorem hide {p : Prop} (h : p) : Hid p := h
def allH (hs : List (List UInt8)) : Bool := hs.all fun h => decide (h.length = 32)
theorem goodH_all (hs : List (List UInt8)) (n : Nat) : goodH hs n = (decide (hs.length = n) && allH hs) := rfl
theorem rgood_h (I : It) (h : allH I.hs = false) : goodI I = false := by
  have h1 : ∀ n, goodH I.hs n = false := fun n => by rw [goodH_all, h, Bool.and_false]
  have h2 : goodLf I = false := by
    unfold goodLf
    cases hh : decide (I.hs.length = 0)
    · simp
    · have := of_decide_eq_true hh
      rw [List.length_eq_zero_iff] at this
      rw [this] at h
      cases h
  unfold goodI goodEx goodBr
  simp only [h1, h2, Bool.and_false]
  split <;> first | rfl | (split <;> first | rfl | (split <;> rfl))
theorem rgood_v (I : It) (h : goodV I = false) : goodI I = false := by
  have h3 : goodEx I = false := by
    unfold goodEx
    cases hh : I.has
    · cases he : emptyB I.v
      · simp
      · unfold goodV at h
        have := emptyB_true.1 he
        rw [hh, he, this] at h
        cases h
    · simp
  unfold goodI goodLf goodBr
  simp only [h, h3, Bool.and_false, Bool.false_and]
  split <;> first | rfl | (split <;> first | rfl | (split <;> rfl))
theorem rgood_1 (I : It) (hk : I.k = 1) (h1 : allH I.hs = true) (h2 : goodV I = true) : goodI I = (goodB I.p && (I.has && (decide (I.m = 0) && decide (I.hs.length = 0)))) := by
  unfold goodI goodLf
  rw [if_pos hk, h2, Bool.true_and]
theorem rgood_2 (I : It) (hk : I.k = 2) (h1 : allH I.hs = true) (h2 : goodV I = true) : goodI I = (goodB I.p && (!emptyB I.p && (!I.has && (decide (I.m = 1) && decide (I.hs.length = 1))))) := by
  unfold goodI goodEx
  rw [if_neg (by rw [hk]; decide), if_pos hk, goodH_all, h1, Bool.and_true]
  cases hh : I.has
  · have he : emptyB I.v = true := by
      unfold goodV at h2
      rw [hh] at h2
      simpa using (Bool.and_eq_true _ _ ▸ h2).2
    rw [he]
    cases emptyB I.p <;> cases goodB I.p <;> rfl
  · cases emptyB I.p <;> cases goodB I.p <;> rfl
theorem rgood_3 (I : It) (hk : I.k = 3) (h1 : allH I.hs = true) (h2 : goodV I = true) : goodI I = (emptyB I.p && (decide (0 ≤ I.m) && (decide (I.m ≤ 65535) && (decide (popN I.m.toNat = I.hs.length) && decide (2 ≤ I.hs.length + if I.has then 1 else 0))))) := by
  unfold goodI goodBr leadsN
  rw [if_neg (by rw [hk]; decide), if_neg (by rw [hk]; decide), if_pos hk, goodH_all, h1, h2, Bool.and_true, Bool.true_and]
  by_cases h : I.hs.length = popN I.m.toNat
  · rw [h, decide_eq_true rfl]
    simp
  · rw [decide_eq_false h, decide_eq_false (show ¬ popN I.m.toNat = I.hs.length from fun e => h e.symm)]
    simp
theorem rgood_0 (I : It) (h1 : I.k ≠ 1) (h2 : I.k ≠ 2) (h3 : I.k ≠ 3) : goodI I = false := by
  unfold goodI
  rw [if_neg h1, if_neg h2, if_neg h3]

set_option maxHeartbeats 8000000 in
theorem rGood_any (I : It) (hS : Small I) (a : Option Addr) (c : Nat) (w : World) (hT : Tx w a I.hs) :
    Calls Tryd.prog 14 #[itV I a c] w fun e w' => e = .returned (.bool (goodI I)) ∧ New w w' := by
  have HF0 : Hid (allH I.hs = false → goodI I = false) := rgood_h I
  have HFv : Hid (goodV I = false → goodI I = false) := rgood_v I
  have HF1 := hide (rgood_1 I)
  have HF2 := hide (rgood_2 I)
  have HF3 := hide (rgood_3 I)
  have HFk := hide (rgood_0 I)
  have HVV : Hid (goodV I = (decide (I.v.length ≤ 16) && (I.has || emptyB I.v))) := rfl
  have HP : ∀ w, Calls Tryd.prog 29 #[.string (bs I.p)] w fun e w' => e = .returned (.bool (goodB I.p)) ∧ w' = w := refGood_any (bs I.p) hS.p
  have hp4 : (bs I.p).size ≤ 4000 := hS.p
  have hv4 : (bs I.v).size ≤ 4000 := hS.v
  have hn4 := hS.n
  have H4 := hide hS.h
  obtain ⟨k, p, has, v, m, hs⟩ := I
  simp only at HF0 HFv HF1 HF2 HF3 HFk HVV HP hp4 hv4 hn4 H4
  generalize goodI ⟨k, p, has, v, m, hs⟩ = g at *
  generalize goodV ⟨k, p, has, v, m, hs⟩ = gv at *
  obtain ⟨b1, hb1⟩ : ∃ b, goodB p = b := ⟨_, rfl⟩
  obtain ⟨b0, hb0⟩ : ∃ b, emptyB p = b := ⟨_, rfl⟩
  obtain ⟨bl, hbl⟩ : ∃ b, decide (v.length ≤ 16) = b := ⟨_, rfl⟩
  obtain ⟨be, hbe⟩ : ∃ b, emptyB v = b := ⟨_, rfl⟩
  rw [hb1] at HP HF1 HF2
  rw [hb0] at HF2 HF3
  rw [hbl, hbe] at HVV
  have e01 : (bs p).toList.isEmpty = b0 := by rw [← hb0]; exact isEmpty_bs p
  have e02 : ((bs p).toList == []) = b0 := by rw [← hb0]; exact beq_nil_bs p
  have e03 : ((bs p).toList != []) = !b0 := by rw [← hb0]; exact bne_nil_bs p
  have e04 : decide (1 ≤ ((bs p).size : Int)) = !b0 := by
    rw [← hb0, bs_size]
    unfold emptyB
    by_cases h : p.length = 0
    · rw [decide_eq_true h, decide_eq_false (by omega)]; rfl
    · rw [decide_eq_false h, decide_eq_true (by omega)]; rfl
  have e05 : decide (1 ≤ (bs p).size) = !b0 := by rw [← e04]; exact decide_eq_decide.2 (by omega)
  have e21 : (bs v).toList.isEmpty = be := by rw [← hbe]; exact isEmpty_bs v
  have e22 : ((bs v).toList == []) = be := by rw [← hbe]; exact beq_nil_bs v
  have e23 : ((bs v).toList != []) = !be := by rw [← hbe]; exact bne_nil_bs v
  have e3 : decide ((16 : Int) < ((bs v).size : Int)) = !bl := by
    rw [← hbl, bs_size]
    by_cases h : v.length ≤ 16
    · rw [decide_eq_true h, decide_eq_false (by omega)]; rfl
    · rw [decide_eq_false h, decide_eq_true (by omega)]; rfl
  have e3' : decide (16 < (bs v).size) = !bl := by rw [← e3]; exact decide_eq_decide.2 (by omega)
  obtain ⟨bz, hbz⟩ : ∃ b, decide (hs.length = 0) = b := ⟨_, rfl⟩
  obtain ⟨bo, hbo⟩ : ∃ b, decide (hs.length = 1) = b := ⟨_, rfl⟩
  obtain ⟨m0, hm0⟩ : ∃ b, decide (m = 0) = b := ⟨_, rfl⟩
  obtain ⟨m1, hm1⟩ : ∃ b, decide (m = 1) = b := ⟨_, rfl⟩
  rw [hm0, hbz] at HF1
  rw [hm1, hbo] at HF2
  have ez : ((hs.length : Int) == 0) = bz := by rw [← hbz]; exact nat_beq hs.length 0
  have eo : ((hs.length : Int) == 1) = bo := by rw [← hbo]; exact nat_beq hs.length 1
  have em0 : (m == 0) = m0 := by rw [← hm0]; exact int_beq _ _
  have em1 : (m == 1) = m1 := by rw [← hm1]; exact int_beq _ _
  have HT : Hid (Tx w a hs) := hT
  clear hb1 hb0 hbl hbe hbz hbo hm0 hm1 hT hS
  show Calls Tryd.prog 14 #[.agg #[.int .i64 k, .string (bs p), .bool has, .string (bs v), .int .i64 m, .slice a hs.length c]] w _
  generalize bs p = sp at *
  generalize bs v = sv at *
  have R0 := Row.new w #[.int .i64 k, .string sp, .bool has, .string sv, .int .i64 m, .slice a hs.length c] 24
  have N0 : New w (w.alloc (.cells #[.int .i64 k, .string sp, .bool has, .string sv, .int .i64 m, .slice a hs.length c] 24)) := (New.refl w).alloc _
  go_enter Tryd.func14, Tryd.ntmps14
  go_wp2_with fail
  generalize w.alloc (.cells #[.int .i64 k, .string sp, .bool has, .string sv, .int .i64 m, .slice a hs.length c] 24) = W at *
  have c0 : W.cell? ⟨w.heap.size, 0, none⟩ = some (.int .i64 k) := R0.cell 0
  have c1 : W.cell? ⟨w.heap.size, 1, none⟩ = some (.string sp) := R0.cell 1
  have c2 : W.cell? ⟨w.heap.size, 2, none⟩ = some (.bool has) := R0.cell 2
  have c3 : W.cell? ⟨w.heap.size, 3, none⟩ = some (.string sv) := R0.cell 3
  have c4 : W.cell? ⟨w.heap.size, 4, none⟩ = some (.int .i64 m) := R0.cell 4
  have c5 : W.cell? ⟨w.heap.size, 5, none⟩ = some (.slice a hs.length c) := R0.cell 5
  have HTW := hide (HT.out.after N0)
  go_loop [3] (fun i => ∃ k : Nat, k ≤ hs.length ∧ i = .int .i64 (k : Int) ∧ ∀ (j : Nat) h, j < k → hs[j]? = some h → h.length = 32) (fun i => hs.length - (intOf i).toNat)
  case atStart => exact ⟨0, by omega, rfl, fun j h hj => absurd hj (by omega)⟩
  case round =>
    obtain ⟨n, hn, rfl, hall⟩ := hrel
    have HA : Hid (∀ (j : Nat) h, j < n → hs[j]? = some h → h.length = 32) := hall
    clear hall
    by_cases hlt : n < hs.length
    · have hlt' : (n : Int) < (hs.length : Int) := by omega
      obtain ⟨x, rfl, hx⟩ := HTW.out (by omega)
      have hk' : hs[n]? = some hs[n] := List.getElem?_eq_getElem hlt
      have hcell := hx n _ hk'
      have hsz : (bs hs[n]).size = hs[n].length := rfl
      have hb := H4.out _ (List.getElem_mem hlt)
      have HK : Hid (hs[n]? = some hs[n]) := hk'
      clear hx hk'
      by_cases h32 : hs[n].length = 32
      · have ht : (((bs hs[n]).size : Int) != 32) = false := by rw [bne_eq_false_iff_eq, hsz]; omega
        have HE : Hid (hs[n].length = 32) := h32
        rw [hsz] at ht
        clear h32
        generalize bs hs[n] = q at *
        go_wp2_with fail
        go_round
        case rel => exact ⟨n + 1, by omega, by go_num, fun j h hj hjh => by
          by_cases e : j = n
          · subst e; rw [HK.out] at hjh; cases hjh; exact HE.out
          · exact HA.out j h (by omega) hjh⟩
        case measure => simp [intOf]; omega
      · have ht : (((bs hs[n]).size : Int) != 32) = true := by rw [bne_iff_ne, hsz]; omega
        have HF : Hid (g = false) := by
          refine HF0.out ?_
          rw [Bool.eq_false_iff]
          intro h
          exact h32 (of_decide_eq_true (List.all_eq_true.1 h _ (List.getElem_mem hlt)))
        rw [hsz] at ht
        clear h32
        generalize bs hs[n] = q at *
        go_wp2_with fail
        go_ret
        exact ⟨ret_bool HF.out.symm, N0⟩
    · obtain rfl : n = hs.length := by omega
      have hA1 : allH hs = true := by
        unfold allH
        rw [List.all_eq_true]
        intro h hh
        obtain ⟨j, hj⟩ := List.getElem?_of_mem hh
        exact decide_eq_true (HA.out j h (List.getElem?_eq_some_iff.1 hj).1 hj)
      have HA1 := hide hA1
      clear hA1 HF0
      cases bl
      · have HF : Hid (g = false) := HFv.out HVV.out
        go_wp2_with fail
        go_ret
        exact ⟨ret_bool HF.out.symm, N0⟩
      · cases has
        · cases be
          · have HF : Hid (g = false) := HFv.out HVV.out
            go_wp2_with fail
            go_ret
            exact ⟨ret_bool HF.out.symm, N0⟩
          · have HG : Hid (gv = true) := HVV.out
            clear HVV HFv
            by_cases k1 : k = 1
            · have d1 : (k == 1) = true := by rw [int_beq]; exact decide_eq_true k1
              have HF := hide (HF1.out k1 HA1.out HG.out)
              clear k1 HF1 HF2 HF3 HFk
              cases b1
              all_goals
                go_wp2_with fail
                refine (HP _).mono ?_
                rintro _ _ ⟨rfl, rfl⟩
                go_wp2_with fail
                go_ret
                exact ⟨ret_bool HF.out.symm, N0⟩
            · have d1 : (k == 1) = false := by rw [int_beq]; exact decide_eq_false k1
              by_cases k2 : k = 2
              · have d2 : (k == 2) = true := by rw [int_beq]; exact decide_eq_true k2
                have HF := hide (HF2.out k2 HA1.out HG.out)
                clear k1 k2 HF1 HF2 HF3 HFk
                cases b1
                · skip
                  go_wp2_with fail
                  refine (HP _).mono ?_
                  rintro _ _ ⟨rfl, rfl⟩
                  go_wp2_with fail
                  go_ret
                  exact ⟨ret_bool HF.out.symm, N0⟩
                · cases b0
                  · cases m1
                    · skip
                      go_wp2_with fail
                      refine (HP _).mono ?_
                      rintro _ _ ⟨rfl, rfl⟩
                      go_wp2_with fail
                      go_ret
                      exact ⟨ret_bool HF.out.symm, N0⟩
                    · cases bo
                      all_goals
                        go_wp2_with fail
                        refine (HP _).mono ?_
                        rintro _ _ ⟨rfl, rfl⟩
                        go_wp2_with fail
                        go_ret
                        exact ⟨ret_bool HF.out.symm, N0⟩
                  · skip
                    go_wp2_with fail
                    refine (HP _).mono ?_
                    rintro _ _ ⟨rfl, rfl⟩
                    go_wp2_with fail
                    go_ret
                    exact ⟨ret_bool HF.out.symm, N0⟩
              · have d2 : (k == 2) = false := by rw [int_beq]; exact decide_eq_false k2
                by_cases k3 : k = 3
                · have d3 : (k == 3) = true := by rw [int_beq]; exact decide_eq_true k3
                  have HF := hide (HF3.out k3 HA1.out HG.out)
                  clear k1 k2 k3 HF1 HF2 HF3 HFk HP
                  obtain ⟨b8, hb8⟩ : ∃ b, decide (2 ≤ hs.length + 0) = b := ⟨_, rfl⟩
                  have d8 : decide (2 ≤ (hs.length : Int)) = b8 := by rw [← hb8]; exact decide_eq_decide.2 (by omega)
                  replace HF : Hid (g = (b0 && (decide (0 ≤ m) && (decide (m ≤ 65535) && (decide (popN m.toNat = hs.length) && b8))))) := by show _ = _; rw [HF.out, ← hb8]; rfl
                  clear hb8
                  have y1 : ∀ p : NewW W, p.v.cell? ⟨w.heap.size, 1, none⟩ = some (.string sp) := NewW.cell c1
                  have y4 : ∀ p : NewW W, p.v.cell? ⟨w.heap.size, 4, none⟩ = some (.int .i64 m) := NewW.cell c4
                  have y5 : ∀ p : NewW W, p.v.cell? ⟨w.heap.size, 5, none⟩ = some (.slice a hs.length c) := NewW.cell c5
                  have hne := NewW.ne W
                  by_cases hm1 : 0 ≤ m
                  · rw [decide_eq_true hm1] at HF
                    have x1 : decide (0 ≤ m) = true := decide_eq_true hm1
                    by_cases hm2 : m ≤ 65535
                    · rw [decide_eq_true hm2] at HF
                      have x2 : decide (m ≤ 65535) = true := decide_eq_true hm2
                      obtain ⟨u, rfl⟩ : ∃ u : Nat, m = (u : Int) := ⟨m.toNat, by omega⟩
                      rw [Int.toNat_natCast] at HF
                      obtain ⟨q, hq⟩ : ∃ q, popN u = q := ⟨_, rfl⟩
                      have HB : ∀ w, Calls Tryd.prog 30 #[.int .i64 (u : Int)] w fun e w' => e = .returned (.int .i64 (q : Int)) ∧ New w w' := fun w => by rw [← hq]; exact (bits_any u (by omega) w).mono fun e w' ⟨h1, h2⟩ => ⟨h1, by rw [h2]; exact New.refl w⟩
                      have hq16 : q ≤ 16 := by rw [← hq]; exact popN_le u
                      obtain ⟨b7, hb7⟩ : ∃ b, decide (q = hs.length) = b := ⟨_, rfl⟩
                      have x7 : ((q : Int) == (hs.length : Int)) = b7 := by rw [← hb7]; exact nat_beq _ _
                      rw [hq, hb7] at HF
                      clear hm1 hm2 hq hb7 em0 em1
                      cases b0
                      · skip
                        go_wp2_with fail
                        refine region_new W (New.refl W) (by kernel_rfl) (by kernel_rfl) ?_
                        repeat (go_big_quiet_step (first | (go_at_call 30; exact Calls.neww (HB _))))
                        refine wpQuiet_nil ?_
                        rintro w5 ⟨⟨_, k5⟩, rfl⟩
                        go_wp2_with fail
                        go_ret
                        exact ⟨ret_bool HF.out.symm, N0.trans k5⟩
                      · cases b7
                        · skip
                          go_wp2_with fail
                          refine region_new W (New.refl W) (by kernel_rfl) (by kernel_rfl) ?_
                          repeat (go_big_quiet_step (first | (go_at_call 30; exact Calls.neww (HB _))))
                          refine wpQuiet_nil ?_
                          rintro w5 ⟨⟨_, k5⟩, rfl⟩
                          go_wp2_with fail
                          go_ret
                          exact ⟨ret_bool HF.out.symm, N0.trans k5⟩
                        · cases b8
                          all_goals
                            go_wp2_with fail
                            refine region_new W (New.refl W) (by kernel_rfl) (by kernel_rfl) ?_
                            repeat (go_big_quiet_step (first | (go_at_call 30; exact Calls.neww (HB _))))
                            refine wpQuiet_nil ?_
                            rintro w5 ⟨⟨_, k5⟩, rfl⟩
                            go_wp2_with fail
                            go_ret
                            exact ⟨ret_bool HF.out.symm, N0.trans k5⟩
                    · rw [decide_eq_false hm2] at HF
                      have x2 : decide (m ≤ 65535) = false := decide_eq_false hm2
                      have HB := bits_any 0 (by omega)
                      clear hm1 hm2
                      cases b0
                      all_goals
                        go_wp2_with fail
                        refine region_new W (New.refl W) (by kernel_rfl) (by kernel_rfl) ?_
                        repeat (go_big_quiet_step (fail))
                        refine wpQuiet_nil ?_
                        rintro w5 ⟨⟨_, k5⟩, rfl⟩
                        go_wp2_with fail
                        go_ret
                        exact ⟨ret_bool HF.out.symm, N0.trans k5⟩
                  · rw [decide_eq_false hm1] at HF
                    have x1 : decide (0 ≤ m) = false := decide_eq_false hm1
                    clear hm1
                    cases b0
                    all_goals
                      go_wp2_with fail
                      refine region_new W (New.refl W) (by kernel_rfl) (by kernel_rfl) ?_
                      repeat (go_big_quiet_step (fail))
                      refine wpQuiet_nil ?_
                      rintro w5 ⟨⟨_, k5⟩, rfl⟩
                      go_wp2_with fail
                      go_ret
                      exact ⟨ret_bool HF.out.symm, N0.trans k5⟩
                · have d3 : (k == 3) = false := by rw [int_beq]; exact decide_eq_false k3
                  have HF := hide (HFk.out k1 k2 k3)
                  clear k1 k2 k3 HF1 HF2 HF3 HFk HP
                  go_wp2_with fail
                  go_ret
                  exact ⟨ret_bool HF.out.symm, N0⟩
        · have HG : Hid (gv = true) := by
            show _ = _
            rw [HVV.out]
            rfl
          clear HVV HFv
          by_cases k1 : k = 1
          · have d1 : (k == 1) = true := by rw [int_beq]; exact decide_eq_true k1
            have HF := hide (HF1.out k1 HA1.out HG.out)
            clear k1 HF1 HF2 HF3 HFk
            cases b1
            · skip
              go_wp2_with fail
              refine (HP _).mono ?_
              rintro _ _ ⟨rfl, rfl⟩
              go_wp2_with fail
              go_ret
              exact ⟨ret_bool HF.out.symm, N0⟩
            · cases m0
              · skip
                go_wp2_with fail
                refine (HP _).mono ?_
                rintro _ _ ⟨rfl, rfl⟩
                go_wp2_with fail
                go_ret
                exact ⟨ret_bool HF.out.symm, N0⟩
              · cases bz
                all_goals
                  go_wp2_with fail
                  refine (HP _).mono ?_
                  rintro _ _ ⟨rfl, rfl⟩
                  go_wp2_with fail
                  go_ret
                  exact ⟨ret_bool HF.out.symm, N0⟩
          · have d1 : (k == 1) = false := by rw [int_beq]; exact decide_eq_false k1
            by_cases k2 : k = 2
            · have d2 : (k == 2) = true := by rw [int_beq]; exact decide_eq_true k2
              have HF := hide (HF2.out k2 HA1.out HG.out)
              clear k1 k2 HF1 HF2 HF3 HFk
              cases b1
              · skip
                go_wp2_with fail
                refine (HP _).mono ?_
                rintro _ _ ⟨rfl, rfl⟩
                go_wp2_with fail
                go_ret
                exact ⟨ret_bool HF.out.symm, N0⟩
              · cases b0
                · skip
                  go_wp2_with fail
                  refine (HP _).mono ?_
                  rintro _ _ ⟨rfl, rfl⟩
                  go_wp2_with fail
                  go_ret
                  exact ⟨ret_bool HF.out.symm, N0⟩
                · skip
                  go_wp2_with fail
                  refine (HP _).mono ?_
                  rintro _ _ ⟨rfl, rfl⟩
                  go_wp2_with fail
                  go_ret
                  exact ⟨ret_bool HF.out.symm, N0⟩
            · have d2 : (k == 2) = false := by rw [int_beq]; exact decide_eq_false k2
              by_cases k3 : k = 3
              · have d3 : (k == 3) = true := by rw [int_beq]; exact decide_eq_true k3
                have HF := hide (HF3.out k3 HA1.out HG.out)
                clear k1 k2 k3 HF1 HF2 HF3 HFk HP
                obtain ⟨b8, hb8⟩ : ∃ b, decide (2 ≤ hs.length + 1) = b := ⟨_, rfl⟩
                have d8 : decide (2 ≤ (hs.length : Int) + 1) = b8 := by rw [← hb8]; exact decide_eq_decide.2 (by omega)
                replace HF : Hid (g = (b0 && (decide (0 ≤ m) && (decide (m ≤ 65535) && (decide (popN m.toNat = hs.length) && b8))))) := by show _ = _; rw [HF.out, ← hb8]; rfl
                clear hb8
                have y1 : ∀ p : NewW W, p.v.cell? ⟨w.heap.size, 1, none⟩ = some (.string sp) := NewW.cell c1
                have y4 : ∀ p : NewW W, p.v.cell? ⟨w.heap.size, 4, none⟩ = some (.int .i64 m) := NewW.cell c4
                have y5 : ∀ p : NewW W, p.v.cell? ⟨w.heap.size, 5, none⟩ = some (.slice a hs.length c) := NewW.cell c5
                have hne := NewW.ne W
                by_cases hm1 : 0 ≤ m
                · rw [decide_eq_true hm1] at HF
                  have x1 : decide (0 ≤ m) = true := decide_eq_true hm1
                  by_cases hm2 : m ≤ 65535
                  · rw [decide_eq_true hm2] at HF
                    have x2 : decide (m ≤ 65535) = true := decide_eq_true hm2
                    obtain ⟨u, rfl⟩ : ∃ u : Nat, m = (u : Int) := ⟨m.toNat, by omega⟩
                    rw [Int.toNat_natCast] at HF
                    obtain ⟨q, hq⟩ : ∃ q, popN u = q := ⟨_, rfl⟩
                    have HB : ∀ w, Calls Tryd.prog 30 #[.int .i64 (u : Int)] w fun e w' => e = .returned (.int .i64 (q : Int)) ∧ New w w' := fun w => by rw [← hq]; exact (bits_any u (by omega) w).mono fun e w' ⟨h1, h2⟩ => ⟨h1, by rw [h2]; exact New.refl w⟩
                    have hq16 : q ≤ 16 := by rw [← hq]; exact popN_le u
                    obtain ⟨b7, hb7⟩ : ∃ b, decide (q = hs.length) = b := ⟨_, rfl⟩
                    have x7 : ((q : Int) == (hs.length : Int)) = b7 := by rw [← hb7]; exact nat_beq _ _
                    rw [hq, hb7] at HF
                    clear hm1 hm2 hq hb7 em0 em1
                    cases b0
                    · skip
                      go_wp2_with fail
                      refine region_new W (New.refl W) (by kernel_rfl) (by kernel_rfl) ?_
                      repeat (go_big_quiet_step (first | (go_at_call 30; exact Calls.neww (HB _))))
                      refine wpQuiet_nil ?_
                      rintro w5 ⟨⟨_, k5⟩, rfl⟩
                      go_wp2_with fail
                      go_ret
                      exact ⟨ret_bool HF.out.symm, N0.trans k5⟩
                    · cases b7
                      · skip
                        go_wp2_with fail
                        refine region_new W (New.refl W) (by kernel_rfl) (by kernel_rfl) ?_
                        repeat (go_big_quiet_step (first | (go_at_call 30; exact Calls.neww (HB _))))
                        refine wpQuiet_nil ?_
                        rintro w5 ⟨⟨_, k5⟩, rfl⟩
                        go_wp2_with fail
                        go_ret
                        exact ⟨ret_bool HF.out.symm, N0.trans k5⟩
                      · cases b8
                        all_goals
                          go_wp2_with fail
                          refine region_new W (New.refl W) (by kernel_rfl) (by kernel_rfl) ?_
                          repeat (go_big_quiet_step (first | (go_at_call 30; exact Calls.neww (HB _))))
                          refine wpQuiet_nil ?_
                          rintro w5 ⟨⟨_, k5⟩, rfl⟩
                          go_wp2_with fail
                          go_ret
                          exact ⟨ret_bool HF.out.symm, N0.trans k5⟩
                  · rw [decide_eq_false hm2] at HF
                    have x2 : decide (m ≤ 65535) = false := decide_eq_false hm2
                    have HB := bits_any 0 (by omega)
                    clear hm1 hm2
                    cases b0
                    all_goals
                      go_wp2_with fail
                      refine region_new W (New.refl W) (by kernel_rfl) (by kernel_rfl) ?_
                      repeat (go_big_quiet_step (fail))
                      refine wpQuiet_nil ?_
                      rintro w5 ⟨⟨_, k5⟩, rfl⟩
                      go_wp2_with fail
                      go_ret
                      exact ⟨ret_bool HF.out.symm, N0.trans k5⟩
                · rw [decide_eq_false hm1] at HF
                  have x1 : decide (0 ≤ m) = false := decide_eq_false hm1
                  clear hm1
                  cases b0
                  all_goals
                    go_wp2_with fail
                    refine region_new W (New.refl W) (by kernel_rfl) (by kernel_rfl) ?_
                    repeat (go_big_quiet_step (fail))
                    refine wpQuiet_nil ?_
                    rintro w5 ⟨⟨_, k5⟩, rfl⟩
                    go_wp2_with fail
                    go_ret
                    exact ⟨ret_bool HF.out.symm, N0.trans k5⟩
              · have d3 : (k == 3) = false := by rw [int_beq]; exact decide_eq_false k3
                have HF := hide (HFk.out k1 k2 k3)
                clear k1 k2 k3 HF1 HF2 HF3 HFk HP
                go_wp2_with fail
                go_ret
                exact ⟨ret_bool HF.out.symm, N0⟩

end Go.Proofs.YtecamiefpdkjoaaDoor
namespace Go.Proofs.YtecamiefpdkjoaaDoor
open Go.RowKit
set_option maxRecDepth 20000
set_option linter.unusedVariables false

set_option maxHeartbeats 1000000 in
theorem texts_any (hs js : List (List UInt8)) (a b : Option Addr) (c d : Nat) (hl : hs.length ≤ 4611686018427387904) (w : World) (hT : Tx w a hs) (hU : Tx w b js) :
    Calls Tryd.prog 33 #[.slice a hs.length c, .slice b js.length d] w fun e w' => e = .returned (.bool (hs == js)) ∧ New w w' := by
  have HT : Hid (Tx w a hs) := hT
  have HU : Hid (Tx w b js) := hU
  clear hT hU
  by_cases he : hs.length = js.length
  · have hd : ((hs.length : Int) != (js.length : Int)) = false := by rw [bne_eq_false_iff_eq]; omega
    go_enter Tryd.func33, Tryd.ntmps33
    go_wp2_with fail
    go_loopw [5] (fun i wr => ∃ k : Nat, k ≤ hs.length ∧ i = .int .i64 (k : Int) ∧ (∀ j, j < k → hs[j]? = js[j]?) ∧ New w wr) (fun i _ => hs.length - (intOf i).toNat)
    case atStart => exact ⟨0, by omega, rfl, fun j hj => absurd hj (by omega), New.refl w⟩
    case round =>
      obtain ⟨k, hk, rfl, hall, N⟩ := hrel
      have HA : Hid (∀ j, j < k → hs[j]? = js[j]?) := hall
      clear hall
      by_cases hlt : k < hs.length
      · have hlt' : (k : Int) < (hs.length : Int) := by omega
        have hlt2 : (k : Int) < (js.length : Int) := by omega
        obtain ⟨x, rfl, hx⟩ := (HT.out.after N) (by omega)
        obtain ⟨y, rfl, hy⟩ := (HU.out.after N) (by omega)
        have hc1 := hx k hs[k] (List.getElem?_eq_getElem hlt)
        have hc2 := hy k js[k] (List.getElem?_eq_getElem (by omega))
        have d1 : ∀ p : NewW wr, p.v.cell? (x.add k) = some (.string (bs hs[k])) := fun p => (p.h.cell (World.block_lt_of_cell? wr _ hc1)).trans hc1
        have d2 : ∀ p : NewW wr, p.v.cell? (y.add k) = some (.string (bs js[k])) := fun p => (p.h.cell (World.block_lt_of_cell? wr _ hc2)).trans hc2
        have hne := NewW.ne wr
        have hq : ((bs hs[k]).toList == (bs js[k]).toList) = (hs[k] == js[k]) := beq_bs _ _
        have hq2 : ((bs hs[k]).toList != (bs js[k]).toList) = !(hs[k] == js[k]) := by rw [← hq]; rfl
        clear hx hy hc1 hc2
        by_cases heq : hs[k] = js[k]
        · have HE : Hid (hs[k]? = js[k]?) := by show _ = _; rw [List.getElem?_eq_getElem hlt, List.getElem?_eq_getElem (by omega), heq]
          have hb : (hs[k] == js[k]) = true := by rw [beq_iff_eq]; exact heq
          rw [hb] at hq hq2
          clear heq hb
          generalize bs hs[k] = s1 at *
          generalize bs js[k] = s2 at *
          go_wp2_with fail
          refine region_new wr (New.refl wr) (by kernel_rfl) (by kernel_rfl) ?_
          repeat (go_big_quiet_step (fail))
          refine wpQuiet_nil ?_
          rintro w5 ⟨⟨_, k5⟩, rfl⟩
          go_wp2_with fail
          exact ⟨⟨k + 1, by omega, by go_num, fun j hj => by
            by_cases e : j = k
            · subst e; exact HE.out
            · exact HA.out j (by omega), N.trans k5⟩, by simp [intOf]; omega⟩
        · have hb : (hs[k] == js[k]) = false := by rw [beq_eq_false_iff_ne]; exact heq
          have HF : Hid ((hs == js) = false) := by
            show _ = _
            rw [beq_eq_false_iff_ne]
            intro e
            exact heq (by subst e; rfl)
          rw [hb] at hq hq2
          clear heq hb
          generalize bs hs[k] = s1 at *
          generalize bs js[k] = s2 at *
          go_wp2_with fail
          refine region_new wr (New.refl wr) (by kernel_rfl) (by kernel_rfl) ?_
          repeat (go_big_quiet_step (fail))
          refine wpQuiet_nil ?_
          rintro w5 ⟨⟨_, k5⟩, rfl⟩
          go_wp2_with fail
          go_ret
          exact ⟨ret_bool HF.out.symm, N.trans k5⟩
      · obtain rfl : k = hs.length := by omega
        have HF : Hid ((hs == js) = true) := by
          show _ = _
          rw [beq_iff_eq]
          apply List.ext_getElem?
          intro j
          by_cases hj : j < hs.length
          · exact HA.out j hj
          · rw [List.getElem?_eq_none (by omega), List.getElem?_eq_none (by omega)]
        go_wp2_with fail
        go_ret
        exact ⟨ret_bool HF.out.symm, N⟩
  · have hd : ((hs.length : Int) != (js.length : Int)) = true := by rw [bne_iff_ne]; omega
    have HF : Hid ((hs == js) = false) := by
      show _ = _
      rw [beq_eq_false_iff_ne]
      intro e
      exact he (by rw [e])
    go_enter Tryd.func33, Tryd.ntmps33
    go_wp2_with fail
    go_ret
    exact ⟨ret_bool HF.out.symm, New.refl w⟩

def eqIt (I J : It) : Bool := decide (I.k = J.k) && (I.p == J.p && (I.has == J.has && (I.v == J.v && (decide (I.m = J.m) && I.hs == J.hs))))
theorem eqIt_iff (I J : It) : eqIt I J = true ↔ I = J := by
  obtain ⟨a, b, c, d, e, f⟩ := I
  obtain ⟨a', b', c', d', e', f'⟩ := J
  simp only [eqIt, Bool.and_eq_true, beq_iff_eq, It.mk.injEq, decide_eq_true_eq]

set_option maxHeartbeats 2000000 in
theorem same_any (I J : It) (a b : Option Addr) (c d : Nat) (hl : I.hs.length ≤ 4611686018427387904) (w : World) (hT : Tx w a I.hs) (hU : Tx w b J.hs) :
    Calls Tryd.prog 17 #[itV I a c, itV J b d] w fun e w' => e = .returned (.bool (eqIt I J)) ∧ New w w' := by
  have HX := fun W h k => texts_any I.hs J.hs a b c d hl W h k
  obtain ⟨k, p, has, v, m, hs⟩ := I
  obtain ⟨k', p', has', v', m', js⟩ := J
  have HT : Hid (Tx w a hs) := hT
  have HU : Hid (Tx w b js) := hU
  obtain ⟨b1, hb1⟩ : ∃ x, decide (k = k') = x := ⟨_, rfl⟩
  obtain ⟨b2, hb2⟩ : ∃ x, (p == p') = x := ⟨_, rfl⟩
  obtain ⟨b3, hb3⟩ : ∃ x, (has == has') = x := ⟨_, rfl⟩
  obtain ⟨b4, hb4⟩ : ∃ x, (v == v') = x := ⟨_, rfl⟩
  obtain ⟨b5, hb5⟩ : ∃ x, decide (m = m') = x := ⟨_, rfl⟩
  have HL : Hid (eqIt ⟨k, p, has, v, m, hs⟩ ⟨k', p', has', v', m', js⟩ = (b1 && (b2 && (b3 && (b4 && (b5 && hs == js)))))) := by show _ = _; unfold eqIt; rw [hb1, hb2, hb3, hb4, hb5]
  rw [HL.out]
  have e1 : (k == k') = b1 := by rw [← hb1]; exact int_beq _ _
  have e2 : ((bs p).toList == (bs p').toList) = b2 := by rw [← hb2]; exact beq_bs _ _
  have e4 : ((bs v).toList == (bs v').toList) = b4 := by rw [← hb4]; exact beq_bs _ _
  have e5 : (m == m') = b5 := by rw [← hb5]; exact int_beq _ _
  have N0 : New w ((w.alloc (.cells #[.int .i64 k, .string (bs p), .bool has, .string (bs v), .int .i64 m, .slice a hs.length c] 24)).alloc (.cells #[.int .i64 k', .string (bs p'), .bool has', .string (bs v'), .int .i64 m', .slice b js.length d] 24)) := ((New.refl w).alloc _).alloc _
  clear HL hb1 hb2 hb4 hb5 hT hU hl
  show Calls Tryd.prog 17 #[.agg #[.int .i64 k, .string (bs p), .bool has, .string (bs v), .int .i64 m, .slice a hs.length c], .agg #[.int .i64 k', .string (bs p'), .bool has', .string (bs v'), .int .i64 m', .slice b js.length d]] w _
  replace HX : ∀ W, Tx W a hs → Tx W b js → Calls Tryd.prog 33 #[.slice a hs.length c, .slice b js.length d] W fun e w' => e = .returned (.bool (hs == js)) ∧ New W w' := HX
  generalize (hs == js) = b6 at *
  generalize bs p = sp at *
  generalize bs v = sv at *
  generalize bs p' = sp' at *
  generalize bs v' = sv' at *
  have hx : (b1 && (b2 && (b3 && (b4 && b5)))) = false ∨ (b1 = true ∧ b2 = true ∧ b3 = true ∧ b4 = true ∧ b5 = true) := by
    cases b1 <;> cases b2 <;> cases b3 <;> cases b4 <;> cases b5 <;> simp
  rcases hx with hf | ⟨rfl, rfl, rfl, rfl, rfl⟩
  · have HR : Hid ((b1 && (b2 && (b3 && (b4 && (b5 && b6))))) = false) := by
      show _ = _
      cases b1 <;> cases b2 <;> cases b3 <;> cases b4 <;> cases b5 <;> simp_all
    rw [HR.out]
    clear HR HX
    cases b1
    · clear hf
      go_enter Tryd.func17, Tryd.ntmps17
      go_wp2_with fail
      go_ret
      exact ⟨rfl, N0⟩
    · cases b2
      · clear hf
        go_enter Tryd.func17, Tryd.ntmps17
        go_wp2_with fail
        go_ret
        exact ⟨rfl, N0⟩
      · cases b3
        · clear hf
          go_enter Tryd.func17, Tryd.ntmps17
          go_wp2_with fail
          go_ret
          exact ⟨rfl, N0⟩
        · cases b4
          · clear hf
            go_enter Tryd.func17, Tryd.ntmps17
            go_wp2_with fail
            go_ret
            exact ⟨rfl, N0⟩
          · cases b5
            · clear hf
              go_enter Tryd.func17, Tryd.ntmps17
              go_wp2_with fail
              go_ret
              exact ⟨rfl, N0⟩
            · cases hf
  · go_enter Tryd.func17, Tryd.ntmps17
    go_wp2_with fail
    refine (HX _ (HT.out.after N0) (HU.out.after N0)).mono ?_
    rintro e w1 ⟨rfl, g1⟩
    cases b6
    all_goals
      go_wp2_with fail
      go_ret
      exact ⟨rfl, N0.trans g1⟩

end Go.Proofs.YtecamiefpdkjoaaDoor
namespace Go.Proofs.YtecamiefpdkjoaaDoor
open Go.RowKit
set_option maxRecDepth 20000
set_option linter.unusedVariables false

/-- What a call says, and that it writes nothing old. -/
abbrev Says (f : Nat) (args : Array Value) (v : Value) (W : World) : Prop := Calls Tryd.prog f args W fun e w' => e = .returned v ∧ New W w'
theorem c_long (I : It) (a : Option Addr) (c : Nat) : ∀ W, Tx W a I.hs → Says 7 #[.agg (itC I a c)] (.bool (longI I)) W := fun W h => long_any I a c W h
theorem c_enc (I : It) (hS : Small I) (a : Option Addr) (c : Nat) : ∀ W, Tx W a I.hs → TT W → Says 9 #[.agg (itC I a c)] (.tuple #[.string (bs (encB I)), .bool (goodI I)]) W := fun W h k => encode_any I hS a c W h k.1
theorem c_hash (I : It) (hS : Small I) (a : Option Addr) (c : Nat) : ∀ W, Tx W a I.hs → TT W → Says 10 #[.agg (itC I a c)] (.tuple #[.string (bs (hashB I)), .bool (goodI I)]) W := fun W h k => hash_any I hS a c W h k
theorem c_good (I : It) (hS : Small I) (a : Option Addr) (c : Nat) : ∀ W, Tx W a I.hs → Says 13 #[.agg (itC I a c)] (.bool (goodI I)) W := fun W h => Good_any I hS a c W h
theorem c_rgood (I : It) (hS : Small I) (a : Option Addr) (c : Nat) : ∀ W, Tx W a I.hs → Says 14 #[.agg (itC I a c)] (.bool (goodI I)) W := fun W h => rGood_any I hS a c W h
theorem c_same (I J : It) (hS : Small I) (a b : Option Addr) (c d : Nat) : ∀ W, Tx W a I.hs → Tx W b J.hs → Says 17 #[.agg (itC I a c), .agg (itC J b d)] (.bool (eqIt I J)) W := fun W h k => same_any I J a b c d hS.n W h k
theorem c_dg (q : ByteArray) (hq : q.size ≤ 4000) : ∀ W, TT W → Says 18 #[.string q] (.string (bs (Dg.ofL (L q)))) W := fun W k => by
  have h := dg_of (L q) (by rw [L_size]; exact hq) W k.2
  rwa [bs_L] at h
theorem c_wakes : ∀ W, TT W → Says 8 #[] (.bool true) W := fun W k => wakes_any W k
theorem c_dec_no (q : ByteArray) (hq : q.size ≤ 4000) (h : decB (L q) = false) : ∀ W, TT W → Says 11 #[.string q] (.tuple #[.agg itZ, .bool false]) W := fun W k => by
  have h1 := decode_any (L q) (by rw [L_size]; exact hq) W k.1
  rw [bs_L] at h1
  refine h1.mono fun e w' h2 => ?_
  unfold MadeG at h2
  rw [h, if_neg Bool.false_ne_true] at h2
  exact ⟨h2.2, h2.1⟩
theorem c_dec_yes (q : ByteArray) (hq : q.size ≤ 4000) (h : decB (L q) = true) : ∀ W, TT W → Calls Tryd.prog 11 #[.string q] W fun e w' => New W w' ∧ ∃ a c, e = .returned (.tuple #[.agg (itC (itP (inP (L q))) a c), .bool true]) ∧ Tx w' a (itP (inP (L q))).hs := fun W k => by
  have h1 := decode_any (L q) (by rw [L_size]; exact hq) W k.1
  rw [bs_L] at h1
  refine h1.mono fun e w' h2 => ?_
  unfold MadeG at h2
  rw [h, if_pos rfl] at h2
  exact h2
theorem itC_size (I : It) (a : Option Addr) (c : Nat) : (Tryd.prog.info? 24).map (·.size) = some (itC I a c).size := i24
theorem good_small (I : It) (h : goodI I = true) : Small I := by
  rw [goodI_iff] at h
  cases h with
  | leaf p v hp hv => exact ⟨by have := (goodB_parts hp).1; simp only; omega, by simp only; omega, by simp, fun h hh => by cases hh⟩
  | ext p h hp h0 hh => exact ⟨by have := (goodB_parts hp).1; simp only; omega, by simp, by simp, fun x hx => by simp only [List.mem_singleton] at hx; subst hx; omega⟩
  | branch has v m hs hv hv2 hm h2 hl hh => exact ⟨by simp, by simp only; omega, by have := popN_le m; simp only; omega, fun x hx => by have := hh x hx; omega⟩
theorem tt_after {w w' : World} (h : TT w) (k : New w w') : TT w' := h.after k

end Go.Proofs.YtecamiefpdkjoaaDoor
