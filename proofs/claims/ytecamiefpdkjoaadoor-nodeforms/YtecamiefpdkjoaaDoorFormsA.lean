/-
  NodeForms' walk: whatever Item, the call returns true, where the tables lie as their initialisers lay them.
-/
import Derived.Test.YtecamiefpdkjoaaDoorNdWakes
namespace Go.Proofs.YtecamiefpdkjoaaDoor
open Go.RowKit
set_option maxRecDepth 20000
set_option linter.unusedVariables false

theorem enc_head (I : It) (h : goodI I = true) : ∃ r, encL I = UInt8.ofNat I.k.toNat :: r ∧ ((UInt8.ofNat I.k.toNat).toNat : Int) = I.k := by
  refine ⟨_, rfl, ?_⟩
  rw [goodI_iff] at h
  cases h <;> rfl

set_option maxHeartbeats 2000000 in
theorem forms_long (I : It) (h : longI I = true) (a : Option Addr) (c : Nat) (w : World) (hT : Tx w a I.hs) (hTT : TT w) :
    Calls Tryd.prog 5 #[itV I a c] w fun e w' => e = .returned (.bool true) ∧ New w w' := by
  have HL := fun W k => long_any I a c W k
  rw [h] at HL
  obtain ⟨k, p, has, v, m, hs⟩ := I
  have HT : Hid (Tx w a hs) := hT
  have N0 : New w (w.alloc (.cells #[.int .i64 k, .string (bs p), .bool has, .string (bs v), .int .i64 m, .slice a hs.length c] 24)) := (New.refl w).alloc _
  clear hT h
  show Calls Tryd.prog 5 #[.agg #[.int .i64 k, .string (bs p), .bool has, .string (bs v), .int .i64 m, .slice a hs.length c]] w _
  replace HL : ∀ W, Tx W a hs → Calls Tryd.prog 7 #[.agg #[.int .i64 k, .string (bs p), .bool has, .string (bs v), .int .i64 m, .slice a hs.length c]] W fun e w' => e = .returned (.bool true) ∧ New W w' := HL
  generalize bs p = sp at *
  generalize bs v = sv at *
  go_enter Tryd.func5, Tryd.ntmps5
  go_wp2_with fail
  refine (HL _ (HT.out.after N0)).mono ?_
  rintro _ W1 ⟨rfl, N1⟩
  go_wp2_with fail
  refine (wakes_any _ (hTT.after (N0.trans N1))).mono ?_
  rintro _ W2 ⟨rfl, N2⟩
  go_wp2_with fail
  go_ret
  exact ⟨rfl, (N0.trans N1).trans N2⟩

set_option maxHeartbeats 2000000 in
theorem forms_no (I : It) (h : longI I = false) (hg : goodI I = false) (a : Option Addr) (c : Nat) (w : World) (hT : Tx w a I.hs) (hTT : TT w) :
    Calls Tryd.prog 5 #[itV I a c] w fun e w' => e = .returned (.bool true) ∧ New w w' := by
  have hS := (longI_small h).1
  have HL := fun W k => long_any I a c W k
  have HE := fun W k => encode_no I hS hg a c W k
  have HG := fun W k => Good_any I hS a c W k
  rw [h] at HL
  rw [hg] at HG
  obtain ⟨k, p, has, v, m, hs⟩ := I
  have HT : Hid (Tx w a hs) := hT
  have N0 : New w (w.alloc (.cells #[.int .i64 k, .string (bs p), .bool has, .string (bs v), .int .i64 m, .slice a hs.length c] 24)) := (New.refl w).alloc _
  have R0 := Row.new w #[.int .i64 k, .string (bs p), .bool has, .string (bs v), .int .i64 m, .slice a hs.length c] 24
  clear hT h hg hS
  show Calls Tryd.prog 5 #[.agg #[.int .i64 k, .string (bs p), .bool has, .string (bs v), .int .i64 m, .slice a hs.length c]] w _
  replace HL : ∀ W, Tx W a hs → Calls Tryd.prog 7 #[.agg #[.int .i64 k, .string (bs p), .bool has, .string (bs v), .int .i64 m, .slice a hs.length c]] W fun e w' => e = .returned (.bool false) ∧ New W w' := HL
  replace HE : ∀ W, Tx W a hs → Calls Tryd.prog 9 #[.agg #[.int .i64 k, .string (bs p), .bool has, .string (bs v), .int .i64 m, .slice a hs.length c]] W fun e w' => e = .returned (.tuple #[.string ⟨#[]⟩, .bool false]) ∧ New W w' := HE
  replace HG : ∀ W, Tx W a hs → Calls Tryd.prog 13 #[.agg #[.int .i64 k, .string (bs p), .bool has, .string (bs v), .int .i64 m, .slice a hs.length c]] W fun e w' => e = .returned (.bool false) ∧ New W w' := HG
  generalize bs p = sp at *
  generalize bs v = sv at *
  go_enter Tryd.func5, Tryd.ntmps5
  go_wp2_with fail
  refine (HL _ (HT.out.after N0)).mono ?_
  rintro _ W1 ⟨rfl, N1⟩
  replace R0 := R0.after N1
  replace N0 := N0.trans N1
  clear N1
  go_wp2_with (refine wpList_load_row (by rfl) 24 _ (by rfl) w.heap.size (by rfl) 24 _ (0, 0) _ R0 Tryd.underlying24 rfl i24 ?_)
  refine (HE _ (HT.out.after N0)).mono ?_
  rintro _ W2 ⟨rfl, N2⟩
  replace R0 := R0.after N2
  replace N0 := N0.trans N2
  clear N2
  go_wp2_with (refine wpList_load_want (by rfl) 24 _ (by rfl) w.heap.size (by rfl) 24 _ _ R0 Tryd.underlying24 rfl i24 ?_)
  refine (HG _ (HT.out.after N0)).mono ?_
  rintro _ W3 ⟨rfl, N3⟩
  replace N0 := N0.trans N3
  clear N3
  go_wp2_with fail
  refine (wakes_any _ (hTT.after N0)).mono ?_
  rintro _ W4 ⟨rfl, N4⟩
  go_wp2_with fail
  go_ret
  exact ⟨rfl, N0.trans N4⟩

set_option maxHeartbeats 4000000 in
theorem forms_yes (I : It) (h : longI I = false) (hg : goodI I = true) (a : Option Addr) (c : Nat) (w : World) (hT : Tx w a I.hs) (hTT : TT w) :
    Calls Tryd.prog 5 #[itV I a c] w fun e w' => e = .returned (.bool true) ∧ New w w' := by
  have hS := (longI_small h).1
  have HL := fun W k => long_any I a c W k
  have HE := fun W k k2 => encode_yes I hS hg a c W k k2
  obtain ⟨r, hr, hkb⟩ := enc_head I hg
  obtain ⟨hlen, h533, h16⟩ := enc_len I hg
  have hz : (bs (encL I)).size = lenN I := hlen
  have hcc := (head_parts (bs (encL I)) _ r (by rw [L_bs]; exact hr)).2.2
  rw [h] at HL
  obtain ⟨k, p, has, v, m, hs⟩ := I
  simp only at hkb h16
  have HT : Hid (Tx w a hs) := hT
  have N0 : New w (w.alloc (.cells #[.int .i64 k, .string (bs p), .bool has, .string (bs v), .int .i64 m, .slice a hs.length c] 24)) := (New.refl w).alloc _
  have R0 := Row.new w #[.int .i64 k, .string (bs p), .bool has, .string (bs v), .int .i64 m, .slice a hs.length c] 24
  have hpl : p.length ≤ 200 := (longI_small h).2.1
  have hvl : v.length ≤ 200 := (longI_small h).2.2.1
  show Calls Tryd.prog 5 #[.agg #[.int .i64 k, .string (bs p), .bool has, .string (bs v), .int .i64 m, .slice a hs.length c]] w _
  replace HL : ∀ W, Tx W a hs → Calls Tryd.prog 7 #[.agg #[.int .i64 k, .string (bs p), .bool has, .string (bs v), .int .i64 m, .slice a hs.length c]] W fun e w' => e = .returned (.bool false) ∧ New W w' := HL
  replace HE : ∀ W, Tx W a hs → Tab W → Calls Tryd.prog 9 #[.agg #[.int .i64 k, .string (bs p), .bool has, .string (bs v), .int .i64 m, .slice a hs.length c]] W fun e w' => e = .returned (.tuple #[.string (bs (encL ⟨k, p, has, v, m, hs⟩)), .bool true]) ∧ New W w' := HE
  unfold lenN at hz h533
  simp only at hz h533
  have hzp : (bs p).size = p.length := rfl
  have hbp : (bs p).size ≤ 200 := hpl
  have hbv : (bs v).size ≤ 200 := hvl
  have hzv : (bs v).size = v.length := rfl
  generalize bs (encL ⟨k, p, has, v, m, hs⟩) = st at *
  generalize bs p = sp at *
  generalize bs v = sv at *
  obtain ⟨h0, hc0⟩ := hcc
  generalize UInt8.ofNat k.toNat = kb at *
  have e2 : ((kb.toNat : Int) == k) = true := by rw [int_beq]; exact decide_eq_true hkb
  have hc256 := kb.toNat_lt
  have hwk : IntKind.i64.wrap (kb.toNat : Int) = (kb.toNat : Int) := wraps_i64 _ (Int.natCast_nonneg _) (by omega)
  clear hT h hg hS hr hlen hkb
  obtain ⟨x1, hx1⟩ : ∃ x, 1 + 32 * hs.length = x := ⟨_, rfl⟩
  have r1 : (1 : Int) + 32 * (hs.length : Int) = (x1 : Int) := by omega
  obtain ⟨x2, hx2⟩ : ∃ x, x1 + (if k = 3 then 3 else 1 + (p.length + 1) / 2) = x := ⟨_, rfl⟩
  obtain ⟨x3, hx3⟩ : ∃ x, x2 + (if has then 1 + v.length else 0) = x := ⟨_, rfl⟩
  rw [hx1, hx2, hx3] at hz h533
  have e1 : ((st.size : Int) == (x3 : Int)) = true := by rw [hz]; exact beq_self_eq_true _
  have e3 : decide ((x3 : Int) ≤ 533) = true := decide_eq_true (by omega)
  have e1' : (st.size == x3) = true := by rw [hz]; exact beq_self_eq_true _
  have e3' : decide (x3 ≤ 533) = true := decide_eq_true (by omega)
  have HZ : Hid (st.size = x3) := hz
  have h0' : (0 : Int) < (st.size : Int) := by omega
  clear hz
  go_enter Tryd.func5, Tryd.ntmps5
  go_wp2_with fail
  refine (HL _ (HT.out.after N0)).mono ?_
  rintro _ W1 ⟨rfl, N1⟩
  replace R0 := R0.after N1
  replace N0 := N0.trans N1
  clear N1
  go_wp2_with (refine wpList_load_row (by rfl) 24 _ (by rfl) w.heap.size (by rfl) 24 _ (0, 0) _ R0 Tryd.underlying24 rfl i24 ?_)
  refine (HE _ (HT.out.after N0) (hTT.after N0).1).mono ?_
  rintro _ W2 ⟨rfl, N2⟩
  replace R0 := R0.after N2
  replace N0 := N0.trans N2
  clear N2
  have c0 : W2.cell? ⟨w.heap.size, 0, none⟩ = some (.int .i64 k) := R0.cell 0
  have c1 : W2.cell? ⟨w.heap.size, 1, none⟩ = some (.string sp) := R0.cell 1
  have c2 : W2.cell? ⟨w.heap.size, 2, none⟩ = some (.bool has) := R0.cell 2
  have c3 : W2.cell? ⟨w.heap.size, 3, none⟩ = some (.string sv) := R0.cell 3
  have c5 : W2.cell? ⟨w.heap.size, 5, none⟩ = some (.slice a hs.length c) := R0.cell 5
  have d0 := NewW.cell c0
  have hne := NewW.ne W2
  generalize w.heap.size = g at *
  have hk3 : k = 3 ∨ k ≠ 3 := by omega
  rcases hk3 with hk3 | hk3
  · have d3 : (k == 3) = true := by rw [int_beq]; exact decide_eq_true hk3
    rw [if_pos hk3] at hx2
    have r2 : (x1 : Int) + 3 = (x2 : Int) := by omega
    clear hk3
    cases has
    · rw [if_neg Bool.false_ne_true] at hx3
      obtain rfl : x2 = x3 := hx3
      clear hzv hzp
      go_wp2_with fail
      refine region_new W2 (New.refl W2) (by kernel_rfl) (by kernel_rfl) ?_
      repeat (go_big_quiet_step (first | (go_at_call 8; exact Calls.neww (wakes_any _ (hTT.after (N0.trans (NewW.h _)))))))
      refine wpQuiet_nil ?_
      rintro w5 ⟨⟨_, k5⟩, rfl⟩
      go_wp2_with fail
      go_ret
      exact ⟨rfl, N0.trans k5⟩
    · rw [if_pos rfl] at hx3
      have r3 : (x2 : Int) + (1 + (sv.size : Int)) = (x3 : Int) := by omega
      clear hzv hzp
      go_wp2_with fail
      refine region_new W2 (New.refl W2) (by kernel_rfl) (by kernel_rfl) ?_
      repeat (go_big_quiet_step (first | (go_at_call 8; exact Calls.neww (wakes_any _ (hTT.after (N0.trans (NewW.h _)))))))
      refine wpQuiet_nil ?_
      rintro w5 ⟨⟨_, k5⟩, rfl⟩
      go_wp2_with fail
      go_ret
      exact ⟨rfl, N0.trans k5⟩
  · have d3 : (k == 3) = false := by rw [int_beq]; exact decide_eq_false hk3
    rw [if_neg hk3] at hx2
    obtain ⟨y, hy⟩ : ∃ y, (p.length + 1) / 2 = y := ⟨_, rfl⟩
    have ry : ((sp.size : Int) + 1) / 2 = (y : Int) := by omega
    have r2 : (x1 : Int) + (1 + (y : Int)) = (x2 : Int) := by omega
    have hy1 : y ≤ 200 := by omega
    clear hk3 hy
    cases has
    · rw [if_neg Bool.false_ne_true] at hx3
      obtain rfl : x2 = x3 := hx3
      clear hzv hzp
      go_wp2_with fail
      refine region_new W2 (New.refl W2) (by kernel_rfl) (by kernel_rfl) ?_
      repeat (go_big_quiet_step (first | (go_at_call 8; exact Calls.neww (wakes_any _ (hTT.after (N0.trans (NewW.h _)))))))
      refine wpQuiet_nil ?_
      rintro w5 ⟨⟨_, k5⟩, rfl⟩
      go_wp2_with fail
      go_ret
      exact ⟨rfl, N0.trans k5⟩
    · rw [if_pos rfl] at hx3
      have r3 : (x2 : Int) + (1 + (sv.size : Int)) = (x3 : Int) := by omega
      clear hzv hzp
      go_wp2_with fail
      refine region_new W2 (New.refl W2) (by kernel_rfl) (by kernel_rfl) ?_
      repeat (go_big_quiet_step (first | (go_at_call 8; exact Calls.neww (wakes_any _ (hTT.after (N0.trans (NewW.h _)))))))
      refine wpQuiet_nil ?_
      rintro w5 ⟨⟨_, k5⟩, rfl⟩
      go_wp2_with fail
      go_ret
      exact ⟨rfl, N0.trans k5⟩

theorem forms_any (I : It) (a : Option Addr) (c : Nat) (w : World) (hT : Tx w a I.hs) (hTT : TT w) :
    Calls Tryd.prog 5 #[itV I a c] w fun e w' => e = .returned (.bool true) ∧ New w w' := by
  cases h : longI I
  · cases hg : goodI I
    · exact forms_no I h hg a c w hT hTT
    · exact forms_yes I h hg a c w hT hTT
  · exact forms_long I h a c w hT hTT

end Go.Proofs.YtecamiefpdkjoaaDoor
