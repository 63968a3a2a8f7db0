/-
  The statements' own examples (wakes) come out true, where the tables lie as their initialisers lay them.
-/
import Derived.Test.YtecamiefpdkjoaaDoorNdLaw
namespace Go.Proofs.YtecamiefpdkjoaaDoor
open Go.RowKit
set_option maxRecDepth 20000
set_option linter.unusedVariables false

def ex1 : It := ⟨1, [1, 2, 3], true, [118], 0, []⟩
def ex2 : It := ⟨3, [], false, [], 32769, [hash1 1, hash1 2]⟩
def ex3 : It := ⟨3, [], false, [], 1, [hash1 1]⟩
def ex4 : It := ⟨1, [], true, [], 0, []⟩
theorem small_of (I : It) (h : (decide (I.p.length ≤ 4000) && (decide (I.v.length ≤ 4000) && (decide (I.hs.length ≤ 4000) && I.hs.all fun h => decide (h.length ≤ 4000)))) = true) : Small I := by
  simp only [Bool.and_eq_true, decide_eq_true_eq, List.all_eq_true] at h
  exact ⟨h.1, h.2.1, by omega, fun x hx => by have := h.2.2.2 x hx; omega⟩
theorem ex1_any (w : World) (hT : Tab w) : Calls Tryd.prog 9 #[.agg #[.int .i64 1, .string ⟨#[1, 2, 3]⟩, .bool true, .string ⟨#[118]⟩, .int .i64 0, .slice none 0 0]] w fun e w' => e = .returned (.tuple #[.string ⟨#[1, 3, 18, 48, 1, 118]⟩, .bool true]) ∧ New w w' := by
  have h := encode_any ex1 (small_of _ (by decide +kernel)) none 0 w (Tx.nil _ _) hT
  rwa [show bs (encB ex1) = ⟨#[1, 3, 18, 48, 1, 118]⟩ by decide +kernel, show goodI ex1 = true by decide +kernel] at h
theorem tx2 (w : World) (g : Nat) (x y : List UInt8) (R : Row w g #[.string (bs x), .string (bs y)] 9) : Tx w (some ⟨g, 0, none⟩) [x, y] := fun _ => ⟨_, rfl, fun i h hi => by
  rw [Addr.add_mid, Nat.zero_add, R.cell]
  match i, hi with
  | 0, hi => cases hi; rfl
  | 1, hi => cases hi; rfl⟩
theorem tx1 (w : World) (g : Nat) (x : List UInt8) (R : Row w g #[.string (bs x)] 9) : Tx w (some ⟨g, 0, none⟩) [x] := fun _ => ⟨_, rfl, fun i h hi => by
  rw [Addr.add_mid, Nat.zero_add, R.cell]
  match i, hi with
  | 0, hi => cases hi; rfl⟩
theorem ex2_good : goodI ex2 = true := by decide +kernel
theorem ex2_any (w : World) (hT : Tab w) (g c : Nat) (R : Row w g #[.string (bs (hash1 1)), .string (bs (hash1 2))] 9) : Calls Tryd.prog 9 #[.agg #[.int .i64 3, .string ⟨#[]⟩, .bool false, .string ⟨#[]⟩, .int .i64 32769, .slice (some ⟨g, 0, none⟩) 2 c]] w fun e w' => e = .returned (.tuple #[.string (bs (encL ex2)), .bool true]) ∧ New w w' := by
  have h := encode_any ex2 (small_of _ (by decide +kernel)) (some ⟨g, 0, none⟩) c w (tx2 _ _ _ _ R) hT
  rwa [show encB ex2 = encL ex2 by unfold encB; rw [ex2_good]; rfl, ex2_good] at h
theorem ex3_any (w : World) (hT : Tab w) (g c : Nat) (R : Row w g #[.string (bs (hash1 1))] 9) : Calls Tryd.prog 9 #[.agg #[.int .i64 3, .string ⟨#[]⟩, .bool false, .string ⟨#[]⟩, .int .i64 1, .slice (some ⟨g, 0, none⟩) 1 c]] w fun e w' => e = .returned (.tuple #[.string ⟨#[]⟩, .bool false]) ∧ New w w' := by
  have h := encode_any ex3 (small_of _ (by decide +kernel)) (some ⟨g, 0, none⟩) c w (tx1 _ _ _ R) hT
  rwa [show goodI ex3 = false by decide +kernel, show bs (encB ex3) = ⟨#[]⟩ by decide +kernel] at h
theorem ex4_any (w : World) (hT : TT w) : Calls Tryd.prog 10 #[.agg #[.int .i64 1, .string ⟨#[]⟩, .bool true, .string ⟨#[]⟩, .int .i64 0, .slice none 0 0]] w fun e w' => e = .returned (.tuple #[.string (bs (Dg.ofL [1, 0, 0])), .bool true]) ∧ New w w' := by
  have h := hash_any ex4 (small_of _ (by decide +kernel)) none 0 w (Tx.nil _ _) hT
  rwa [show hashB ex4 = Dg.ofL [1, 0, 0] by unfold hashB; rw [show goodI ex4 = true by decide +kernel, if_pos rfl, show encL ex4 = [1, 0, 0] by decide +kernel], show goodI ex4 = true by decide +kernel] at h
theorem ex5_any (w : World) (hT : Tab w) : Calls Tryd.prog 11 #[.string ⟨#[1, 0, 0, 122]⟩] w fun e w' => e = .returned (.tuple #[.agg #[.int .i64 0, .string ⟨#[]⟩, .bool false, .string ⟨#[]⟩, .int .i64 0, .slice none 0 0], .bool false]) ∧ New w w' := by
  refine (decode_any [1, 0, 0, 122] (by decide) w hT).mono fun e w' h => ?_
  unfold MadeG at h
  rw [show decB [1, 0, 0, 122] = false by decide +kernel, if_neg Bool.false_ne_true] at h
  exact ⟨h.2, h.1⟩
def MadeE (w : World) (e : Ending) (w' : World) : Prop := New w w' ∧ ∃ a c, e = .returned (.tuple #[.agg #[.int .i64 3, .string ⟨#[]⟩, .bool false, .string ⟨#[]⟩, .int .i64 32769, .slice a 2 c], .bool true])
theorem ex6_any (w : World) (hT : Tab w) : Calls Tryd.prog 11 #[.string (bs (encL ex2))] w fun e w' => MadeE w e w' := by
  have hd := dec_enc ex2 ex2_good
  refine (decode_any (encL ex2) (by rw [(enc_len ex2 ex2_good).1]; have := (enc_len ex2 ex2_good).2.1; omega) w hT).mono fun e w' h => ?_
  unfold MadeG at h
  rw [hd.1, hd.2, if_pos rfl] at h
  obtain ⟨h1, a, c, h2, _⟩ := h
  exact ⟨h1, a, c, h2⟩
theorem ex7_any (w : World) (hT : Dg.Tab w) : Calls Tryd.prog 18 #[.string ⟨#[1, 0, 0]⟩] w fun e w' => e = .returned (.string (bs (Dg.ofL [1, 0, 0]))) ∧ New w w' := dg_of [1, 0, 0] (by decide) w hT
theorem h1_any (w : World) : Calls Tryd.prog 19 #[.int .u8 1] w fun e w' => e = .returned (.string (bs (hash1 1))) ∧ New w w' := hash1_any 1 w
theorem h2_any (w : World) : Calls Tryd.prog 19 #[.int .u8 2] w fun e w' => e = .returned (.string (bs (hash1 2))) ∧ New w w' := hash1_any 2 w

set_option maxHeartbeats 4000000 in
theorem wakes_any (w : World) (hT : TT w) : Calls Tryd.prog 8 #[] w fun e w' => e = .returned (.bool true) ∧ New w w' := by
  have z2 : (bs (encL ex2)).size = 68 := by decide +kernel
  have x2 : (bs (encL ex2)).extract 0 4 = ⟨#[3, 128, 1, 0]⟩ := by decide +kernel
  have H2 := ex2_any
  have H6 := ex6_any
  have H4 := ex4_any
  have H7 := ex7_any
  have H1 := h1_any
  have H1b := h2_any
  have H3 := ex3_any
  generalize bs (encL ex2) = s2 at *
  generalize bs (Dg.ofL [1, 0, 0]) = s4 at *
  generalize bs (hash1 1) = q1 at *
  generalize bs (hash1 2) = q2 at *
  have d4 : (s4.toList == s4.toList) = true := beq_self_eq_true _
  go_enter Tryd.func8, Tryd.ntmps8
  go_wp2_with fail
  refine (ex1_any _ hT.1).mono ?_
  rintro _ W1 ⟨rfl, N1⟩
  go_wp2_with fail
  refine (H1 _).mono ?_
  rintro _ W2 ⟨rfl, N2⟩
  go_wp2_with fail
  refine (H1b _).mono ?_
  rintro _ W3 ⟨rfl, N3⟩
  have N := (N1.trans N2).trans N3
  clear N1 N2 N3
  go_wp2_with fail
  refine (H2 _ (hT.after (N.alloc _)).1 _ _ (Row.new _ _ _)).mono ?_
  rintro _ W4 ⟨rfl, N4⟩
  have N' := (N.alloc _).trans N4
  clear N N4
  go_wp2_with fail
  refine (H6 _ (hT.after N').1).mono ?_
  rintro _ W5 ⟨N5, a, c, rfl⟩
  have N := N'.trans N5
  clear N' N5
  go_wp2_with fail
  refine (H1 _).mono ?_
  rintro _ W6 ⟨rfl, N6⟩
  have R5 := (Row.new W5 #[.int .i64 3, .string ⟨#[]⟩, .bool false, .string ⟨#[]⟩, .int .i64 32769, .slice a 2 c] 24).after N6
  have N' := (N.alloc _).trans N6
  generalize W5.heap.size = g at *
  clear N N6
  go_wp2_with fail
  refine (H3 _ (hT.after (N'.alloc _)).1 _ _ (Row.new _ _ _)).mono ?_
  rintro _ W7 ⟨rfl, N7⟩
  replace R5 := (R5.alloc _).after N7
  have N := (N'.alloc _).trans N7
  clear N' N7
  go_wp2_with fail
  refine (H4 _ (hT.after N)).mono ?_
  rintro _ W8 ⟨rfl, N8⟩
  replace R5 := R5.after N8
  have N' := N.trans N8
  clear N N8
  go_wp2_with fail
  refine (ex5_any _ (hT.after N').1).mono ?_
  rintro _ W9 ⟨rfl, N9⟩
  replace R5 := R5.after N9
  have N := N'.trans N9
  clear N' N9
  have hlt := R5.lt
  have hne : g ≠ W9.heap.size := by omega
  have c4 : W9.cell? ⟨g, 4, none⟩ = some (.int .i64 32769) := R5.cell 4
  have c5 : W9.cell? ⟨g, 5, none⟩ = some (.slice a 2 c) := R5.cell 5
  go_wp2_with fail
  refine (H7 _ (hT.after (N.alloc _)).2).mono ?_
  rintro _ Wa ⟨rfl, Na⟩
  go_wp2_with fail
  go_ret
  exact ⟨rfl, (N.alloc _).trans Na⟩

end Go.Proofs.YtecamiefpdkjoaaDoor
