/-
  PagePlaces, walked: each part of a page's bytes stands at its place.
-/
import Derived.Test.YtlbnikkpfhclgaaDoorWoke
namespace Go.Proofs.YtlbnikkpfhclgaaDoor
open Go.RowKit

/-- What stands where in a page's bytes. -/
structure Stands (b : ByteArray) (k n g : Nat) (s : ByteArray) : Prop where
  size : b.size = 256
  pay : b.extract 9 (9 + s.size) = s
  head : ∃ (b1 b2 b3 b4 b5 b6 b7 b8 : UInt8), L b = UInt8.ofNat (k % 256) :: b1 :: b2 :: b3 :: b4 :: b5 :: b6 :: b7 :: b8 :: (L b).drop 9 ∧ b1.toNat * 256 + b2.toNat = n ∧ b3.toNat * 16777216 + b4.toNat * 65536 + b5.toNat * 256 + b6.toNat = g ∧ b7.toNat * 256 + b8.toNat = s.size
  rest : ∀ i, 9 + s.size ≤ i → i < 252 → (L b)[i]? = some 0
  right : Right (L b)
theorem stands {k n g : Nat} (hk : k < 256) (hn : n < 65536) (hg : g < 4294967296) {s : ByteArray} (hs : s.size ≤ 243) : Stands (bs (pageB (frOf k n g (L s)))) k n g s := by
  have hL : (L s).length ≤ 243 := by rw [L_size]; exact hs
  have hO : (frOf k n g (L s)).Ok := frOf_ok hk hn hg hL
  have hl := pageB_length hO.p
  have e : pageB (frOf k n g (L s)) = (frOf k n g (L s)).head ++ (L s ++ (List.replicate (243 - (L s).length) 0 ++ putL (sumL 0 (frOf k n g (L s)).text))) := by
    unfold pageB Fr.text
    show (Fr.head _ ++ (L s ++ List.replicate (243 - (L s).length) 0)) ++ _ = _
    rw [List.append_assoc, List.append_assoc]
  have h9 : (frOf k n g (L s)).head.length = 9 := Fr.head_length _
  refine ⟨by rw [bs_size]; exact hl, ?_, ?_, ?_, by rw [L_bs]; exact right_page hO.p⟩
  · refine eq_of_L ?_
    rw [L_extract, L_bs, e, List.drop_take, List.drop_left' h9, List.take_left' (by rw [L_size]; omega)]
  · refine ⟨UInt8.ofNat (n / 256 % 256), UInt8.ofNat (n % 256), UInt8.ofNat (g / 16777216 % 256), UInt8.ofNat (g / 65536 % 256), UInt8.ofNat (g / 256 % 256), UInt8.ofNat (g % 256), UInt8.ofNat (s.size / 256 % 256), UInt8.ofNat (s.size % 256), ?_, ?_, ?_, ?_⟩
    · rw [L_bs, e, ← L_size s]
      rfl
    all_goals
      rw [byte_of _ (by omega), byte_of _ (by omega)]
    · omega
    · rw [byte_of _ (by omega), byte_of _ (by omega)]
      omega
    · omega
  · intro i h1 h2
    rw [L_bs, e, List.getElem?_append_right (by omega), h9, List.getElem?_append_right (by rw [L_size]; omega), List.getElem?_append_left (by rw [List.length_replicate, L_size]; omega), List.getElem?_replicate, if_pos (by rw [L_size]; omega)]

theorem byte_at {b : ByteArray} {i : Nat} {c : UInt8} (h : (L b)[i]? = some c) (hi : i < b.size) : b[i] = c := by
  rw [L_get b i hi] at h
  exact Option.some.inj h

set_option maxRecDepth 20000 in
set_option maxHeartbeats 4000000 in
theorem places_no (k g a : Int) (s : ByteArray) (h : ¬ Fits k a g (s.size : Int)) (w : World) (hT : Tab w) :
    Calls Tryd.prog 5 #[.agg #[.int .i64 k, .int .i64 g, .string s], .int .i64 a] w fun e w' => e = .returned (.bool true) ∧ New w w' := by
  have hput := fun w => put_no k a g s h w
  go_enter Tryd.func5, Tryd.ntmps5
  go_wp2_with (first
    | (refine wpList_box_at (by rfl) 2 (by rfl) 23 _ (by rfl) _ (by rfl) ?_; intro W1 R1 N1)
    | refine wpList_load_row (by rfl) 23 _ (by rfl) w.heap.size (by rfl) 23 _ (0, 0) _ R1 Tryd.underlying23 rfl i23 ?_)
  refine (hput _).mono ?_
  rintro _ W2 ⟨rfl, N2⟩
  go_wp2_with fail
  refine (wakes_any _ (hT.after (N1.trans N2))).mono ?_
  rintro _ W3 ⟨rfl, N3⟩
  go_wp2_with fail
  go_ret
  exact ⟨rfl, (N1.trans N2).trans N3⟩

set_option maxRecDepth 20000 in
set_option maxHeartbeats 4000000 in
theorem places_yes (k n g : Nat) (hk1 : 1 ≤ k) (hk2 : k < 256) (hn : n < 65536) (hg : g < 2147483648) (s : ByteArray) (hs : s.size ≤ 243) (w : World) (hT : Tab w) :
    Calls Tryd.prog 5 #[.agg #[.int .i64 (k : Int), .int .i64 (g : Int), .string s], .int .i64 (n : Int)] w fun e w' => e = .returned (.bool true) ∧ New w w' := by
  have hput := fun w hT => put_yes k n g hk1 hk2 hn hg s hs w hT
  obtain ⟨hb, hpay, ⟨b1, b2, b3, b4, b5, b6, b7, b8, hhd, q1, q2, q3⟩, hrest, hright⟩ := stands (k := k) (n := n) (g := g) hk2 hn (by omega) hs
  generalize bs (pageB (frOf k n g (L s))) = b at *
  have hr : ∀ w, Tab w → Calls Tryd.prog 11 #[.string b] w fun e w' => e = .returned (.bool true) ∧ New w w' := fun w h => by
    have := right_any b w h
    rw [(rightB_iff _).2 hright] at this
    exact this
  obtain ⟨m, hm⟩ : ∃ m, 9 + s.size = m := ⟨_, rfl⟩
  have hmI : (9 : Int) + (s.size : Int) = (m : Int) := by omega
  rw [hm] at hpay hrest
  have e0 : b[0] = UInt8.ofNat (k % 256) := byte_at (by rw [hhd]; rfl) (by omega)
  have e1 : b[1] = b1 := byte_at (by rw [hhd]; rfl) (by omega)
  have e2 : b[2] = b2 := byte_at (by rw [hhd]; rfl) (by omega)
  have e3 : b[3] = b3 := byte_at (by rw [hhd]; rfl) (by omega)
  have e4 : b[4] = b4 := byte_at (by rw [hhd]; rfl) (by omega)
  have e5 : b[5] = b5 := byte_at (by rw [hhd]; rfl) (by omega)
  have e6 : b[6] = b6 := byte_at (by rw [hhd]; rfl) (by omega)
  have e7 : b[7] = b7 := byte_at (by rw [hhd]; rfl) (by omega)
  have e8 : b[8] = b8 := byte_at (by rw [hhd]; rfl) (by omega)
  obtain ⟨y0, hy0⟩ : ∃ y, UInt8.ofNat (k % 256) = y := ⟨_, rfl⟩
  have v0 : (y0.toNat : Int) = (k : Int) := by rw [← hy0, byte_of _ (by omega)]; omega
  rw [hy0] at e0
  have v1 : (b1.toNat : Int) * 256 + (b2.toNat : Int) = (n : Int) := by omega
  have v2 : (b3.toNat : Int) * 16777216 + (b4.toNat : Int) * 65536 + (b5.toNat : Int) * 256 + (b6.toNat : Int) = (g : Int) := by omega
  have v3 : (b7.toNat : Int) * 256 + (b8.toNat : Int) = (s.size : Int) := by omega
  have u1 := b1.toNat_lt
  have u2 := b2.toNat_lt
  have u3 := b3.toNat_lt
  have u4 := b4.toNat_lt
  have u5 := b5.toNat_lt
  have u6 := b6.toNat_lt
  have u7 := b7.toNat_lt
  have u8 := b8.toNat_lt
  have HZ : Hid (∀ i, m ≤ i → i < 252 → (L b)[i]? = some 0) := hrest
  clear hrest hhd q1 q2 q3 hy0 hright
  go_enter Tryd.func5, Tryd.ntmps5
  go_wp2_with (first
    | (refine wpList_box_at (by rfl) 2 (by rfl) 23 _ (by rfl) _ (by rfl) ?_; intro W1 R1 N1)
    | refine wpList_load_row (by rfl) 23 _ (by rfl) w.heap.size (by rfl) 23 _ (0, 0) _ R1 Tryd.underlying23 rfl i23 ?_)
  refine (hput _ (hT.after N1)).mono ?_
  rintro _ W2 ⟨rfl, N2⟩
  have R2 := R1.after N2
  have a0 := R2.has 0 (by rfl)
  have a1 := R2.has 1 (by rfl)
  have a2 := R2.has 2 (by rfl)
  have N2' := N1.trans N2
  clear R1 R2 N1 N2 hput
  go_wp2_with fail
  have c0 := fun p => NewW.cell a0 p
  have c1 := fun p => NewW.cell a1 p
  have c2 := fun p => NewW.cell a2 p
  have hne := NewW.ne W2
  clear a0 a1
  refine region_first 71 0 W2 (New.refl W2) (by kernel_rfl) (by kernel_rfl) ?_
  simp only [List.append_eq, List.cons_append, List.nil_append, List.take_succ_cons, List.drop_succ_cons, List.drop_zero, List.take_nil]
  repeat (go_big_quiet_step (fail))
  refine wpQuiet_nil ?_
  rintro w5 ⟨⟨_, hk5⟩, rfl⟩
  have d2 : w5.cell? ⟨w.heap.size, 2, none⟩ = some (.string s) := c2 ⟨w5, hk5⟩
  have N5 := N2'.trans hk5
  clear c0 c1 c2 a2 hne hk5 N2' e0 e1 e2 e3 e4 e5 e6 e7 e8 v0 v1 v2 v3 u1 u2 u3 u4 u5 u6 u7 u8 hpay
  have hml : m ≤ 252 := by omega
  go_wp2_with fail
  go_loop [7] (fun i => ∃ j : Nat, m ≤ j ∧ j ≤ 252 ∧ i = .int .i64 j) (fun i => 252 - (intOf i).toNat)
  case atStart => exact ⟨m, by omega, by omega, rfl⟩
  case round =>
    obtain ⟨j, hj1, hj2, rfl⟩ := hrel
    by_cases hlt : j < 252
    · have hjb : j < b.size := by omega
      have hlt' : (j : Int) < 252 := by omega
      have hz : b[j] = 0 := byte_at (HZ.out j hj1 hlt) hjb
      go_wp2_with fail
      go_round
      case rel => exact ⟨j + 1, by omega, by omega, by go_num⟩
      case measure => simp [intOf]; omega
    · obtain rfl : j = 252 := by omega
      go_wp2_with fail
      refine (hr _ (hT.after N5)).mono ?_
      rintro _ W6 ⟨rfl, N6⟩
      go_wp2_with fail
      refine (wakes_any _ (hT.after (N5.trans N6))).mono ?_
      rintro _ W7 ⟨rfl, N7⟩
      go_wp2_with fail
      go_ret
      exact ⟨rfl, (N5.trans N6).trans N7⟩

theorem places_walk (k g : Int) (s : ByteArray) (a : Int) (_ : (Lit.int .i64 k).wf = true) (_ : (Lit.int .i64 g).wf = true) (_ : s.size ≤ maxLen) (_ : (Lit.int .i64 a).wf = true) (w : World) (hT : Tab w) :
    Calls Tryd.prog 5 #[.agg #[.int .i64 k, .int .i64 g, .string s], .int .i64 a] w fun e w' => e = .returned (.bool true) ∧ New w w' := by
  by_cases h : Fits k a g (s.size : Int)
  · obtain ⟨h1, h2, h3, h4, h5, h6, h7⟩ := h
    obtain ⟨k, rfl⟩ : ∃ n : Nat, k = (n : Int) := ⟨k.toNat, by omega⟩
    obtain ⟨a, rfl⟩ : ∃ n : Nat, a = (n : Int) := ⟨a.toNat, by omega⟩
    obtain ⟨g, rfl⟩ : ∃ n : Nat, g = (n : Int) := ⟨g.toNat, by omega⟩
    exact places_yes k a g (by omega) (by omega) (by omega) (by omega) s (by omega) w hT
  · exact places_no k g a s h w hT

end Go.Proofs.YtlbnikkpfhclgaaDoor
