/-
  The small functions of node: oneByte, cut, number, packSize, childrenOf and what counts a number's bits, a text cloned.
-/
import Derived.Test.YtecamiefpdkjoaaDoorNdMem
import Derived.Test.YtecamiefpdkjoaaDoorShelf
import Derived.Laws.BitsLemmas
namespace Go.Proofs.YtecamiefpdkjoaaDoor
open Go.RowKit
set_option maxRecDepth 20000
set_option linter.unusedVariables false

theorem region_new {P : Program} {id : Nat} {Q : Exit → Act → World → Prop} {a : Act} {w : World} {l : List Oper} (W : World) (hW : New W w) (hm : P.follows .mixedOrders = true) (hB : Region.lexB .any l.toArray = true)
    (h : wpQuiet P l.toArray (fun w' => ∃ p : NewW W, w' = p.v) (fun a' => ∀ w', (∃ p : NewW W, w' = p.v) → Q .normal a' w') l a) : (Code.region id l.toArray true).wp P Q a w :=
  wp_region_quiet (C := fun w' => ∃ p : NewW W, w' = p.v) hm hB ⟨⟨w.drew, hW.drewR⟩, rfl⟩ (by simpa using h)
theorem neww (w : World) {w' : World} (h : Kept w w') : New w w' := h
theorem ret_tup2 {a b c d : ByteArray} (h : a = c) (k : b = d) : Ending.returned (.tuple #[.string a, .string b]) = .returned (.tuple #[.string c, .string d]) := by rw [h, k]

set_option maxHeartbeats 400000 in
theorem cut_any (s : ByteArray) (n : Nat) (w : World) :
    Calls Tryd.prog 40 #[.string s, .int .i64 (n : Int)] w fun e w' => e = .returned (.tuple #[.string (bs ((L s).take n)), .string (bs ((L s).drop n))]) ∧ New w w' := by
  have hl := L_size s
  by_cases h : n ≤ s.size
  · have h1 : s.extract 0 n = bs ((L s).take n) := eq_of_L (by rw [L_extract, L_bs, List.drop_zero])
    have h2 : s.extract n s.size = bs ((L s).drop n) := eq_of_L (by rw [L_extract, L_bs, List.take_of_length_le (by omega)])
    have H1 : Hid (s.extract 0 n = bs ((L s).take n)) := h1
    have H2 : Hid (s.extract n s.size = bs ((L s).drop n)) := h2
    have hne := NewW.ne w
    have hx2 : decide ((s.size : Int) < (n : Int)) = false := decide_eq_false (by omega)
    have hx3 : decide (s.size < n) = false := decide_eq_false (by omega)
    have hmin : min (n : Int) (s.size : Int) = (n : Int) := by omega
    clear h1 h2
    go_enter Tryd.func40, Tryd.ntmps40
    go_wp2_with fail
    refine region_new w (New.refl w) (by kernel_rfl) (by kernel_rfl) ?_
    repeat (go_big_quiet_step (fail))
    refine wpQuiet_nil ?_
    rintro w5 ⟨⟨_, k5⟩, rfl⟩
    go_wp2_with fail
    go_ret2
    exact ⟨ret_tup2 H1.out H2.out, k5⟩
  · have h1 : s = bs ((L s).take n) := eq_of_L (by rw [L_bs, List.take_of_length_le (by omega)])
    have h2 : ByteArray.empty = bs ((L s).drop n) := eq_of_L (by rw [L_bs, List.drop_eq_nil_of_le (by omega)]; rfl)
    have H1 : Hid (s = bs ((L s).take n)) := h1
    have H2 : Hid (ByteArray.empty = bs ((L s).drop n)) := h2
    have hne := NewW.ne w
    have hmin : min (n : Int) (s.size : Int) = (s.size : Int) := by omega
    clear h1 h2
    go_enter Tryd.func40, Tryd.ntmps40
    go_wp2_with fail
    refine region_new w (New.refl w) (by kernel_rfl) (by kernel_rfl) ?_
    repeat (go_big_quiet_step (fail))
    refine wpQuiet_nil ?_
    rintro w5 ⟨⟨_, k5⟩, rfl⟩
    go_wp2_with fail
    go_ret2
    exact ⟨ret_tup2 H1.out H2.out, k5⟩

theorem numN_step (l : List UInt8) (k : Nat) (c : UInt8) (h : l[k]? = some c) : numN (l.take (k + 1)) = numN (l.take k) * 256 + c.toNat := by
  rw [List.take_add_one, h]
  unfold numN
  rw [List.foldl_append]; rfl
theorem numN_lt (l : List UInt8) (k : Nat) (hk : k ≤ l.length) : numN (l.take k) < 256 ^ k := by
  induction k with
  | zero => exact Nat.one_pos
  | succ k ih =>
    have hc : l[k]? = some l[k] := List.getElem?_eq_getElem (by omega)
    rw [numN_step l k _ hc]
    have := ih (by omega)
    have h2 := (l[k]).toNat_lt
    rw [Nat.pow_succ]
    omega
theorem wraps_i64 (n : Int) (h₀ : 0 ≤ n) (h₁ : n < 2 ^ 63) : IntKind.i64.wrap n = n := by rw [IntKind.wrap_i64]; omega
theorem or_byte_int (t : Nat) (c : UInt8) (ht : t < 16777216) : bits .or .i64 ((t : Int) * 256) (c.toNat : Int) = ((t * 256 + c.toNat : Nat) : Int) := by
  have hc := c.toNat_lt
  rw [bits_join .i64 63 (by decide) wraps_i64 8 _ _ (by omega) (by omega) (by omega) (by omega) (by omega) (by omega)]
  omega

set_option maxHeartbeats 400000 in
theorem number_core (s : ByteArray) (hs : s.size ≤ 2) (n : Nat) (hn : Hid (numN (L s) = n)) (w : World) :
    Calls Tryd.prog 41 #[.string s] w fun e w' => e = .returned (.int .i64 (n : Int)) ∧ w' = w := by
  go_enter Tryd.func41, Tryd.ntmps41
  go_wp2_with fail
  go_loop [3, 4, 7] (fun t _ i => ∃ k : Nat, k ≤ s.size ∧ i = .int .i64 k ∧ t = .int .i64 ((numN ((L s).take k) : Nat) : Int)) (fun _ _ i => s.size - (intOf i).toNat)
  case atStart => exact ⟨0, by omega, rfl, rfl⟩
  case round =>
    obtain ⟨k, hk, rfl, rfl⟩ := hrel
    by_cases hlt : k < s.size
    · have hv := numN_lt (L s) k (by rw [L_size]; omega)
      have hp : 256 ^ k ≤ 256 ^ 1 := Nat.pow_le_pow_right (by omega) (by omega)
      have HT : Hid (_ = _) := numN_step (L s) k s[k] (L_get s k hlt)
      have ht : numN ((L s).take k) < 256 := by omega
      clear hv hp
      generalize numN ((L s).take k) = t at ht HT
      have hor := or_byte_int t s[k] (by omega)
      have hc256 := (s[k]).toNat_lt
      have hw : IntKind.i64.wrap (s[k].toNat : Int) = (s[k].toNat : Int) := wraps_i64 _ (Int.natCast_nonneg _) (by omega)
      have hw2 : IntKind.i64.wrap ((t : Int) * 256) = (t : Int) * 256 := wraps_i64 _ (by omega) (by omega)
      go_wp2_with fail
      go_round
      case rel => exact ⟨k + 1, by omega, by go_num, by rw [HT.out]; simp⟩
      case measure => simp [intOf]; omega
    · obtain rfl : k = s.size := by omega
      have HV : Hid (numN ((L s).take s.size) = n) := by
        show _ = _
        rw [← L_size, List.take_length]; exact hn.out
      generalize numN ((L s).take s.size) = t at HV
      obtain rfl : t = n := HV.out
      go_wp2_with fail
      go_ret
      exact ⟨rfl, rfl⟩
theorem number_any (l : List UInt8) (hs : l.length ≤ 2) (w : World) :
    Calls Tryd.prog 41 #[.string (bs l)] w fun e w' => e = .returned (.int .i64 ((numN l : Nat) : Int)) ∧ w' = w := number_core (bs l) hs _ rfl w

theorem unUsed_le (l : List UInt8) : unpackB l = true → unUsed l ≤ 9 := by
  intro h
  have := (pack_unpack l h)
  cases l with
  | nil => cases h
  | cons c r =>
    have h' : (headB c r && lastB c r) = true := h
    unfold headB at h'
    simp only [Bool.and_eq_true, decide_eq_true_eq] at h'
    show 1 + (c.toNat + 1) / 2 ≤ 9
    omega
theorem pkN_le (l : List UInt8) : pkN l ≤ 9 := by
  unfold pkN
  split
  · exact unUsed_le l ‹_›
  · omega
theorem unpack_any (s : ByteArray) (hs : s.size ≤ 4000) (w : World) :
    Calls Tryd.prog 46 #[.string s] w fun e w' => e = .returned (.tuple #[.string (if unpackB (L s) then bs (unN (L s)) else bs []), .int .i64 (pkN (L s) : Nat), .bool (unpackB (L s))]) ∧ New w w' := by
  unfold pkN
  cases h : unpackB (L s)
  · exact unpack_no s hs h w
  · exact unpack_yes s hs h w
set_option maxHeartbeats 400000 in
theorem packSize_any (s : ByteArray) (hs : s.size ≤ 4000) (w : World) :
    Calls Tryd.prog 42 #[.string s] w fun e w' => e = .returned (.int .i64 (pkN (L s) : Nat)) ∧ New w w' := by
  have HC := unpack_any s hs
  generalize pkN (L s) = z at HC ⊢
  generalize (if unpackB (L s) then bs (unN (L s)) else bs []) = q at HC
  generalize unpackB (L s) = b at HC
  go_enter Tryd.func42, Tryd.ntmps42
  go_wp2_with fail
  refine (HC _).mono ?_
  rintro e w1 ⟨rfl, g1⟩
  go_wp2_with fail
  go_ret
  exact ⟨rfl, g1⟩

theorem conv_one (w : World) (b : Nat) (c : UInt8) (h : w.cell? ⟨b, 0, none⟩ = some (.int .u8 (c.toNat : Int))) : (convert 56 9 (.slice (some ⟨b, 0, none⟩) 1 1)).run Tryd.prog w = .ok (.string (bs [c])) w :=
  run_convert_bytes_back w 56 9 5 ⟨b, 0, none⟩ 1 [c] Tryd.underlying56 Tryd.underlying5 Tryd.underlying9 (fun j hj => by
    simp at hj
    subst hj
    simp [Addr.add, h])
theorem byte_wrap (n : Nat) : (n : Int) % 256 = ((UInt8.ofNat n).toNat : Int) := by rw [UInt8.toNat_ofNat']; omega
set_option maxHeartbeats 400000 in
theorem oneByte_any (n : Nat) (w : World) :
    Calls Tryd.prog 37 #[.int .i64 (n : Int)] w fun e w' => e = .returned (.string (bs [UInt8.ofNat n])) ∧ New w w' := by
  have hb := byte_wrap n
  generalize UInt8.ofNat n = c at hb ⊢
  have hcv := conv_one (w.alloc (.cells #[.int .u8 (c.toNat : Int)] 5)) w.heap.size c (by rw [(Row.new w _ 5).cell]; rfl)
  go_enter Tryd.func37, Tryd.ntmps37
  go_wp2_with fail
  go_ret
  exact ⟨rfl, (New.refl w).alloc _⟩

theorem clone_any (l : List UInt8) (hl : l.length ≤ 4000) (w : World) :
    Calls Tryd.prog 45 #[.string (bs l)] w fun e w' => e = .returned (.string (bs l)) ∧ New w w' := by
  have HC := fun w => Tryd.stringslite_Clone (bs l) w (by rw [bs_size]; omega)
  go_enter Tryd.func45, Tryd.ntmps45
  go_wp2_with fail
  refine (HC _).mono ?_
  rintro e w1 ⟨rfl, g1⟩
  go_wp2_with fail
  go_ret
  exact ⟨rfl, g1⟩

end Go.Proofs.YtecamiefpdkjoaaDoor
