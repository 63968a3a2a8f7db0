/-
  What the document's own Value returns, for every text: the same number as Value, or nought and false.
-/
import Derived.Test.YtcjbbggpnhpbaaaRefKey
namespace Go.Proofs.Ytcjbbggpnhpbaaa
open Go.RowKit
open Plain

theorem store_float (w : World) (a : Addr) (b : Nat) (m : Mode) : (store a (.float .f64 b) m).run Try.prog w = stored Try.prog w a (.float .f64 b) m := run_store Try.prog w a _ m rfl

theorem bcell {W w1 : World} (hb : Below W.heap.size W w1) : (∀ b o, b < W.heap.size → w1.cell? ⟨b, o, none⟩ = W.cell? ⟨b, o, none⟩) ∧ (∀ b o, b < W.heap.size → w1.frozen? ⟨b, o, none⟩ = W.frozen? ⟨b, o, none⟩) :=
  ⟨fun b o h => hb.cell (p := ⟨b, o, none⟩) h, fun b o h => hb.frozen (p := ⟨b, o, none⟩) h⟩

set_option maxHeartbeats 400000 in
theorem refValue_short (s : ByteArray) (hs : ¬ s.size = 8) (w : World) :
    Calls Try.prog 10 #[.string s] w fun e w' => e = .returned (.agg #[.float .f64 0, .bool false]) ∧ Below w.heap.size w w' := by
  have h8 : ((s.size : Int) != 8) = true := by rw [bne_iff_ne]; omega
  have hst := store_float
  go_enter Try.func10, Try.ntmps10
  go_wp2_with fail
  exact bodyPost_ret (v := .agg #[.float .f64 0, .bool false]) (by simp [results, Try.results10, go_sem]) rfl ⟨rfl, (Below.refl _ _).alloc (Nat.le_refl _) _⟩

theorem andNot_sign (n : Nat) (h : n < 18446744073709551616) (hs : 9223372036854775808 ≤ n) : bits .andNot .u64 (n : Int) 9223372036854775808 = ((n - 9223372036854775808 : Nat) : Int) := by
  have := u64_andNot_nat n 9223372036854775808 h (by omega)
  have e : n &&& (18446744073709551615 - 9223372036854775808) = n % 2 ^ 63 := Nat.and_two_pow_sub_one_eq_mod n 63
  rw [e] at this
  refine this.trans ?_
  omega

set_option maxHeartbeats 1000000 in
theorem refValue_core (s : ByteArray) (hs : s.size = 8) (n : Nat) (hn : Hid (valL s.data.toList = n)) (hl : n < 18446744073709551616) (ok : Bool) (hok : Hid (decide (keyN (backN n) = n) = ok)) (w : World) :
    Calls Try.prog 10 #[.string s] w fun e w' => e = .returned (.agg #[.float .f64 (if ok then backN n else 0), .bool ok]) ∧ Below w.heap.size w w' := by
  have h8 : ((s.size : Int) != 8) = false := by rw [hs]; rfl
  have hg : 8 ≤ s.size := by omega
  have HS : Hid (s.size = 8) := hs
  clear hs
  have hfrom := call_from
  have hst := store_float
  go_enter Try.func10, Try.ntmps10
  go_wp2_with fail
  go_loop [3, 4] (fun t i => ∃ k : Nat, k ≤ 8 ∧ i = .int .i64 k ∧ t = .int .u64 (valL (s.data.toList.take k) : Nat)) (fun _ i => 8 - (intOf i).toNat)
  case atStart => exact ⟨0, by omega, rfl, rfl⟩
  case round =>
    obtain ⟨k, hk, rfl, rfl⟩ := hrel
    by_cases hlt : k < 8
    · have hv := valL_take s k (by omega)
      have hp : 256 ^ k ≤ 256 ^ 7 := Nat.pow_le_pow_right (by omega) (by omega)
      have HT : Hid (valL (s.data.toList.take (k + 1)) = valL (s.data.toList.take k) * 256 + (s[k]'(by omega)).toNat) := by
        show _ = _
        rw [take_snoc s k (by omega), valL_snoc]
      have ht : valL (s.data.toList.take k) < 72057594037927936 := by omega
      clear hv hp
      generalize valL (s.data.toList.take k) = t at ht HT
      go_wp2_with fail
      go_round
      case rel => exact ⟨k + 1, by omega, by go_num, by rw [HT.out]; exact congrArg (Value.int .u64) (or_step2 t _ ht)⟩
      case measure => simp [intOf]; omega
    · obtain rfl : k = 8 := by omega
      have HV : Hid (valL (s.data.toList.take 8) = n) := by
        show _ = _
        rw [List.take_of_length_le (by have := HS.out; simp; omega)]; exact hn.out
      generalize valL (s.data.toList.take 8) = t at HV
      obtain rfl : t = n := HV.out
      clear hlt hk HV
      have hb := backN_lt t hl
      have hkt := key_text (keyN (backN t)) s (keyN_lt _ hb) HS.out
      rw [hn.out, hok.out] at hkt
      have hpb : ok = true → ((plainN (backN t) : Int) != ((backN t : Nat) : Int)) = false := by
        intro h
        have hi : isKey t = true := by unfold isKey; rw [← h]; exact hok.out
        rw [plain_back t hl hi]; simp
      by_cases hsg : t < 9223372036854775808
      · have h63 : ((t : Int) / 9223372036854775808 == 1) = false := by rw [beq_eq_false_iff_ne]; omega
        have hbk : bits .xor .u64 IntKind.u64.max (t : Int) = ((backN t : Nat) : Int) := by
          rw [not_u64 t hl]; unfold backN; rw [if_pos hsg]
        clear hsg
        cases ok
        · clear hpb
          go_wp2_with fail
          refine (refKey_any _ hb _).mono ?_
          rintro e w1 ⟨rfl, hbl⟩
          obtain ⟨hc, hfz⟩ := bcell hbl
          go_wp2_with fail
          exact bodyPost_ret (v := .agg #[.float .f64 0, .bool false]) (by simp [results, Try.results10, go_sem, hc]) rfl ⟨rfl, ((((Below.refl _ _).alloc (Nat.le_refl _) _).trans (hbl.mono (by simp))).setCell (by simp) _).setCell (by simp) _⟩
        · have hpb := hpb rfl
          go_wp2_with fail
          refine (refKey_any _ hb _).mono ?_
          rintro e w1 ⟨rfl, hbl⟩
          obtain ⟨hc, hfz⟩ := bcell hbl
          go_wp2_with fail
          refine (refBits_any _ hb _).mono ?_
          rintro e w2 ⟨rfl, rfl⟩
          go_wp2_with fail
          exact bodyPost_ret (v := .agg #[.float .f64 (backN t), .bool true]) (by simp [results, Try.results10, go_sem, hc]) rfl ⟨rfl, ((((Below.refl _ _).alloc (Nat.le_refl _) _).trans (hbl.mono (by simp))).setCell (by simp) _).setCell (by simp) _⟩
      · have h63 : ((t : Int) / 9223372036854775808 == 1) = true := by rw [beq_iff_eq]; omega
        have hbk : bits .andNot .u64 (t : Int) 9223372036854775808 = ((backN t : Nat) : Int) := by
          rw [andNot_sign t hl (by omega)]; unfold backN; rw [if_neg hsg]
        clear hsg
        cases ok
        · clear hpb
          go_wp2_with fail
          refine (refKey_any _ hb _).mono ?_
          rintro e w1 ⟨rfl, hbl⟩
          obtain ⟨hc, hfz⟩ := bcell hbl
          go_wp2_with fail
          exact bodyPost_ret (v := .agg #[.float .f64 0, .bool false]) (by simp [results, Try.results10, go_sem, hc]) rfl ⟨rfl, ((((Below.refl _ _).alloc (Nat.le_refl _) _).trans (hbl.mono (by simp))).setCell (by simp) _).setCell (by simp) _⟩
        · have hpb := hpb rfl
          go_wp2_with fail
          refine (refKey_any _ hb _).mono ?_
          rintro e w1 ⟨rfl, hbl⟩
          obtain ⟨hc, hfz⟩ := bcell hbl
          go_wp2_with fail
          refine (refBits_any _ hb _).mono ?_
          rintro e w2 ⟨rfl, rfl⟩
          go_wp2_with fail
          exact bodyPost_ret (v := .agg #[.float .f64 (backN t), .bool true]) (by simp [results, Try.results10, go_sem, hc]) rfl ⟨rfl, ((((Below.refl _ _).alloc (Nat.le_refl _) _).trans (hbl.mono (by simp))).setCell (by simp) _).setCell (by simp) _⟩

theorem refValue_any (s : ByteArray) (hs : s.size = 8) (w : World) :
    Calls Try.prog 10 #[.string s] w fun e w' => e = .returned (.agg #[.float .f64 (if isKey (valL s.data.toList) then backN (valL s.data.toList) else 0), .bool (isKey (valL s.data.toList))]) ∧ Below w.heap.size w w' :=
  refValue_core s hs _ rfl (val_lt s hs) _ rfl w

/-- Value and the document's own one give the same, whatever the text. -/
theorem both_values (s : ByteArray) : ∃ (f : Nat) (ok : Bool),
    (∀ w, Calls Try.prog 9 #[.string s] w fun e w' => e = .returned (.tuple #[.float .f64 f, .bool ok]) ∧ Grown w w') ∧
    (∀ w, Calls Try.prog 10 #[.string s] w fun e w' => e = .returned (.agg #[.float .f64 f, .bool ok]) ∧ Below w.heap.size w w') := by
  by_cases hs : s.size = 8
  · exact ⟨_, _, fun w => value_any s hs w, fun w => refValue_any s hs w⟩
  · exact ⟨_, _, fun w => value_short s hs w, fun w => refValue_short s hs w⟩

end Go.Proofs.Ytcjbbggpnhpbaaa
