/-
  What the document's times, square and cube tell, as plain functions.
-/
import Derived.Test.YtecamiefpdkjoaaDoorDgLeaf
import Derived.Test.YtecamiefpdkjoaaDoorDgPlainC
namespace Go.Proofs.YtecamiefpdkjoaaDoor.Dg
open Go.RowKit
set_option maxRecDepth 20000

theorem toNat_long (a : Nat) : (BitVec.ofInt 64 (a : Int)).toNat = a % 18446744073709551616 := by
  rw [BitVec.ofInt_natCast, BitVec.toNat_ofNat]
theorem or6_lt (a b : Nat) : or6 a b < 18446744073709551616 := Nat.or_lt_two_pow (n := 64) (Nat.mod_lt _ (by decide)) (Nat.mod_lt _ (by decide))
theorem wrap_long (n : Nat) (h : n < 18446744073709551616) : IntKind.u64.wrap (n : Int) = (n : Int) := by rw [IntKind.wrap_u64]; omega
theorem or_u64 (a b : Nat) : bits .or .u64 (a : Int) (b : Int) = ((or6 a b : Nat) : Int) := by
  show IntKind.u64.wrap ((BitVec.ofInt 64 (a : Int) ||| BitVec.ofInt 64 (b : Int)).toNat : Int) = _
  rw [BitVec.toNat_or, toNat_long, toNat_long]
  exact wrap_long _ (or6_lt a b)
theorem lo_u64 (a : Nat) : bits .and .u64 (a : Int) 4294967295 = ((lo6 a : Nat) : Int) := by
  show IntKind.u64.wrap ((BitVec.ofInt 64 (a : Int) &&& BitVec.ofInt 64 (4294967295 : Int)).toNat : Int) = _
  have h2 : (BitVec.ofInt 64 (4294967295 : Int)).toNat = 2 ^ 32 - 1 := by decide
  have h3 : (a % 18446744073709551616) &&& (2 ^ 32 - 1) = lo6 a := by
    rw [Nat.and_two_pow_sub_one_eq_mod]
    unfold lo6
    omega
  rw [BitVec.toNat_and, toNat_long, h2, h3]
  exact wrap_long _ (by unfold lo6; omega)
theorem ad_u64 (a b : Nat) : IntKind.u64.wrap ((a : Int) + (b : Int)) = ((ad6 a b : Nat) : Int) := by
  rw [IntKind.wrap_u64]; unfold ad6; omega
theorem mu_u64 (a b : Nat) : IntKind.u64.wrap ((a : Int) * (b : Int)) = ((mu6 a b : Nat) : Int) := by
  rw [IntKind.wrap_u64, ← Int.natCast_mul]; unfold mu6; omega
theorem hi_u64 (a : Nat) : (a : Int) / 4294967296 = ((hi6 a : Nat) : Int) := by unfold hi6; omega
theorem up_u64 (a : Nat) : IntKind.u64.wrap ((a : Int) * 4294967296) = ((up6 a : Nat) : Int) := by rw [IntKind.wrap_u64]; unfold up6; omega

set_option maxHeartbeats 1600000 in
theorem times_any (a b : Nat) (w : World) :
    Calls Tryd.prog 77 #[.int .u64 (a : Int), .int .u64 (b : Int)] w fun e w' => e = .returned (.tuple #[.int .u64 ((highT a b : Nat) : Int), .int .u64 ((lowT a b : Nat) : Int)]) ∧ w' = w := by
  have h1 := or_u64
  have h2 := lo_u64
  have h3 := ad_u64
  have h4 := mu_u64
  have h5 := hi_u64
  have h6 := up_u64
  go_enter Tryd.func77, Tryd.ntmps77
  go_wp2_with fail
  go_ret2
  exact ⟨rfl, rfl⟩

theorem wrap_pow (d : Nat) (h : d ≤ 63) : IntKind.u64.wrap (2 ^ d) = ((2 ^ d : Nat) : Int) := by
  have h2 : 2 ^ d ≤ 2 ^ 63 := Nat.pow_le_pow_right (by omega) h
  have h3 : ((2 ^ d : Nat) : Int) = (2 : Int) ^ d := by simp
  rw [← h3]
  exact wrap_long _ (by omega)
theorem sq_ways (v r bit : Nat) (x h l : Nat) (hx : or6 r (2 ^ bit) = x) (hh : highT x x = h) (hl : lowT x x = l) :
    (h < v ∧ sqBit v r bit = x) ∨ (¬ h < v ∧ h = v ∧ l = 0 ∧ sqBit v r bit = x) ∨ (¬ h < v ∧ h = v ∧ l ≠ 0 ∧ sqBit v r bit = r) ∨ (¬ h < v ∧ h ≠ v ∧ sqBit v r bit = r) := by
  unfold sqBit
  rw [hx, hh, hl]
  by_cases h1 : h < v
  · exact .inl ⟨h1, if_pos (.inl h1)⟩
  · by_cases h2 : h = v
    · by_cases h3 : l = 0
      · exact .inr (.inl ⟨h1, h2, h3, if_pos (.inr ⟨h2, h3⟩)⟩)
      · exact .inr (.inr (.inl ⟨h1, h2, h3, if_neg (fun e => e.elim h1 (fun e => h3 e.2))⟩))
    · exact .inr (.inr (.inr ⟨h1, h2, if_neg (fun e => e.elim h1 (fun e => h2 e.1))⟩))

set_option maxHeartbeats 1600000 in
theorem square_any (v : Nat) (w : World) :
    Calls Tryd.prog 68 #[.int .u64 (v : Int)] w fun e w' => e = .returned (.int .u32 ((squareN v : Nat) : Int)) ∧ w' = w := by
  have h1 := or_u64
  go_enter Tryd.func68, Tryd.ntmps68
  go_wp2_with fail
  go_loop [3, 4] (fun r i => ∃ k : Nat, k ≤ 37 ∧ i = .int .i64 (36 - (k : Int)) ∧ r = .int .u64 ((sqN v k : Nat) : Int)) (fun _ i => (1 + intOf i).toNat)
  case atStart => exact ⟨0, by omega, rfl, rfl⟩
  case round =>
    obtain ⟨k, hk, rfl, rfl⟩ := hrel
    by_cases hlt : k < 37
    · obtain ⟨d, hd⟩ : ∃ d, 36 - k = d := ⟨_, rfl⟩
      have hdI : (36 : Int) - (k : Int) = (d : Int) := by omega
      have HS : Hid (sqN v (k + 1) = sqBit v (sqN v k) d) := by show sqN v (k + 1) = _; rw [sqN, hd]
      obtain ⟨r, hr⟩ : ∃ r, sqN v k = r := ⟨_, rfl⟩
      rw [hr] at HS ⊢
      obtain ⟨x, hx⟩ : ∃ x, or6 r (2 ^ d) = x := ⟨_, rfl⟩
      obtain ⟨h, hh⟩ : ∃ h, highT x x = h := ⟨_, rfl⟩
      obtain ⟨l, hl⟩ : ∃ l, lowT x x = l := ⟨_, rfl⟩
      have hways := sq_ways v r d x h l hx hh hl
      have hcall := times_any x x w
      rw [hh, hl] at hcall
      have hor : bits .or .u64 (r : Int) (IntKind.u64.wrap (2 ^ d)) = (x : Int) := by
        rw [← hx, ← h1, wrap_pow d (by omega)]
      have hd36 : d ≤ 36 := by omega
      clear hd hr hx hh hl h1
      rcases hways with ⟨t1, t2⟩ | ⟨t1, t2, t3, t4⟩ | ⟨t1, t2, t3, t4⟩ | ⟨t1, t2, t3⟩
      · have HT : Hid (sqBit v r d = x) := t2
        clear t2
        go_wp2_with fail
        refine hcall.mono ?_
        rintro _ _ ⟨rfl, rfl⟩
        go_wp2_with fail
        refine ⟨⟨k + 1, by omega, by go_num, ?_⟩, by simp [intOf]; omega⟩
        rw [HS.out, HT.out]
      · have HT : Hid (sqBit v r d = x) := t4
        clear t4
        go_wp2_with fail
        refine hcall.mono ?_
        rintro _ _ ⟨rfl, rfl⟩
        go_wp2_with fail
        refine ⟨⟨k + 1, by omega, by go_num, ?_⟩, by simp [intOf]; omega⟩
        rw [HS.out, HT.out]
      · have HT : Hid (sqBit v r d = r) := t4
        clear t4
        go_wp2_with fail
        refine hcall.mono ?_
        rintro _ _ ⟨rfl, rfl⟩
        go_wp2_with fail
        refine ⟨⟨k + 1, by omega, by go_num, ?_⟩, by simp [intOf]; omega⟩
        rw [HS.out, HT.out]
      · have HT : Hid (sqBit v r d = r) := t3
        clear t3
        go_wp2_with fail
        refine hcall.mono ?_
        rintro _ _ ⟨rfl, rfl⟩
        go_wp2_with fail
        refine ⟨⟨k + 1, by omega, by go_num, ?_⟩, by simp [intOf]; omega⟩
        rw [HS.out, HT.out]
    · obtain rfl : k = 37 := by omega
      obtain ⟨r, hr⟩ : ∃ r, sqN v 37 = r := ⟨_, rfl⟩
      have HQ : Hid (squareN v = r % 4294967296) := by show _ = _; unfold squareN; rw [hr]
      rw [hr]
      clear hr
      go_wp2_with fail
      go_ret
      exact ⟨ret_u32 (by rw [HQ.out]; simp), rfl⟩

end Go.Proofs.YtecamiefpdkjoaaDoor.Dg
