/-
  OnesCount, childrenOf.
-/
import Derived.Test.YtecamiefpdkjoaaDoorNdPop
namespace Go.Proofs.YtecamiefpdkjoaaDoor
open Go.RowKit
set_option maxRecDepth 20000
set_option linter.unusedVariables false

set_option maxHeartbeats 400000 in
theorem ones_any (x : Nat) (h : x < 65536) (w : World) :
    Calls Tryd.prog 59 #[.int .u64 (x : Int)] w fun e w' => e = .returned (.int .i64 (popN x : Nat)) ∧ w' = w := by
  have HC := ones64_any x h
  go_enter Tryd.func59, Tryd.ntmps59
  go_wp2_with fail
  refine (HC _).mono ?_
  rintro e w1 ⟨rfl, rfl⟩
  go_wp2_with fail
  go_ret
  exact ⟨rfl, rfl⟩
set_option maxHeartbeats 400000 in
theorem children_any (x : Nat) (h : x < 65536) (w : World) :
    Calls Tryd.prog 44 #[.int .i64 (x : Int)] w fun e w' => e = .returned (.int .i64 (popN x : Nat)) ∧ w' = w := by
  have HC := ones_any x h
  have hm : (x : Int) % 18446744073709551616 = (x : Int) := by omega
  go_enter Tryd.func44, Tryd.ntmps44
  go_wp2_with fail
  refine (HC _).mono ?_
  rintro e w1 ⟨rfl, rfl⟩
  go_wp2_with fail
  go_ret
  exact ⟨rfl, rfl⟩

theorem i64_and1 (n : Int) : bits .and .i64 n 1 = n % 2 := by
  have h1 : (BitVec.ofInt 64 1).toNat = 2 ^ 1 - 1 := by decide
  have key : (BitVec.ofInt 64 n &&& BitVec.ofInt 64 1).toNat = (n % ((2 ^ 64 : Nat) : Int)).toNat % 2 ^ 1 := by
    rw [BitVec.toNat_and, BitVec.toNat_ofInt, h1, Nat.and_two_pow_sub_one_eq_mod]
  show IntKind.i64.wrap ((BitVec.ofInt 64 n &&& BitVec.ofInt 64 1).toNat : Nat) = n % 2
  rw [key, IntKind.wrap_i64]
  omega
set_option maxHeartbeats 400000 in
theorem bits_any (x : Nat) (h : x < 65536) (w : World) :
    Calls Tryd.prog 30 #[.int .i64 (x : Int)] w fun e w' => e = .returned (.int .i64 (popN x : Nat)) ∧ w' = w := by
  go_enter Tryd.func30, Tryd.ntmps30
  go_wp2_with fail
  go_loop [3, 4] (fun n i => ∃ k : Nat, k ≤ 16 ∧ i = .int .i64 (k : Int) ∧ n = .int .i64 ((popT x k : Nat) : Int)) (fun _ i => (16 - intOf i).toNat)
  case atStart => exact ⟨0, by omega, rfl, rfl⟩
  case round =>
    obtain ⟨k, hk, rfl, rfl⟩ := hrel
    have hp := popT_le x k
    by_cases hlt : k < 16
    · have hlt' : (k : Int) < 16 := by omega
      obtain ⟨y, hy⟩ : ∃ y, x / 2 ^ k % 2 = y := ⟨_, rfl⟩
      have hy1 : y ≤ 1 := by omega
      have hb : bits .and .i64 ((x : Int) / 2 ^ k) 1 = (y : Int) := by
        rw [i64_and1, ← hy, Int.natCast_emod, Int.natCast_ediv, Int.natCast_pow]; rfl
      have HN : Hid (popT x (k + 1) = popT x k + y) := by rw [← hy]; rfl
      clear hy
      generalize popT x k = t at hp HN ⊢
      go_wp2_with fail
      exact ⟨⟨k + 1, by omega, by go_num, by rw [HN.out]; go_num⟩, by simp [intOf]; omega⟩
    · obtain rfl : k = 16 := by omega
      go_wp2_with fail
      go_ret
      exact ⟨rfl, rfl⟩
end Go.Proofs.YtecamiefpdkjoaaDoor
