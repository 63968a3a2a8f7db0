/-
  What the small functions of the float layer return, for every word below 2^64.
-/
import Derived.Test.YtcjbbggpnhpbaaaRows
import Derived.Test.YtcjbbggpnhpbaaaPlain
import Derived.WalkKit
import Derived.WalkSpells
import Derived.WalkLawsBesides
namespace Go.Proofs.Ytcjbbggpnhpbaaa
open Go.RowKit
open Plain

theorem f64_lt (x y : Nat) : (FloatKind.f64.format.order x y == some .lt) = ltB x y := order_lt x y
theorem f64_eq (x y : Nat) : (FloatKind.f64.format.order x y == some .eq) = eqB x y := order_eq x y
theorem f64_ne (x y : Nat) : (FloatKind.f64.format.order x y != some .eq) = !eqB x y := by rw [← order_eq x y]; rfl
theorem f64_gt (x y : Nat) : (FloatKind.f64.format.order x y == some .gt) = ltB y x := order_gt x y

theorem call_from (n : Int) (w : World) : (callFunc 8 #[.int .u64 n]).run Try.prog w = .ok (.value (.float .f64 n.toNat)) w := by
  rw [run_callFunc_extern (fn := Try.f8) (e := Extern.MathFloatBits.float64frombits) Try.func8 (by kernel_rfl) (by kernel_rfl) (by kernel_rfl) (by kernel_rfl)]
  rfl
theorem call_bits (b : Nat) (w : World) : (callFunc 25 #[.float .f64 b]).run Try.prog w = .ok (.value (.int .u64 b)) w := by
  rw [run_callFunc_extern (fn := Try.f25) (e := Extern.MathFloatBits.float64bits) Try.func25 (by kernel_rfl) (by kernel_rfl) (by kernel_rfl) (by kernel_rfl)]
  rfl
theorem neg_run (b : Nat) : Op.unary .neg (.float .f64 b) = pure (.float .f64 (Op.negFloat .f64 b)) := rfl

set_option maxHeartbeats 400000 in
theorem isNaN_any (x : Nat) (w : World) :
    Calls Try.prog 26 #[.float .f64 x] w fun e w' => e = .returned (.bool (nanB x)) ∧ w' = w := by
  go_enter Try.func26, Try.ntmps26
  go_wp2
  go_ret
  refine ⟨?_, rfl⟩
  show Ending.returned (.bool (FloatKind.f64.format.order x x != some Ordering.eq)) = _
  rw [f64_ne, eqB_self, Bool.not_not]

set_option maxHeartbeats 400000 in
theorem nan_any (w : World) :
    Calls Try.prog 27 #[] w fun e w' => e = .returned (.float .f64 9221120237041090561) ∧ w' = w := by
  have hf := call_from
  go_enter Try.func27, Try.ntmps27
  go_wp2
  go_ret
  exact ⟨rfl, rfl⟩

set_option maxHeartbeats 400000 in
theorem inf_pos (w : World) :
    Calls Try.prog 20 #[.int .i64 1] w fun e w' => e = .returned (.float .f64 9218868437227405312) ∧ w' = w := by
  have hf := call_from
  go_enter Try.func20, Try.ntmps20
  go_wp2
  go_ret
  exact ⟨rfl, rfl⟩

set_option maxHeartbeats 400000 in
theorem inf_neg (w : World) :
    Calls Try.prog 20 #[.int .i64 (-1)] w fun e w' => e = .returned (.float .f64 18442240474082181120) ∧ w' = w := by
  have hf := call_from
  go_enter Try.func20, Try.ntmps20
  go_wp2
  go_ret
  exact ⟨rfl, rfl⟩

/-- The bits of one choice for each number. -/
def plainN (x : Nat) : Nat := if nanB x = true then 9221120237041090560 else if x = 9223372036854775808 then 0 else x
/-- Bits laid so that they rise as their numbers do. -/
def turnN (p : Nat) : Nat := if p < 9223372036854775808 then p + 9223372036854775808 else 18446744073709551615 - p
def backN (t : Nat) : Nat := if t < 9223372036854775808 then 18446744073709551615 - t else t - 9223372036854775808

theorem plainN_lt (x : Nat) (h : x < 18446744073709551616) : plainN x < 18446744073709551616 := by
  unfold plainN
  split
  · omega
  · split <;> omega
theorem turnN_lt (x : Nat) (h : x < 18446744073709551616) : turnN x < 18446744073709551616 := by unfold turnN; split <;> omega
theorem backN_lt (x : Nat) (h : x < 18446744073709551616) : backN x < 18446744073709551616 := by unfold backN; split <;> omega

theorem and_sign (x : Nat) (h : x < 18446744073709551616) : bits .and .u64 (x : Int) 9223372036854775808 = if x < 9223372036854775808 then 0 else 9223372036854775808 := by
  have := u64_and_nat x 9223372036854775808 h (by omega)
  have e : x &&& 9223372036854775808 = x / 2 ^ 63 % 2 * 2 ^ 63 := nat_bit 63 x
  rw [e] at this
  have h2 : (x / 2 ^ 63 % 2 * 2 ^ 63) = if x < 9223372036854775808 then 0 else 9223372036854775808 := by split <;> omega
  rw [h2] at this
  refine this.trans ?_
  split <;> rfl

theorem nat_xor_lo (x : Nat) (h : x < 2 ^ 63) : x ^^^ 2 ^ 63 = x + 2 ^ 63 := by
  have e : x + 2 ^ 63 = 2 ^ 63 ||| x := by
    have := Nat.two_pow_add_eq_or_of_lt h 1
    rw [Nat.mul_one] at this
    rw [← this, Nat.add_comm]
  rw [e]
  apply Nat.eq_of_testBit_eq
  intro i
  rw [Nat.testBit_xor, Nat.testBit_or, Nat.testBit_two_pow]
  by_cases hi : 63 = i
  · subst hi; rw [Nat.testBit_lt_two_pow h]; simp
  · simp [hi]
theorem nat_xor_sign (x : Nat) (h : x < 18446744073709551616) : x ^^^ 9223372036854775808 = if x < 9223372036854775808 then x + 9223372036854775808 else x - 9223372036854775808 := by
  by_cases hx : x < 9223372036854775808
  · rw [if_pos hx]; exact nat_xor_lo x hx
  · rw [if_neg hx]
    obtain ⟨y, hy⟩ : ∃ y, x = y + 2 ^ 63 := ⟨x - 2 ^ 63, by omega⟩
    have hl := nat_xor_lo y (by omega)
    have e : x ^^^ 2 ^ 63 = y := by rw [hy, ← hl, Nat.xor_assoc, Nat.xor_self, Nat.xor_zero]
    have e2 : x ^^^ 9223372036854775808 = y := e
    omega

theorem xor_sign (x : Nat) (h : x < 18446744073709551616) : bits .xor .u64 (x : Int) 9223372036854775808 = ((if x < 9223372036854775808 then x + 9223372036854775808 else x - 9223372036854775808 : Nat) : Int) := by
  have := u64_xor_nat x 9223372036854775808 h (by omega)
  rw [nat_xor_sign x h] at this
  exact this
theorem not_u64 (x : Nat) (h : x < 18446744073709551616) : bits .xor .u64 IntKind.u64.max (x : Int) = ((18446744073709551615 - x : Nat) : Int) := by
  show IntKind.u64.wrap ((BitVec.ofInt 64 IntKind.u64.max ^^^ BitVec.ofInt 64 (x : Int)).toNat : Int) = _
  have h1 : BitVec.ofInt 64 IntKind.u64.max = BitVec.allOnes 64 := by decide
  rw [h1, BitVec.allOnes_xor, BitVec.toNat_not, ofInt_u64 x h, IntKind.wrap_u64]
  omega
theorem neg_word (x : Nat) (h : x < 18446744073709551616) : Op.negFloat .f64 x = if x < 9223372036854775808 then x + 9223372036854775808 else x - 9223372036854775808 := nat_xor_sign x h

theorem ret_u64 {a b : Int} (h : a = b) : Ending.returned (.int .u64 a) = .returned (.int .u64 b) := by rw [h]

set_option maxHeartbeats 400000 in
theorem turn_any (x : Nat) (hx : x < 18446744073709551616) (w : World) :
    Calls Try.prog 23 #[.int .u64 (x : Int)] w fun e w' => e = .returned (.int .u64 (turnN x : Nat)) ∧ w' = w := by
  have ha := and_sign x hx
  have h1 := xor_sign x hx
  have h2 := not_u64 x hx
  by_cases hs : x < 9223372036854775808
  · rw [if_pos hs] at ha h1
    have hb : (bits .and .u64 (x : Int) 9223372036854775808 == 0) = true := by rw [ha]; rfl
    clear ha h2
    have H : Hid (_ = _) := h1
    clear h1
    go_enter Try.func23, Try.ntmps23
    go_wp2
    go_ret
    refine ⟨ret_u64 (H.out.trans ?_), rfl⟩
    unfold turnN; rw [if_pos hs]
  · rw [if_neg hs] at ha h1
    have hb : (bits .and .u64 (x : Int) 9223372036854775808 == 0) = false := by rw [ha]; rfl
    clear ha h1
    have H : Hid (_ = _) := h2
    clear h2
    go_enter Try.func23, Try.ntmps23
    go_wp2
    go_ret
    refine ⟨ret_u64 (H.out.trans ?_), rfl⟩
    unfold turnN; rw [if_neg hs]

set_option maxHeartbeats 400000 in
theorem back_any (x : Nat) (hx : x < 18446744073709551616) (w : World) :
    Calls Try.prog 21 #[.int .u64 (x : Int)] w fun e w' => e = .returned (.int .u64 (backN x : Nat)) ∧ w' = w := by
  have ha := and_sign x hx
  have h1 := xor_sign x hx
  have h2 := not_u64 x hx
  by_cases hs : x < 9223372036854775808
  · rw [if_pos hs] at ha h1
    have hb : (bits .and .u64 (x : Int) 9223372036854775808 != 0) = false := by rw [ha]; rfl
    clear ha h1
    have H : Hid (_ = _) := h2
    clear h2
    go_enter Try.func21, Try.ntmps21
    go_wp2
    go_ret
    refine ⟨ret_u64 (H.out.trans ?_), rfl⟩
    unfold backN; rw [if_pos hs]
  · rw [if_neg hs] at ha h1
    have hb : (bits .and .u64 (x : Int) 9223372036854775808 != 0) = true := by rw [ha]; rfl
    clear ha h2
    have H : Hid (_ = _) := h1
    clear h1
    go_enter Try.func21, Try.ntmps21
    go_wp2
    go_ret
    refine ⟨ret_u64 (H.out.trans ?_), rfl⟩
    unfold backN; rw [if_neg hs]

set_option maxHeartbeats 400000 in
theorem plain_any (x : Nat) (w : World) :
    Calls Try.prog 24 #[.float .f64 x] w fun e w' => e = .returned (.int .u64 (plainN x : Nat)) ∧ w' = w := by
  have hf := call_bits
  cases hn : nanB x
  · by_cases hs : x = 9223372036854775808
    · have hb : ((x : Int) == 9223372036854775808) = true := by rw [beq_iff_eq]; omega
      have H : Hid (x = 9223372036854775808) := hs
      clear hs
      go_enter Try.func24, Try.ntmps24
      go_wp2_with (go_at_call 26; refine (isNaN_any _ _).mono ?_; rintro e w' ⟨rfl, rfl⟩)
      go_ret
      refine ⟨ret_u64 ?_, rfl⟩
      unfold plainN; rw [hn, if_neg (by decide), if_pos H.out]; rfl
    · have hb : ((x : Int) == 9223372036854775808) = false := by rw [beq_eq_false_iff_ne]; omega
      go_enter Try.func24, Try.ntmps24
      go_wp2_with (go_at_call 26; refine (isNaN_any _ _).mono ?_; rintro e w' ⟨rfl, rfl⟩)
      go_ret
      refine ⟨ret_u64 ?_, rfl⟩
      unfold plainN; rw [hn, if_neg (by decide), if_neg hs]
  · go_enter Try.func24, Try.ntmps24
    go_wp2_with (go_at_call 26; refine (isNaN_any _ _).mono ?_; rintro e w' ⟨rfl, rfl⟩)
    go_ret
    refine ⟨ret_u64 ?_, rfl⟩
    unfold plainN; rw [hn, if_pos rfl]; rfl

end Go.Proofs.Ytcjbbggpnhpbaaa
