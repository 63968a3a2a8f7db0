/-
  How float64 words compare by the model's IEEE core, said by the words themselves, for every two words below 2^64; and what a key's number is. Plain mathematics: nothing of the program's dump is read here.
-/
import Ieee.Arith
namespace Go.Proofs.Ytcjbbggpnhpbaaa.Plain

/-- The magnitude that a rung below infinity stands for, in units of the least one. -/
def V (r : Nat) : Nat := if r < 4503599627370496 then r else (4503599627370496 + r % 4503599627370496) * 2 ^ (r / 4503599627370496 - 1)

theorem V_lo (r : Nat) (h : r < 4503599627370496) : V r = r := by unfold V; rw [if_pos h]
theorem V_hi (r : Nat) (h : ¬ r < 4503599627370496) : V r = (4503599627370496 + r % 4503599627370496) * 2 ^ (r / 4503599627370496 - 1) := by unfold V; rw [if_neg h]

theorem V_below (r : Nat) : V r < 4503599627370496 * 2 ^ (r / 4503599627370496) := by
  by_cases h : r < 4503599627370496
  · rw [V_lo r h, Nat.div_eq_of_lt h]; omega
  · rw [V_hi r h]
    obtain ⟨q, hq⟩ : ∃ q, r / 4503599627370496 = q + 1 := ⟨r / 4503599627370496 - 1, by omega⟩
    rw [hq, Nat.add_sub_cancel, Nat.pow_succ, Nat.mul_comm (2 ^ q) 2, ← Nat.mul_assoc]
    have : r % 4503599627370496 < 4503599627370496 := Nat.mod_lt _ (by omega)
    exact Nat.mul_lt_mul_of_pos_right (by omega) (Nat.two_pow_pos q)

theorem V_from (r : Nat) (h : ¬ r < 4503599627370496) : 4503599627370496 * 2 ^ (r / 4503599627370496 - 1) ≤ V r := by
  rw [V_hi r h]; exact Nat.mul_le_mul_right _ (by omega)

theorem V_lt {r s : Nat} (h : r < s) : V r < V s := by
  have hq : r / 4503599627370496 ≤ s / 4503599627370496 := Nat.div_le_div_right (Nat.le_of_lt h)
  by_cases hs : s < 4503599627370496
  · rw [V_lo s hs, V_lo r (by omega)]; exact h
  · by_cases he : r / 4503599627370496 = s / 4503599627370496
    · have hr : ¬ r < 4503599627370496 := by omega
      rw [V_hi r hr, V_hi s hs, he]
      exact Nat.mul_lt_mul_of_pos_right (by omega) (Nat.two_pow_pos _)
    · refine Nat.lt_of_lt_of_le (V_below r) (Nat.le_trans ?_ (V_from s hs))
      exact Nat.mul_le_mul_left _ (Nat.pow_le_pow_right (by omega) (by omega))

theorem V_lt_iff (r s : Nat) : V r < V s ↔ r < s := by
  constructor
  · intro h
    rcases Nat.lt_trichotomy r s with a | a | a
    · exact a
    · subst a; omega
    · have := V_lt a; omega
  · exact V_lt

theorem V_inj (r s : Nat) : V r = V s ↔ r = s := by
  constructor
  · intro h
    rcases Nat.lt_trichotomy r s with a | a | a
    · have := V_lt a; omega
    · exact a
    · have := V_lt a; omega
  · intro h; rw [h]

theorem V_zero : V 0 = 0 := V_lo 0 (by omega)

/-- A word's place among the numbers: its rung, below nought with the sign. -/
def sv (x : Nat) : Int := if x / 9223372036854775808 % 2 = 1 then -((x % 9223372036854775808 : Nat) : Int) else ((x % 9223372036854775808 : Nat) : Int)

def nanB (x : Nat) : Bool := decide (9218868437227405312 < x % 9223372036854775808)

theorem cmp_congr (a b c d : Int) (h1 : a < b ↔ c < d) (h2 : a = b ↔ c = d) : compare a b = compare c d := by
  show compareOfLessAndEq a b = compareOfLessAndEq c d
  unfold compareOfLessAndEq
  simp only [h1, h2]

theorem sign_le : Ieee.double.signWeight = 9223372036854775808 := by decide
theorem binade_eq : Ieee.double.binade = 4503599627370496 := by decide
theorem inf_eq : Ieee.double.infRung = 9218868437227405312 := by decide

theorem read_nan (x : Nat) (h : nanB x = true) : ∃ s f, Ieee.double.read x = .nan s f := by
  have h' := of_decide_eq_true h
  unfold Ieee.Format.read
  simp only [sign_le, binade_eq, inf_eq]
  rw [if_neg (by omega), if_neg (by omega), if_neg (by omega)]
  exact ⟨_, _, rfl⟩

theorem read_inf (x : Nat) (h : x % 9223372036854775808 = 9218868437227405312) : Ieee.double.read x = .infinity (x / 9223372036854775808 % 2 == 1) := by
  unfold Ieee.Format.read
  simp only [sign_le, binade_eq, inf_eq]
  rw [if_neg (by omega), if_neg (by omega), if_pos h]

theorem read_num (x : Nat) (h : x % 9223372036854775808 < 9218868437227405312) :
    ∃ m e : Nat, Ieee.double.read x = .number (x / 9223372036854775808 % 2 == 1) m (Ieee.double.leastPlace + (e : Int)) ∧ m * 2 ^ e = V (x % 9223372036854775808) := by
  unfold Ieee.Format.read
  simp only [sign_le, binade_eq, inf_eq]
  by_cases hl : x % 9223372036854775808 < 4503599627370496
  · rw [if_pos hl]
    exact ⟨x % 9223372036854775808, 0, by simp, by rw [V_lo _ hl]; simp⟩
  · rw [if_neg hl, if_pos h]
    exact ⟨_, _, rfl, (V_hi _ hl).symm⟩

/-- The value that a number is scaled to in a comparison, told by its rung. -/
theorem signed_scale (s : Bool) (m up k v : Nat) (h : m * 2 ^ (up + k) = v) : Ieee.signed s m up * ((2 ^ k : Nat) : Int) = if s then -(v : Int) else (v : Int) := by
  have e : (m <<< up) * 2 ^ k = v := by rw [Nat.shiftLeft_eq, Nat.mul_assoc, ← Nat.pow_add]; exact h
  unfold Ieee.signed
  cases s
  · simp only [Bool.false_eq_true, if_false]; rw [← e, Int.natCast_mul]
  · simp only [if_true]; rw [← e, Int.natCast_mul, Int.neg_mul]

theorem cmp_scale (a b : Int) (k : Nat) : compare a b = compare (a * ((2 ^ k : Nat) : Int)) (b * ((2 ^ k : Nat) : Int)) := by
  have hp : (0 : Int) < ((2 ^ k : Nat) : Int) := by exact_mod_cast Nat.two_pow_pos k
  refine cmp_congr _ _ _ _ ?_ ?_
  · constructor
    · intro h; exact Int.mul_lt_mul_of_pos_right h hp
    · intro h; exact Int.lt_of_mul_lt_mul_right h (Int.le_of_lt hp)
  · constructor
    · intro h; rw [h]
    · intro h; exact Int.eq_of_mul_eq_mul_right (by omega) h

theorem order_num (s t : Bool) (m n e f : Nat) (L : Int) :
    Ieee.Datum.order (.number s m (L + (e : Int))) (.number t n (L + (f : Int))) = some (compare (if s then -((m * 2 ^ e : Nat) : Int) else ((m * 2 ^ e : Nat) : Int)) (if t then -((n * 2 ^ f : Nat) : Int) else ((n * 2 ^ f : Nat) : Int))) := by
  unfold Ieee.Datum.order
  simp only []
  have h1 : (L + (e : Int) - min (L + (e : Int)) (L + (f : Int))).toNat = e - min e f := by omega
  have h2 : (L + (f : Int) - min (L + (e : Int)) (L + (f : Int))).toNat = f - min e f := by omega
  rw [h1, h2, cmp_scale _ _ (min e f)]
  rw [signed_scale s m (e - min e f) (min e f) (m * 2 ^ e) (by rw [Nat.sub_add_cancel (Nat.min_le_left e f)])]
  rw [signed_scale t n (f - min e f) (min e f) (n * 2 ^ f) (by rw [Nat.sub_add_cancel (Nat.min_le_right e f)])]

theorem order_nan (x y : Nat) (h : nanB x = true ∨ nanB y = true) : Ieee.double.order x y = none := by
  unfold Ieee.Format.order
  rcases h with h | h
  · obtain ⟨s, f, e⟩ := read_nan x h; rw [e]; rfl
  · obtain ⟨s, f, e⟩ := read_nan y h; rw [e]; cases Ieee.double.read x <;> rfl

theorem order_of (x y : Nat) (hx : nanB x = false) (hy : nanB y = false) : Ieee.double.order x y = some (compare (sv x) (sv y)) := by
  have hx' : ¬ 9218868437227405312 < x % 9223372036854775808 := of_decide_eq_false hx
  have hy' : ¬ 9218868437227405312 < y % 9223372036854775808 := of_decide_eq_false hy
  unfold Ieee.Format.order
  have bx : (x / 9223372036854775808 % 2 == 1) = true ∨ (x / 9223372036854775808 % 2 == 1) = false := by cases (x / 9223372036854775808 % 2 == 1) <;> simp
  have byy : (y / 9223372036854775808 % 2 == 1) = true ∨ (y / 9223372036854775808 % 2 == 1) = false := by cases (y / 9223372036854775808 % 2 == 1) <;> simp
  by_cases ix : x % 9223372036854775808 = 9218868437227405312
  · rw [read_inf x ix]
    by_cases iy : y % 9223372036854775808 = 9218868437227405312
    · rw [read_inf y iy]
      unfold sv
      rw [ix, iy]
      rcases bx with e | e <;> rcases byy with g | g <;> rw [e, g] <;> simp only [beq_iff_eq, beq_eq_false_iff_ne, ne_eq] at e g <;> simp only [e, g, if_true, if_false] <;> rfl
    · obtain ⟨n, f, hr, _⟩ := read_num y (by omega)
      rw [hr]
      show some (if (x / 9223372036854775808 % 2 == 1) = true then Ordering.lt else Ordering.gt) = _
      congr 1
      unfold sv
      show _ = compareOfLessAndEq _ _
      unfold compareOfLessAndEq
      rw [ix]
      rcases bx with e | e <;> rcases byy with g | g <;> rw [e] <;> simp only [beq_iff_eq, beq_eq_false_iff_ne, ne_eq] at e g <;> simp only [e, g, if_true, if_false, Bool.false_eq_true]
      · rw [if_pos (by omega)]
      · rw [if_pos (by omega)]
      · rw [if_neg (by omega), if_neg (by omega)]
      · rw [if_neg (by omega), if_neg (by omega)]
  · obtain ⟨m, e0, hr, hm⟩ := read_num x (by omega)
    rw [hr]
    by_cases iy : y % 9223372036854775808 = 9218868437227405312
    · rw [read_inf y iy]
      show some (if (y / 9223372036854775808 % 2 == 1) = true then Ordering.gt else Ordering.lt) = _
      congr 1
      unfold sv
      show _ = compareOfLessAndEq _ _
      unfold compareOfLessAndEq
      rw [iy]
      rcases bx with e | e <;> rcases byy with g | g <;> rw [g] <;> simp only [beq_iff_eq, beq_eq_false_iff_ne, ne_eq] at e g <;> simp only [e, g, if_true, if_false, Bool.false_eq_true]
      · rw [if_neg (by omega), if_neg (by omega)]
      · rw [if_pos (by omega)]
      · rw [if_neg (by omega), if_neg (by omega)]
      · rw [if_pos (by omega)]
    · obtain ⟨n, f0, hs, hn⟩ := read_num y (by omega)
      rw [hs, order_num, hm, hn]
      congr 1
      unfold sv
      have p1 := V_lt_iff (x % 9223372036854775808) (y % 9223372036854775808)
      have p2 := V_lt_iff (y % 9223372036854775808) (x % 9223372036854775808)
      have p3 := V_inj (x % 9223372036854775808) (y % 9223372036854775808)
      have p4 := V_lt_iff 0 (x % 9223372036854775808)
      have p5 := V_lt_iff 0 (y % 9223372036854775808)
      rw [V_zero] at p4 p5
      generalize V (x % 9223372036854775808) = a at *
      generalize V (y % 9223372036854775808) = b at *
      rcases bx with e | e <;> rcases byy with g | g <;> rw [e, g] <;> simp only [beq_iff_eq, beq_eq_false_iff_ne, ne_eq] at e g <;> simp only [e, g, if_true, if_false, Bool.false_eq_true] <;> refine cmp_congr _ _ _ _ ?_ ?_ <;> omega

/-- x < y, x == y, by the words. -/
def ltB (x y : Nat) : Bool := !nanB x && !nanB y && decide (sv x < sv y)
def eqB (x y : Nat) : Bool := !nanB x && !nanB y && decide (sv x = sv y)

theorem cmp_lt (a b : Int) : (compare a b == Ordering.lt) = decide (a < b) := by
  show (compareOfLessAndEq a b == Ordering.lt) = _
  unfold compareOfLessAndEq
  by_cases h : a < b
  · rw [if_pos h]; simp [h]
  · rw [if_neg h]; by_cases g : a = b <;> simp [g, h]
theorem cmp_eq (a b : Int) : (compare a b == Ordering.eq) = decide (a = b) := by
  show (compareOfLessAndEq a b == Ordering.eq) = _
  unfold compareOfLessAndEq
  by_cases h : a < b
  · rw [if_pos h]; have : ¬ a = b := by omega
    simp [this]
  · rw [if_neg h]; by_cases g : a = b <;> simp [g]
theorem cmp_gt (a b : Int) : (compare a b == Ordering.gt) = decide (b < a) := by
  show (compareOfLessAndEq a b == Ordering.gt) = _
  unfold compareOfLessAndEq
  by_cases h : a < b
  · rw [if_pos h]; have : ¬ b < a := by omega
    simp [this]
  · rw [if_neg h]; by_cases g : a = b
    · simp [g]
    · have : b < a := by omega
      simp [g, this]

theorem some_beq (a b : Ordering) : (some a == some b) = (a == b) := by cases a <;> cases b <;> rfl

theorem order_lt (x y : Nat) : (Ieee.double.order x y == some .lt) = ltB x y := by
  unfold ltB
  cases hx : nanB x
  · cases hy : nanB y
    · rw [order_of x y hx hy, some_beq, cmp_lt]; simp
    · rw [order_nan x y (.inr hy)]; rfl
  · rw [order_nan x y (.inl hx)]; rfl
theorem order_eq (x y : Nat) : (Ieee.double.order x y == some .eq) = eqB x y := by
  unfold eqB
  cases hx : nanB x
  · cases hy : nanB y
    · rw [order_of x y hx hy, some_beq, cmp_eq]; simp
    · rw [order_nan x y (.inr hy)]; rfl
  · rw [order_nan x y (.inl hx)]; rfl
theorem order_gt (x y : Nat) : (Ieee.double.order x y == some .gt) = ltB y x := by
  unfold ltB
  cases hx : nanB x
  · cases hy : nanB y
    · rw [order_of x y hx hy, some_beq, cmp_gt]; simp
    · rw [order_nan x y (.inr hy)]; rfl
  · rw [order_nan x y (.inl hx)]; simp

theorem eqB_self (x : Nat) : eqB x x = !nanB x := by unfold eqB; simp

end Go.Proofs.Ytcjbbggpnhpbaaa.Plain
