/-
  The sum of a text, said of lists of bytes and of plain numbers: one bit's step, many of them, a text as one number, the sum as many steps of it, and what turning bits does. Plain mathematics: nothing of the program's dump is read here.
-/
import Derived.WalkKit
import Derived.Test.YtkcoclpbkealgaaDoorPlain
namespace Go.Proofs.YtkcoclpbkealgaaDoor
set_option maxRecDepth 20000

theorem byte_of (m : Nat) (h : m < 256) : (UInt8.ofNat m).toNat = m := by rw [UInt8.toNat_ofNat']; omega

/-- One bit's step. -/
def poly : Nat := 2197175160
def one (r : Nat) : Nat := (r >>> 1) ^^^ (if r % 2 = 1 then poly else 0)
theorem one_xor (a b : Nat) : one (a ^^^ b) = one a ^^^ one b := by
  unfold one
  rw [Nat.shiftRight_xor_distrib]
  have h := Nat.xor_mod_two_eq_one (a := a) (b := b)
  by_cases ha : a % 2 = 1
  · by_cases hb : b % 2 = 1
    · rw [if_pos ha, if_pos hb, if_neg (by rw [h]; simp [ha, hb]), Nat.xor_zero]
      rw [Nat.xor_assoc, ← Nat.xor_assoc poly, Nat.xor_comm poly, Nat.xor_assoc (b >>> 1) poly poly, Nat.xor_self, Nat.xor_zero]
    · rw [if_pos ha, if_neg hb, if_pos (by rw [h]; simp [ha, hb]), Nat.xor_zero, Nat.xor_assoc, Nat.xor_assoc, Nat.xor_comm poly]
  · by_cases hb : b % 2 = 1
    · rw [if_neg ha, if_pos hb, if_pos (by rw [h]; simp [ha, hb]), Nat.xor_zero, Nat.xor_assoc]
    · rw [if_neg ha, if_neg hb, if_neg (by rw [h]; simp [ha, hb]), Nat.xor_zero, Nat.xor_zero, Nat.xor_zero]
theorem one_zero : one 0 = 0 := rfl
theorem one_shift (x : Nat) : one (x <<< 1) = x := by
  unfold one
  rw [Nat.shiftLeft_eq, if_neg (by omega), Nat.xor_zero, Nat.shiftRight_eq_div_pow]
  omega
theorem one_lt {r : Nat} (h : r < 4294967296) : one r < 4294967296 := by
  unfold one
  refine Nat.xor_lt_two_pow (n := 32) ?_ ?_
  · rw [Nat.shiftRight_eq_div_pow]; show r / 2 < 4294967296; omega
  · split <;> decide
theorem one_none {r : Nat} (h : r < 4294967296) (e : one r = 0) : r = 0 := by
  unfold one at e
  have e2 : r >>> 1 = if r % 2 = 1 then poly else 0 := by
    have h3 := congrArg (· ^^^ (if r % 2 = 1 then poly else 0)) e
    simpa only [Nat.xor_assoc, Nat.xor_self, Nat.xor_zero, Nat.zero_xor] using h3
  rw [Nat.shiftRight_eq_div_pow] at e2
  unfold poly at e2
  split at e2 <;> omega

/-- Many steps. -/
def many : Nat → Nat → Nat
  | 0, r => r
  | n + 1, r => many n (one r)
theorem many_add (m n r : Nat) : many (m + n) r = many n (many m r) := by
  induction m generalizing r with
  | zero => rw [Nat.zero_add]; rfl
  | succ m ih => rw [Nat.succ_add]; exact ih _
theorem many_succ (n r : Nat) : many (n + 1) r = one (many n r) := many_add n 1 r
theorem many_xor (n a b : Nat) : many n (a ^^^ b) = many n a ^^^ many n b := by
  induction n generalizing a b with
  | zero => rfl
  | succ n ih => show many n (one _) = _; rw [one_xor, ih]; rfl
theorem many_zero (n : Nat) : many n 0 = 0 := by
  induction n with
  | zero => rfl
  | succ n ih => exact ih
theorem many_shift (n x : Nat) : many n (x <<< n) = x := by
  induction n generalizing x with
  | zero => rfl
  | succ n ih =>
    show many n (one _) = _
    rw [Nat.shiftLeft_add, one_shift, ih]
theorem many_lt (n : Nat) {r : Nat} (h : r < 4294967296) : many n r < 4294967296 := by
  induction n generalizing r with
  | zero => exact h
  | succ n ih => exact ih (one_lt h)
theorem many_none (n : Nat) {r : Nat} (h : r < 4294967296) (e : many n r = 0) : r = 0 := by
  induction n generalizing r with
  | zero => exact e
  | succ n ih => exact one_none h (ih (one_lt h) e)

/-- Half a byte's step by a table. -/
def stepsN : List Nat := [0, 274646895, 549293790, 820201905, 1098587580, 1361435347, 1640403810, 1905808397, 2197175160, 2460548119, 2722870694, 2987750089, 3280807620, 3553878443, 3811616794, 4084100981]
theorem stepsN_at : ∀ n : Nat, n < 16 → stepsN.getD n 0 = many 4 n := by decide +kernel
theorem parts (r n : Nat) : ((r >>> n) <<< n) ^^^ (r % 2 ^ n) = r := by
  refine Nat.eq_of_testBit_eq fun i => ?_
  rw [Nat.testBit_xor, Nat.testBit_shiftLeft, Nat.testBit_shiftRight, Nat.testBit_mod_two_pow]
  by_cases h : n ≤ i
  · rw [decide_eq_true (show i ≥ n from h), decide_eq_false (show ¬ i < n by omega), show n + (i - n) = i by omega]; simp
  · rw [decide_eq_false (show ¬ i ≥ n by omega), decide_eq_true (show i < n by omega)]; simp
theorem half_eq (r : Nat) : (r / 16) ^^^ stepsN.getD (r % 16) 0 = many 4 r := by
  rw [stepsN_at _ (by omega)]
  have h := parts r 4
  conv => rhs; rw [← h]
  rw [many_xor, many_shift, Nat.shiftRight_eq_div_pow]

/-- The division of a text, behind a rest. -/
def crc (r : Nat) (l : List UInt8) : Nat := l.foldl (fun r c => many 8 (r ^^^ c.toNat)) r
theorem crc_step (r : Nat) (l : List UInt8) (k : Nat) (c : UInt8) (h : l[k]? = some c) : crc r (l.take (k + 1)) = many 8 (crc r (l.take k) ^^^ c.toNat) := by
  unfold crc
  rw [List.take_add_one, h, List.foldl_append]; rfl
theorem byte_lt (c : UInt8) : c.toNat < 4294967296 := by have := c.toNat_lt; omega
theorem xor_lt {a b : Nat} (ha : a < 4294967296) (hb : b < 4294967296) : a ^^^ b < 4294967296 := Nat.xor_lt_two_pow (n := 32) ha hb
theorem crc_lt {r : Nat} (h : r < 4294967296) (l : List UInt8) : crc r l < 4294967296 := by
  induction l generalizing r with
  | nil => exact h
  | cons c l ih => exact ih (many_lt 8 (xor_lt h (byte_lt c)))

/-- A text as a number, its first byte the lowest. -/
def num : List UInt8 → Nat
  | [] => 0
  | c :: l => c.toNat ^^^ (num l <<< 8)
theorem crc_num (r : Nat) (l : List UInt8) : crc r l = many (8 * l.length) (r ^^^ num l) := by
  induction l generalizing r with
  | nil => show r = many 0 (r ^^^ 0); rw [Nat.xor_zero]; rfl
  | cons c l ih =>
    show crc (many 8 (r ^^^ c.toNat)) l = _
    rw [ih, List.length_cons, show 8 * (l.length + 1) = 8 + 8 * l.length by omega, many_add]
    show _ = many _ (many 8 (r ^^^ (c.toNat ^^^ (num l <<< 8))))
    rw [← Nat.xor_assoc, many_xor 8 (r ^^^ c.toNat), many_shift]

/-- The sum. -/
def ones : Nat := 4294967295
def sumL (c : Nat) (l : List UInt8) : Nat := ones ^^^ crc (ones ^^^ c) l
theorem ones_lt : ones < 4294967296 := by decide
theorem sumL_lt {c : Nat} (h : c < 4294967296) (l : List UInt8) : sumL c l < 4294967296 := xor_lt ones_lt (crc_lt (xor_lt ones_lt h) l)
theorem twice (x : Nat) : ones ^^^ (ones ^^^ x) = x := by rw [← Nat.xor_assoc, Nat.xor_self, Nat.zero_xor]
theorem sumL_nil (c : Nat) : sumL c [] = c := twice c
theorem sumL_on (c : Nat) (l m : List UInt8) : sumL (sumL c l) m = sumL c (l ++ m) := by
  unfold sumL
  rw [twice]
  unfold crc
  rw [List.foldl_append]

/-- Bits of three texts together. -/
def x3 : List UInt8 → List UInt8 → List UInt8 → List UInt8
  | a :: l, b :: m, c :: n => (a ^^^ b ^^^ c) :: x3 l m n
  | _, _, _ => []
theorem x3_step (l m n : List UInt8) : ∀ (k : Nat) (a b c : UInt8), l[k]? = some a → m[k]? = some b → n[k]? = some c → x3 (l.take (k + 1)) (m.take (k + 1)) (n.take (k + 1)) = x3 (l.take k) (m.take k) (n.take k) ++ [a ^^^ b ^^^ c] := by
  induction l generalizing m n with
  | nil => intro k a b c h; simp at h
  | cons x l ih =>
    intro k a b c ha hb hc
    cases m with
    | nil => simp at hb
    | cons y m =>
      cases n with
      | nil => simp at hc
      | cons z n =>
        cases k with
        | zero =>
          simp only [List.getElem?_cons_zero, Option.some.injEq] at ha hb hc
          subst ha; subst hb; subst hc
          rfl
        | succ k =>
          rw [List.getElem?_cons_succ] at ha hb hc
          show (x ^^^ y ^^^ z) :: x3 (l.take (k + 1)) (m.take (k + 1)) (n.take (k + 1)) = _
          rw [ih m n k a b c ha hb hc]; rfl
theorem x3_length : ∀ (l m n : List UInt8), l.length = m.length → l.length = n.length → (x3 l m n).length = l.length
  | [], _, _, _, _ => by unfold x3; rfl
  | a :: l, b :: m, c :: n, h, k => by
    show (x3 l m n).length + 1 = l.length + 1
    rw [x3_length l m n (by simpa using h) (by simpa using k)]
  | a :: l, [], _, h, _ => by simp at h
  | a :: l, _ :: _, [], _, k => by simp at k
theorem x3_num : ∀ (l m n : List UInt8), l.length = m.length → l.length = n.length → num (x3 l m n) = num l ^^^ num m ^^^ num n
  | [], [], [], _, _ => rfl
  | a :: l, b :: m, c :: n, h, k => by
    show (a ^^^ b ^^^ c).toNat ^^^ (num (x3 l m n) <<< 8) = (a.toNat ^^^ (num l <<< 8)) ^^^ (b.toNat ^^^ (num m <<< 8)) ^^^ (c.toNat ^^^ (num n <<< 8))
    rw [x3_num l m n (by simpa using h) (by simpa using k), UInt8.toNat_xor, UInt8.toNat_xor, Nat.shiftLeft_xor_distrib, Nat.shiftLeft_xor_distrib]
    ac_rfl
  | [], _ :: _, _, h, _ => by simp at h
  | [], [], _ :: _, _, k => by simp at k
  | a :: l, [], _, h, _ => by simp at h
  | a :: l, _ :: _, [], _, k => by simp at k
theorem three (o x y z : Nat) : (o ^^^ x) ^^^ (o ^^^ y) ^^^ (o ^^^ z) = o ^^^ (x ^^^ y ^^^ z) := by
  have h : (o ^^^ x) ^^^ (o ^^^ y) ^^^ (o ^^^ z) = (o ^^^ o) ^^^ (o ^^^ (x ^^^ y ^^^ z)) := by ac_rfl
  rw [h, Nat.xor_self, Nat.zero_xor]
theorem sum_three (c : Nat) (l m n : List UInt8) (h : l.length = m.length) (k : l.length = n.length) : sumL c (x3 l m n) = sumL c l ^^^ sumL c m ^^^ sumL c n := by
  unfold sumL
  rw [three, crc_num, crc_num, crc_num, crc_num, x3_length l m n h k, x3_num l m n h k, ← h, ← k, ← many_xor, ← many_xor, three]

/-- Bits turned. -/
theorem num_set (l : List UInt8) : ∀ (j : Nat) (c d : UInt8), l[j]? = some c → num (l.set j (c ^^^ d)) = num l ^^^ (d.toNat <<< (8 * j)) := by
  induction l with
  | nil => intro j c d h; simp at h
  | cons x l ih =>
    intro j c d h
    cases j with
    | zero =>
      simp only [List.getElem?_cons_zero, Option.some.injEq] at h
      subst h
      show (x ^^^ d).toNat ^^^ (num l <<< 8) = (x.toNat ^^^ (num l <<< 8)) ^^^ (d.toNat <<< 0)
      rw [UInt8.toNat_xor, Nat.shiftLeft_zero]
      ac_rfl
    | succ j =>
      rw [List.getElem?_cons_succ] at h
      show x.toNat ^^^ (num (l.set j (c ^^^ d)) <<< 8) = (x.toNat ^^^ (num l <<< 8)) ^^^ (d.toNat <<< (8 * (j + 1)))
      rw [ih j c d h, Nat.shiftLeft_xor_distrib, show 8 * (j + 1) = 8 * j + 8 by omega, Nat.shiftLeft_add, Nat.xor_assoc]
theorem low_step (v i : Nat) : v % 2 ^ (i + 1) = (v % 2 ^ i) ^^^ ((v / 2 ^ i % 2) <<< i) := by
  have h := parts (v % 2 ^ (i + 1)) i
  rw [Nat.mod_mod_of_dvd _ (Nat.pow_dvd_pow 2 (Nat.le_succ i)), Nat.shiftRight_eq_div_pow, Nat.pow_succ, Nat.mod_mul_right_div_self] at h
  rw [Nat.pow_succ, ← h, Nat.xor_comm]
/-- The sum of a text with bits turned, from the k-th on as the number M has them. -/
theorem sum_turned (c k M : Nat) (l m : List UInt8) (hl : m.length = l.length) (hk : k ≤ 8 * l.length) (hM : M < 4294967296) (h : num m = num l ^^^ (M <<< k)) : (sumL c m = sumL c l) ↔ M = 0 := by
  have e : sumL c m = sumL c l ^^^ many (8 * l.length - k) M := by
    unfold sumL
    have h4 : many (8 * l.length) (M <<< k) = many (8 * l.length - k) M := by
      conv => lhs; rw [show 8 * l.length = k + (8 * l.length - k) by omega, many_add, many_shift]
    rw [crc_num, crc_num, h, hl, ← Nat.xor_assoc (ones ^^^ c), many_xor _ _ (M <<< k), h4, ← Nat.xor_assoc]
  rw [e]
  constructor
  · intro h1
    have h2 : many (8 * l.length - k) M = 0 := by
      have h3 : sumL c l ^^^ (sumL c l ^^^ many (8 * l.length - k) M) = sumL c l ^^^ sumL c l := congrArg (sumL c l ^^^ ·) h1
      rwa [← Nat.xor_assoc, Nat.xor_self, Nat.zero_xor] at h3
    exact many_none _ hM h2
  · intro h1
    subst h1
    rw [many_zero, Nat.xor_zero]

/-- A number's four bytes, the highest first; the number of bytes. -/
def putL (v : Nat) : List UInt8 := [UInt8.ofNat (v / 16777216 % 256), UInt8.ofNat (v / 65536 % 256), UInt8.ofNat (v / 256 % 256), UInt8.ofNat (v % 256)]
def beN (l : List UInt8) : Nat := l.foldl (fun v c => v * 256 + c.toNat) 0
theorem beN_step (l : List UInt8) (k : Nat) (c : UInt8) (h : l[k]? = some c) : beN (l.take (k + 1)) = beN (l.take k) * 256 + c.toNat := by
  unfold beN
  rw [List.take_add_one, h, List.foldl_append]; rfl
theorem beN_put (v : Nat) (h : v < 4294967296) (t : List UInt8) : beN ((putL v ++ t).take 4) = v := by
  show beN (putL v) = v
  unfold beN putL
  simp only [List.foldl_cons, List.foldl_nil]
  rw [byte_of _ (by omega), byte_of _ (by omega), byte_of _ (by omega), byte_of _ (by omega)]
  omega
theorem put_beN (l : List UInt8) (h : 4 ≤ l.length) : putL (beN (l.take 4)) = l.take 4 := by
  match l, h with
  | a :: b :: c :: d :: t, _ =>
    show putL ((((0 * 256 + a.toNat) * 256 + b.toNat) * 256 + c.toNat) * 256 + d.toNat) = [a, b, c, d]
    unfold putL
    have ha := a.toNat_lt
    have hb := b.toNat_lt
    have hc := c.toNat_lt
    have hd := d.toNat_lt
    congr 1
    · refine UInt8.toNat_inj.1 ?_; rw [byte_of _ (by omega)]; omega
    congr 1
    · refine UInt8.toNat_inj.1 ?_; rw [byte_of _ (by omega)]; omega
    congr 1
    · refine UInt8.toNat_inj.1 ?_; rw [byte_of _ (by omega)]; omega
    congr 1
    · refine UInt8.toNat_inj.1 ?_; rw [byte_of _ (by omega)]; omega
theorem putL_length (v : Nat) : (putL v).length = 4 := rfl

section
variable {α : Type}
end

end Go.Proofs.YtkcoclpbkealgaaDoor
