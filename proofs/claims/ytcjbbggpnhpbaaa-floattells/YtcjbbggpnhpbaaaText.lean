/-
  Eight bytes and the number that they spell, the highest first: one tells the other, and texts of one length stand as their numbers do. Plain mathematics.
-/
import Derived.Test.YtcjbbggpnhpbaaaKey
import Derived.Lib.Strings
namespace Go.Proofs.Ytcjbbggpnhpbaaa
open Go.RowKit
open Plain

/-- The number that bytes spell, the highest first. -/
def valL (l : List UInt8) : Nat := l.foldl (fun a c => a * 256 + c.toNat) 0
theorem valL_snoc (l : List UInt8) (c : UInt8) : valL (l ++ [c]) = valL l * 256 + c.toNat := by unfold valL; rw [List.foldl_append]; rfl
theorem fold_init (l : List UInt8) : ∀ a : Nat, l.foldl (fun a c => a * 256 + c.toNat) a = a * 256 ^ l.length + valL l := by
  induction l with
  | nil => intro a; simp [valL]
  | cons c l ih =>
    intro a
    unfold valL
    rw [List.foldl_cons, List.foldl_cons, ih, ih (0 * 256 + c.toNat), List.length_cons, Nat.pow_succ, Nat.add_mul, Nat.zero_mul, Nat.zero_add, Nat.mul_assoc, Nat.mul_comm 256, Nat.add_assoc]
theorem valL_cons (c : UInt8) (l : List UInt8) : valL (c :: l) = c.toNat * 256 ^ l.length + valL l := by
  have : valL (c :: l) = l.foldl (fun a c => a * 256 + c.toNat) (0 * 256 + c.toNat) := rfl
  rw [this, fold_init, Nat.zero_mul, Nat.zero_add]
theorem valL_lt (l : List UInt8) : valL l < 256 ^ l.length := by
  induction l with
  | nil => simp [valL]
  | cons c l ih =>
    rw [valL_cons, List.length_cons, Nat.pow_succ]
    have hc : c.toNat < 256 := c.toNat_lt
    have : c.toNat * 256 ^ l.length + 256 ^ l.length ≤ 256 ^ l.length * 256 := by
      rw [← Nat.succ_mul, Nat.mul_comm]; exact Nat.mul_le_mul_left _ hc
    omega

theorem take_snoc (s : ByteArray) (k : Nat) (h : k < s.size) : s.data.toList.take (k + 1) = s.data.toList.take k ++ [s[k]] := by
  rw [List.take_succ_eq_append_getElem (by simpa using h)]; rfl

theorem byte_of (m : Nat) : (UInt8.ofNat (m % 256)).toNat = m % 256 := by rw [UInt8.toNat_ofNat']; omega
theorem valL_eight (a b c d e f g h : UInt8) : valL [a, b, c, d, e, f, g, h] = ((((((a.toNat * 256 + b.toNat) * 256 + c.toNat) * 256 + d.toNat) * 256 + e.toNat) * 256 + f.toNat) * 256 + g.toNat) * 256 + h.toNat := by
  show (((((((0 * 256 + a.toNat) * 256 + b.toNat) * 256 + c.toNat) * 256 + d.toNat) * 256 + e.toNat) * 256 + f.toNat) * 256 + g.toNat) * 256 + h.toNat = _
  rw [Nat.zero_mul, Nat.zero_add]
theorem digit_step (B n : Nat) : n / (B * 256) * 256 + n / B % 256 = n / B := by
  rw [← Nat.div_div_eq_div_mul]
  generalize n / B = m
  omega
theorem valL_keyL (n : Nat) (h : n < 18446744073709551616) : valL (keyL n) = n := by
  unfold keyL
  rw [valL_eight]
  simp only [byte_of]
  have e7 : n / 72057594037927936 % 256 = n / 72057594037927936 := by omega
  have e6 : n / 72057594037927936 * 256 + n / 281474976710656 % 256 = n / 281474976710656 := digit_step 281474976710656 n
  have e5 : n / 281474976710656 * 256 + n / 1099511627776 % 256 = n / 1099511627776 := digit_step 1099511627776 n
  have e4 : n / 1099511627776 * 256 + n / 4294967296 % 256 = n / 4294967296 := digit_step 4294967296 n
  have e3 : n / 4294967296 * 256 + n / 16777216 % 256 = n / 16777216 := digit_step 16777216 n
  have e2 : n / 16777216 * 256 + n / 65536 % 256 = n / 65536 := digit_step 65536 n
  have e1 : n / 65536 * 256 + n / 256 % 256 = n / 256 := digit_step 256 n
  have e0 : n / 256 * 256 + n % 256 = n := by clear e7 e6 e5 e4 e3 e2 e1; omega
  rw [e7, e6, e5, e4, e3, e2, e1, e0]

theorem valL_inj : ∀ (l m : List UInt8), l.length = m.length → valL l = valL m → l = m := by
  intro l
  induction l with
  | nil => intro m h _; cases m with
    | nil => rfl
    | cons c m => simp at h
  | cons c l ih => intro m h e; cases m with
    | nil => simp at h
    | cons d m =>
      simp at h
      rw [valL_cons, valL_cons, h] at e
      have h1 := valL_lt l
      have h2 := valL_lt m
      rw [h] at h1
      have hcd : c.toNat = d.toNat := by
        have a1 : (c.toNat * 256 ^ m.length + valL l) / 256 ^ m.length = c.toNat := by
          rw [Nat.mul_comm, Nat.mul_add_div (Nat.pow_pos (by omega)), Nat.div_eq_of_lt h1]; rfl
        have a2 : (d.toNat * 256 ^ m.length + valL m) / 256 ^ m.length = d.toNat := by
          rw [Nat.mul_comm, Nat.mul_add_div (Nat.pow_pos (by omega)), Nat.div_eq_of_lt h2]; rfl
        rw [← a1, ← a2, e]
      have hc : c = d := UInt8.toNat_inj.1 hcd
      subst hc
      rw [ih m h (by omega)]

theorem keyL_valL (l : List UInt8) (h : l.length = 8) : keyL (valL l) = l := by
  have := valL_lt l
  rw [h] at this
  refine valL_inj _ _ ?_ (valL_keyL _ (by omega))
  rw [h]; rfl

theorem less_text : ∀ (l m : List UInt8), l.length = m.length → Op.bytesLess l m = decide (valL l < valL m) := by
  intro l
  induction l with
  | nil => intro m h; cases m with
    | nil => rfl
    | cons c m => simp at h
  | cons c l ih => intro m h; cases m with
    | nil => simp at h
    | cons d m =>
      simp at h
      show (decide (c < d) || (c == d && Op.bytesLess l m)) = _
      rw [ih m h, valL_cons, valL_cons, h]
      have h1 := valL_lt l
      have h2 := valL_lt m
      rw [h] at h1
      rw [Bool.eq_iff_iff]
      simp only [Bool.or_eq_true, Bool.and_eq_true, decide_eq_true_eq, beq_iff_eq, UInt8.lt_iff_toNat_lt]
      rcases Nat.lt_trichotomy c.toNat d.toNat with a | a | a
      · have : c.toNat * 256 ^ m.length + 256 ^ m.length ≤ d.toNat * 256 ^ m.length := by
          rw [← Nat.succ_mul]; exact Nat.mul_le_mul_right _ a
        constructor
        · intro _; omega
        · intro _; exact .inl a
      · have e : c = d := UInt8.toNat_inj.1 a
        subst e
        constructor
        · rintro (h | ⟨_, h⟩)
          · omega
          · omega
        · intro h; exact .inr ⟨rfl, by omega⟩
      · have : d.toNat * 256 ^ m.length + 256 ^ m.length ≤ c.toNat * 256 ^ m.length := by
          rw [← Nat.succ_mul]; exact Nat.mul_le_mul_right _ a
        constructor
        · rintro (h | ⟨h, _⟩)
          · omega
          · rw [h] at a; omega
        · intro h; omega

theorem toList_eq (s : ByteArray) : s.toList = s.data.toList := by obtain ⟨⟨l⟩⟩ := s; simp
theorem keyS_list (n : Nat) : (keyS n).toList = keyL n := by rw [toList_eq]; rfl
theorem keyS_size (n : Nat) : (keyS n).size = 8 := rfl

theorem key_less (a b : Nat) (ha : a < 18446744073709551616) (hb : b < 18446744073709551616) : Op.bytesLess (keyS a).toList (keyS b).toList = decide (a < b) := by
  rw [keyS_list, keyS_list, less_text (keyL a) (keyL b) rfl, valL_keyL a ha, valL_keyL b hb]
theorem key_same (a b : Nat) (ha : a < 18446744073709551616) (hb : b < 18446744073709551616) : ((keyS a).toList == (keyS b).toList) = decide (a = b) := by
  rw [keyS_list, keyS_list, Bool.eq_iff_iff, beq_iff_eq, decide_eq_true_eq]
  constructor
  · intro h; rw [← valL_keyL a ha, ← valL_keyL b hb, h]
  · intro h; rw [h]
theorem key_text (a : Nat) (s : ByteArray) (ha : a < 18446744073709551616) (hs : s.size = 8) : ((keyS a).toList == s.toList) = decide (a = valL s.data.toList) := by
  rw [keyS_list, toList_eq, Bool.eq_iff_iff, beq_iff_eq, decide_eq_true_eq]
  constructor
  · intro h; rw [← valL_keyL a ha, h]
  · intro h; rw [h]; exact keyL_valL _ (by simpa using hs)

theorem or_step (t : Nat) (c : UInt8) (ht : t < 72057594037927936) : bits .or .u64 (IntKind.u64.wrap ((t : Int) * 256)) (IntKind.u64.wrap (c.toNat : Int)) = ((t * 256 + c.toNat : Nat) : Int) := by
  have hc : c.toNat < 256 := c.toNat_lt
  have e1 : IntKind.u64.wrap ((t : Int) * 256) = ((t * 256 : Nat) : Int) := by rw [IntKind.wrap_u64]; omega
  have e2 : IntKind.u64.wrap (c.toNat : Int) = ((c.toNat : Nat) : Int) := by rw [IntKind.wrap_u64]; omega
  rw [e1, e2, u64_or_nat _ _ (by omega) (by omega), nat_join 8 _ _ (by omega) (by omega)]

end Go.Proofs.Ytcjbbggpnhpbaaa
