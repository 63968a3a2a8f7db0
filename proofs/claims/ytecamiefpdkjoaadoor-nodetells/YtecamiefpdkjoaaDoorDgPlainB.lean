/-
  Digits; a number's bytes; what stands behind a text; the digest of a text. Plain mathematics.
-/
import Derived.Test.YtecamiefpdkjoaaDoorDgPlain
namespace Go.Proofs.YtecamiefpdkjoaaDoor.Dg
set_option maxRecDepth 20000

/-- A digit; a text's digits. -/
def dig (n : Nat) : UInt8 := UInt8.ofNat (if n < 10 then 48 + n else 87 + n)
def hexL : List UInt8 → List UInt8
  | [] => []
  | c :: l => dig (c.toNat / 16) :: dig (c.toNat % 16) :: hexL l
theorem hexL_append (l m : List UInt8) : hexL (l ++ m) = hexL l ++ hexL m := by
  induction l with
  | nil => rfl
  | cons c l ih => show _ :: _ :: hexL (l ++ m) = _ :: _ :: (hexL l ++ hexL m); rw [ih]
theorem hexL_step (l : List UInt8) (k : Nat) (c : UInt8) (h : l[k]? = some c) : hexL (l.take (k + 1)) = hexL (l.take k) ++ [dig (c.toNat / 16), dig (c.toNat % 16)] := by
  rw [List.take_add_one, h, hexL_append]; rfl
theorem hexL_length (l : List UInt8) : (hexL l).length = 2 * l.length := by
  induction l with
  | nil => rfl
  | cons c l ih => show (hexL l).length + 1 + 1 = 2 * (l.length + 1); omega
theorem hexL_even (l : List UInt8) : ∀ (k : Nat) (c : UInt8), l[k]? = some c → (hexL l)[2 * k]? = some (dig (c.toNat / 16)) ∧ (hexL l)[2 * k + 1]? = some (dig (c.toNat % 16)) := by
  induction l with
  | nil => intro k c h; simp at h
  | cons x l ih =>
    intro k c h
    cases k with
    | zero => simp only [List.getElem?_cons_zero, Option.some.injEq] at h; subst h; exact ⟨rfl, rfl⟩
    | succ k =>
      rw [List.getElem?_cons_succ] at h
      rw [show 2 * (k + 1) = 2 * k + 1 + 1 by omega]
      exact ih k c h

/-- A word's four bytes; the words' bytes. -/
def putL (v : Nat) : List UInt8 := [UInt8.ofNat (v / 16777216 % 256), UInt8.ofNat (v / 65536 % 256), UInt8.ofNat (v / 256 % 256), UInt8.ofNat (v % 256)]
def bytesL : List Nat → List UInt8
  | [] => []
  | v :: l => putL v ++ bytesL l
theorem bytesL_append (l m : List Nat) : bytesL (l ++ m) = bytesL l ++ bytesL m := by
  induction l with
  | nil => rfl
  | cons v l ih => show putL v ++ bytesL (l ++ m) = putL v ++ bytesL l ++ bytesL m; rw [ih, List.append_assoc]
theorem bytesL_step (l : List Nat) (k : Nat) (h : k < l.length) : bytesL (l.take (k + 1)) = bytesL (l.take k) ++ putL (l.getD k 0) := by
  rw [List.take_add_one, List.getElem?_eq_getElem h, bytesL_append]
  show _ ++ (putL _ ++ []) = _
  rw [List.append_nil, List.getD_eq_getElem?_getD, List.getElem?_eq_getElem h]; rfl
theorem bytesL_length (l : List Nat) : (bytesL l).length = 4 * l.length := by
  induction l with
  | nil => rfl
  | cons v l ih => show (putL v ++ bytesL l).length = _; rw [List.length_append, ih]; show 4 + _ = 4 * (l.length + 1); omega

/-- A number's eight bytes, the highest first. -/
def be8 (v : Nat) : List UInt8 := [UInt8.ofNat (v / 72057594037927936 % 256), UInt8.ofNat (v / 281474976710656 % 256), UInt8.ofNat (v / 1099511627776 % 256), UInt8.ofNat (v / 4294967296 % 256), UInt8.ofNat (v / 16777216 % 256), UInt8.ofNat (v / 65536 % 256), UInt8.ofNat (v / 256 % 256), UInt8.ofNat (v % 256)]
/-- How much stands behind a text of n bytes; what. -/
def padS (n : Nat) : Nat := if 64 - n % 64 ≤ 8 then 64 - n % 64 + 64 else 64 - n % 64
def padL (n : Nat) : List UInt8 := 128 :: (List.replicate (padS n - 9) 0 ++ be8 (8 * n % 18446744073709551616))
theorem padS_ge (n : Nat) : 9 ≤ padS n := by unfold padS; split <;> omega
theorem padS_le (n : Nat) : padS n ≤ 72 := by unfold padS; split <;> omega
theorem padL_length (n : Nat) : (padL n).length = padS n := by
  have := padS_ge n
  show (List.replicate (padS n - 9) (0 : UInt8) ++ be8 _).length + 1 = _
  rw [List.length_append, List.length_replicate]
  show padS n - 9 + 8 + 1 = _
  omega
theorem padS_mod (n : Nat) : (n + padS n) % 64 = 0 := by unfold padS; split <;> omega

/-- A text's blocks, one by one, from the i-th byte on. -/
def nats (l : List UInt8) : List Nat := l.map UInt8.toNat
def stepsK (k : List Nat) (h : W8) (l : List UInt8) : Nat → W8
  | 0 => h
  | n + 1 => blockK k (stepsK k h l n) (nats ((l.drop (64 * n)).take 64))
theorem stepsK_left (k : List Nat) (h : W8) (l m : List UInt8) (n : Nat) (hn : 64 * n ≤ l.length) : stepsK k h (l ++ m) n = stepsK k h l n := by
  induction n with
  | zero => rfl
  | succ n ih =>
    unfold stepsK
    rw [ih (by omega), List.drop_append_of_le_length (by omega), List.take_append_of_le_length (by rw [List.length_drop]; omega)]
theorem stepsK_add (k : List Nat) (h : W8) (l m : List UInt8) (p n : Nat) (hp : l.length = 64 * p) : stepsK k h (l ++ m) (p + n) = stepsK k (stepsK k h l p) m n := by
  induction n with
  | zero => exact stepsK_left k h l m p (by omega)
  | succ n ih =>
    show blockK k (stepsK k h (l ++ m) (p + n)) (nats (((l ++ m).drop (64 * (p + n))).take 64)) = blockK k (stepsK k (stepsK k h l p) m n) (nats ((m.drop (64 * n)).take 64))
    rw [ih, List.drop_append, show (l.drop (64 * (p + n))) = [] from List.drop_of_length_le (by omega), List.nil_append, hp, show 64 * (p + n) - 64 * p = 64 * n by omega]
def ofK (k : List Nat) (h : W8) (s : List UInt8) : List UInt8 := bytesL (stepsK k h (s ++ padL s.length) ((s.length + padS s.length) / 64)).list
def ofL (s : List UInt8) : List UInt8 := ofK roundsN firstN s
theorem ofL_length (s : List UInt8) : (ofL s).length = 32 := by unfold ofL ofK; rw [bytesL_length]; rfl

end Go.Proofs.YtecamiefpdkjoaaDoor.Dg
