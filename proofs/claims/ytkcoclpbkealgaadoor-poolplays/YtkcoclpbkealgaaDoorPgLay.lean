/-
  A page's frame, said of lists of bytes: its fields and its bytes, each out of the other; the page's sum; what turning up to four bytes in a row does. Plain mathematics: nothing of the program's dump is read here.
-/
import Derived.Test.YtkcoclpbkealgaaDoorPgPlain
namespace Go.Proofs.YtkcoclpbkealgaaDoor
set_option maxRecDepth 20000

/-- A frame: kind, number, generation, size, payload with its noughts. -/
structure Fr where
  k : Nat
  n : Nat
  g : Nat
  s : Nat
  p : List UInt8
structure Fr.Ok (f : Fr) : Prop where
  k : f.k < 256
  n : f.n < 65536
  g : f.g < 4294967296
  s : f.s < 65536
  p : f.p.length = 243
def be2 (v : Nat) : List UInt8 := [UInt8.ofNat (v / 256 % 256), UInt8.ofNat (v % 256)]
def Fr.head (f : Fr) : List UInt8 := UInt8.ofNat (f.k % 256) :: (be2 f.n ++ (putL f.g ++ be2 f.s))
def Fr.text (f : Fr) : List UInt8 := f.head ++ f.p
theorem Fr.head_length (f : Fr) : f.head.length = 9 := rfl
theorem Fr.text_length {f : Fr} (h : f.p.length = 243) : f.text.length = 252 := by unfold Fr.text; rw [List.length_append, Fr.head_length, h]
/-- The frame that bytes begin with. -/
def frIn (l : List UInt8) : Fr := ⟨(l.getD 0 0).toNat, beN ((l.drop 1).take 2), beN ((l.drop 3).take 4), beN ((l.drop 7).take 2), (l.drop 9).take 243⟩
/-- The frame of fields. -/
def frOf (k n g : Nat) (l : List UInt8) : Fr := ⟨k, n, g, l.length, l ++ List.replicate (243 - l.length) 0⟩
theorem frOf_ok {k n g : Nat} {l : List UInt8} (hk : k < 256) (hn : n < 65536) (hg : g < 4294967296) (hl : l.length ≤ 243) : (frOf k n g l).Ok :=
  ⟨hk, hn, hg, by show l.length < 65536; omega, by show (l ++ List.replicate (243 - l.length) 0).length = 243; rw [List.length_append, List.length_replicate]; omega⟩

theorem be2_lt (a b : UInt8) : beN [a, b] < 65536 := by
  show (0 * 256 + a.toNat) * 256 + b.toNat < 65536
  have ha := a.toNat_lt
  have hb := b.toNat_lt
  omega
theorem be4_lt (a b c d : UInt8) : beN [a, b, c, d] < 4294967296 := by
  show (((0 * 256 + a.toNat) * 256 + b.toNat) * 256 + c.toNat) * 256 + d.toNat < 4294967296
  have ha := a.toNat_lt
  have hb := b.toNat_lt
  have hc := c.toNat_lt
  have hd := d.toNat_lt
  omega
theorem be2_beN (a b : UInt8) : be2 (beN [a, b]) = [a, b] := by
  show be2 ((0 * 256 + a.toNat) * 256 + b.toNat) = [a, b]
  unfold be2
  have ha := a.toNat_lt
  have hb := b.toNat_lt
  congr 1
  · refine UInt8.toNat_inj.1 ?_; rw [byte_of _ (by omega)]; omega
  congr 1
  · refine UInt8.toNat_inj.1 ?_; rw [byte_of _ (by omega)]; omega
theorem beN_be2 (v : Nat) (h : v < 65536) : beN (be2 v) = v := by
  unfold beN be2
  simp only [List.foldl_cons, List.foldl_nil]
  rw [byte_of _ (by omega), byte_of _ (by omega)]
  omega
theorem put4_beN (a b c d : UInt8) : putL (beN [a, b, c, d]) = [a, b, c, d] := put_beN [a, b, c, d] (by simp)
theorem beN_put4 (v : Nat) (h : v < 4294967296) : beN (putL v) = v := by
  have := beN_put v h []
  rw [List.append_nil, List.take_of_length_le (by rw [putL_length]; decide)] at this
  exact this

/-- Nine bytes and what is behind them. -/
theorem nine {l : List UInt8} (h : 9 ≤ l.length) : ∃ a0 a1 a2 a3 a4 a5 a6 a7 a8 t, l = a0 :: a1 :: a2 :: a3 :: a4 :: a5 :: a6 :: a7 :: a8 :: t := by
  match l, h with
  | a0 :: a1 :: a2 :: a3 :: a4 :: a5 :: a6 :: a7 :: a8 :: t, _ => exact ⟨a0, a1, a2, a3, a4, a5, a6, a7, a8, t, rfl⟩
theorem frIn_nine (a0 a1 a2 a3 a4 a5 a6 a7 a8 : UInt8) (t : List UInt8) : frIn (a0 :: a1 :: a2 :: a3 :: a4 :: a5 :: a6 :: a7 :: a8 :: t) = ⟨a0.toNat, beN [a1, a2], beN [a3, a4, a5, a6], beN [a7, a8], t.take 243⟩ := rfl
theorem text_in {l : List UInt8} (h : 252 ≤ l.length) : (frIn l).text = l.take 252 := by
  obtain ⟨a0, a1, a2, a3, a4, a5, a6, a7, a8, t, rfl⟩ := nine (by omega : 9 ≤ l.length)
  rw [frIn_nine]
  unfold Fr.text Fr.head
  simp only
  rw [be2_beN, put4_beN, be2_beN]
  have h0 : UInt8.ofNat (a0.toNat % 256) = a0 := by
    refine UInt8.toNat_inj.1 ?_
    have := a0.toNat_lt
    rw [byte_of _ (by omega)]; omega
  rw [h0]
  rfl
theorem in_ok {l : List UInt8} (h : 252 ≤ l.length) : (frIn l).Ok := by
  obtain ⟨a0, a1, a2, a3, a4, a5, a6, a7, a8, t, rfl⟩ := nine (by omega : 9 ≤ l.length)
  rw [frIn_nine]
  simp only [List.length_cons] at h
  exact ⟨by have := a0.toNat_lt; simpa using this, be2_lt _ _, be4_lt _ _ _ _, be2_lt _ _, by show (t.take 243).length = 243; rw [List.length_take]; omega⟩
theorem in_text {f : Fr} (h : f.Ok) (t : List UInt8) : frIn (f.text ++ t) = f := by
  obtain ⟨k, n, g, s, p⟩ := f
  obtain ⟨hk, hn, hg, hs, hp⟩ := h
  simp only at hk hn hg hs hp
  have e : (Fr.mk k n g s p).text ++ t = UInt8.ofNat (k % 256) :: UInt8.ofNat (n / 256 % 256) :: UInt8.ofNat (n % 256) :: UInt8.ofNat (g / 16777216 % 256) :: UInt8.ofNat (g / 65536 % 256) :: UInt8.ofNat (g / 256 % 256) :: UInt8.ofNat (g % 256) :: UInt8.ofNat (s / 256 % 256) :: UInt8.ofNat (s % 256) :: (p ++ t) := rfl
  rw [e, frIn_nine]
  have h1 : beN [UInt8.ofNat (n / 256 % 256), UInt8.ofNat (n % 256)] = n := beN_be2 n hn
  have h2 : beN [UInt8.ofNat (g / 16777216 % 256), UInt8.ofNat (g / 65536 % 256), UInt8.ofNat (g / 256 % 256), UInt8.ofNat (g % 256)] = g := beN_put4 g hg
  have h3 : beN [UInt8.ofNat (s / 256 % 256), UInt8.ofNat (s % 256)] = s := beN_be2 s hs
  rw [h1, h2, h3, byte_of _ (by omega), Nat.mod_eq_of_lt hk, List.take_append_of_le_length (by omega), List.take_of_length_le (by omega)]

/-- The page's bytes; are bytes right? -/
def pageB (f : Fr) : List UInt8 := f.text ++ putL (sumL 0 f.text)
def Right (l : List UInt8) : Prop := l.length = 256 ∧ l.drop 252 = putL (sumL 0 (l.take 252))
def rightB (l : List UInt8) : Bool := l.length == 256 && l.drop 252 == putL (sumL 0 (l.take 252))
theorem rightB_iff (l : List UInt8) : rightB l = true ↔ Right l := by
  unfold rightB Right
  rw [Bool.and_eq_true, beq_iff_eq, beq_iff_eq]
theorem rightB_false {l : List UInt8} (h : ¬ Right l) : rightB l = false := by
  cases e : rightB l with
  | false => rfl
  | true => exact absurd ((rightB_iff l).1 e) h
theorem pageB_length {f : Fr} (h : f.p.length = 243) : (pageB f).length = 256 := by unfold pageB; rw [List.length_append, Fr.text_length h, putL_length]
theorem right_page {f : Fr} (h : f.p.length = 243) : Right (pageB f) := by
  refine ⟨pageB_length h, ?_⟩
  unfold pageB
  have e := Fr.text_length h
  rw [List.drop_append_of_le_length (by omega), List.drop_eq_nil_of_le (by omega), List.nil_append, List.take_append_of_le_length (by omega), List.take_of_length_le (by omega)]
theorem right_in {l : List UInt8} (h : Right l) : l = pageB (frIn l) := by
  unfold pageB
  rw [text_in (by rw [h.1]; decide), ← h.2, List.take_append_drop]
theorem in_page {f : Fr} (h : f.Ok) : frIn (pageB f) = f := in_text h _

/-- Fields that fit. -/
structure Fits (k a g n : Int) : Prop where
  k1 : 1 ≤ k
  k2 : k ≤ 255
  a1 : 0 ≤ a
  a2 : a ≤ 65535
  g1 : 0 ≤ g
  g2 : g ≤ 2147483647
  n : n ≤ 243
/-- Where they do not: the first that does not. -/
theorem not_fits {k a g n : Int} (h : ¬ Fits k a g n) : k < 1 ∨ (¬ k < 1 ∧ 255 < k) ∨ (¬ k < 1 ∧ ¬ 255 < k ∧ a < 0) ∨ (¬ k < 1 ∧ ¬ 255 < k ∧ ¬ a < 0 ∧ 65535 < a) ∨ (¬ k < 1 ∧ ¬ 255 < k ∧ ¬ a < 0 ∧ ¬ 65535 < a ∧ g < 0) ∨ (¬ k < 1 ∧ ¬ 255 < k ∧ ¬ a < 0 ∧ ¬ 65535 < a ∧ ¬ g < 0 ∧ 2147483647 < g) ∨ (¬ k < 1 ∧ ¬ 255 < k ∧ ¬ a < 0 ∧ ¬ 65535 < a ∧ ¬ g < 0 ∧ ¬ 2147483647 < g ∧ 243 < n) := by
  by_cases h1 : k < 1
  · exact .inl h1
  by_cases h2 : 255 < k
  · exact .inr (.inl ⟨h1, h2⟩)
  by_cases h3 : a < 0
  · exact .inr (.inr (.inl ⟨h1, h2, h3⟩))
  by_cases h4 : 65535 < a
  · exact .inr (.inr (.inr (.inl ⟨h1, h2, h3, h4⟩)))
  by_cases h5 : g < 0
  · exact .inr (.inr (.inr (.inr (.inl ⟨h1, h2, h3, h4, h5⟩))))
  by_cases h6 : 2147483647 < g
  · exact .inr (.inr (.inr (.inr (.inr (.inl ⟨h1, h2, h3, h4, h5, h6⟩)))))
  by_cases h7 : 243 < n
  · exact .inr (.inr (.inr (.inr (.inr (.inr ⟨h1, h2, h3, h4, h5, h6, h7⟩)))))
  exact absurd ⟨by omega, by omega, by omega, by omega, by omega, by omega, by omega⟩ h

/-- The payload that a frame holds. -/
def payOf (f : Fr) : List UInt8 := f.p.take (min f.s 243)
theorem payOf_frOf {k n g : Nat} {l : List UInt8} (h : l.length ≤ 243) : payOf (frOf k n g l) = l := by
  show (l ++ List.replicate (243 - l.length) 0).take (min l.length 243) = l
  rw [show min l.length 243 = l.length by omega, List.take_left]
theorem payOf_le {f : Fr} (h : f.p.length = 243) : (payOf f).length ≤ 243 := by unfold payOf; rw [List.length_take]; omega

/-- Bytes turned, from place k on as y has them. -/
def turnN (l : List UInt8) (k : Nat) (y : List UInt8) : Nat → List UInt8
  | 0 => l
  | i + 1 => (turnN l k y i).set (k + i) ((turnN l k y i).getD (k + i) 0 ^^^ y.getD i 0)
theorem turnN_length (l : List UInt8) (k : Nat) (y : List UInt8) : ∀ i, (turnN l k y i).length = l.length
  | 0 => rfl
  | i + 1 => by show ((turnN l k y i).set _ _).length = _; rw [List.length_set, turnN_length l k y i]
theorem turnN_append (l m : List UInt8) (k : Nat) (y : List UInt8) : ∀ i, k + i ≤ l.length → turnN (l ++ m) k y i = turnN l k y i ++ m
  | 0, _ => rfl
  | i + 1, h => by
    have hl := turnN_length l k y i
    show (turnN (l ++ m) k y i).set _ _ = (turnN l k y i).set _ _ ++ m
    rw [turnN_append l m k y i (by omega), List.set_append_left _ _ (by omega), List.getD_eq_getElem?_getD, List.getElem?_append_left (by omega), ← List.getD_eq_getElem?_getD]
theorem num_snoc (l : List UInt8) (c : UInt8) : num (l ++ [c]) = num l ^^^ (c.toNat <<< (8 * l.length)) := by
  induction l with
  | nil => show c.toNat ^^^ ((0 : Nat) <<< 8) = 0 ^^^ (c.toNat <<< 0); simp
  | cons x l ih =>
    show x.toNat ^^^ (num (l ++ [c]) <<< 8) = (x.toNat ^^^ (num l <<< 8)) ^^^ (c.toNat <<< (8 * (l.length + 1)))
    rw [ih, Nat.shiftLeft_xor_distrib, show 8 * (l.length + 1) = 8 * l.length + 8 by omega, Nat.shiftLeft_add, Nat.xor_assoc]
theorem turnN_num (l : List UInt8) (k : Nat) (y : List UInt8) : ∀ i, k + i ≤ l.length → i ≤ y.length → num (turnN l k y i) = num l ^^^ (num (y.take i) <<< (8 * k))
  | 0, _, _ => by show num l = num l ^^^ ((0 : Nat) <<< (8 * k)); simp
  | i + 1, h, hy => by
    have hl := turnN_length l k y i
    have h1 : (turnN l k y i)[k + i]? = some ((turnN l k y i).getD (k + i) 0) := by
      rw [List.getD_eq_getElem?_getD, List.getElem?_eq_getElem (by omega)]; rfl
    have h2 : y[i]? = some (y.getD i 0) := by rw [List.getD_eq_getElem?_getD, List.getElem?_eq_getElem (by omega)]; rfl
    show num ((turnN l k y i).set _ _) = _
    rw [num_set _ _ _ _ h1, turnN_num l k y i (by omega) (by omega), List.take_add_one, h2]
    show _ = num l ^^^ (num (y.take i ++ [y.getD i 0]) <<< (8 * k))
    rw [num_snoc, List.length_take, show min i y.length = i by omega, Nat.shiftLeft_xor_distrib, ← Nat.shiftLeft_add, Nat.xor_assoc, show 8 * i + 8 * k = 8 * (k + i) by omega]
theorem num_lt : ∀ l : List UInt8, num l < 2 ^ (8 * l.length)
  | [] => by show (0 : Nat) < 2 ^ 0; decide
  | c :: l => by
    show c.toNat ^^^ (num l <<< 8) < 2 ^ (8 * (l.length + 1))
    have h1 := num_lt l
    have hc := c.toNat_lt
    refine Nat.xor_lt_two_pow ?_ ?_
    · exact Nat.lt_of_lt_of_le hc (Nat.pow_le_pow_right (by omega) (by omega))
    · rw [Nat.shiftLeft_eq, show 8 * (l.length + 1) = 8 * l.length + 8 by omega, Nat.pow_add]
      exact Nat.mul_lt_mul_of_pos_right h1 (by decide)
theorem num_none : ∀ {l : List UInt8}, num l = 0 → ∀ c ∈ l, c = 0
  | [], _, _, h => by simp at h
  | c :: l, e, d, hd => by
    have e1 : c.toNat ^^^ (num l <<< 8) = 0 := e
    have e2 : c.toNat = num l <<< 8 := by
      have h3 := congrArg (· ^^^ (num l <<< 8)) e1
      simpa only [Nat.xor_assoc, Nat.xor_self, Nat.xor_zero, Nat.zero_xor] using h3
    rw [Nat.shiftLeft_eq] at e2
    have hc := c.toNat_lt
    have e3 : num l = 0 := by omega
    rcases List.mem_cons.1 hd with rfl | h
    · refine UInt8.toNat_inj.1 ?_
      rw [e2, e3]; rfl
    · exact num_none e3 d h
theorem putL_inj {a b : Nat} (ha : a < 4294967296) (hb : b < 4294967296) (h : putL a = putL b) : a = b := by rw [← beN_put4 a ha, ← beN_put4 b hb, h]
/-- A right page of which bytes ahead of the sum are turned is right just if none is. -/
theorem turned_right {l : List UInt8} (h : Right l) {k : Nat} (hk : k + 4 ≤ 252) {y : List UInt8} (hy : y.length = 4) : Right (turnN l k y 4) ↔ num y = 0 := by
  obtain ⟨t, s, rfl, ht⟩ : ∃ t s, l = t ++ s ∧ t.length = 252 := ⟨l.take 252, l.drop 252, (List.take_append_drop _ _).symm, by rw [List.length_take, h.1]; decide⟩
  have e1 : (t ++ s).drop 252 = s := by rw [← ht, List.drop_left]
  have e2 : (t ++ s).take 252 = t := by rw [← ht, List.take_left]
  have hs : s = putL (sumL 0 t) := by have := h.2; rw [e1, e2] at this; exact this
  have htl := turnN_length t k y 4
  rw [turnN_append t s k y 4 (by omega)]
  have hnum := turnN_num t k y 4 (by omega) (by omega)
  rw [List.take_of_length_le (l := y) (by omega)] at hnum
  have hM : num y < 4294967296 := by have := num_lt y; rw [hy] at this; exact this
  have hT := sum_turned 0 (8 * k) (num y) t (turnN t k y 4) htl (by omega) hM hnum
  generalize turnN t k y 4 = t' at htl hT
  have e3 : (t' ++ s).drop 252 = s := by rw [← ht, ← htl, List.drop_left]
  have e4 : (t' ++ s).take 252 = t' := by rw [← ht, ← htl, List.take_left]
  unfold Right
  rw [e3, e4, hs, List.length_append, putL_length, htl, ht]
  constructor
  · rintro ⟨_, h1⟩
    exact hT.1 (putL_inj (sumL_lt (by decide) _) (sumL_lt (by decide) _) h1.symm)
  · intro h1
    exact ⟨rfl, by rw [hT.2 h1]⟩
theorem turnN_none {l : List UInt8} {k : Nat} {y : List UInt8} (h : ∀ c ∈ y, c = 0) : ∀ i, k + i ≤ l.length → i ≤ y.length → turnN l k y i = l
  | 0, _, _ => rfl
  | i + 1, h1, h2 => by
    show (turnN l k y i).set _ _ = _
    have h3 : y.getD i 0 = 0 := by
      rw [List.getD_eq_getElem?_getD, List.getElem?_eq_getElem (by omega)]
      exact h _ (List.getElem_mem _)
    rw [turnN_none h i (by omega) (by omega), h3]
    apply List.ext_getElem?
    intro j
    rw [List.getElem?_set]
    split
    · rename_i e
      subst e
      rw [if_pos (by omega), List.getD_eq_getElem?_getD, List.getElem?_eq_getElem (by omega)]
      simp
    · rfl

end Go.Proofs.YtkcoclpbkealgaaDoor
