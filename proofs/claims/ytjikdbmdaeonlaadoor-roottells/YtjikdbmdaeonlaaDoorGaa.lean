/-
  Halves of bytes, said of lists of bytes: halves laid out, laid together, packed and unpacked, what two lists have in common, and their order. Plain mathematics: nothing of the program's dump is read here. SHA-256 in plain numbers: a word's operations, the schedule, a round, a block's step, what stands behind a text, the digest, digits. Plain mathematics: nothing of the program's dump is read here. Digits; a number's bytes; what stands behind a text; the digest of a text. Plain mathematics. The document's own constants: a product's two halves, a root bit by bit, the primes so far. Plain mathematics.
-/
import Derived.WalkKit
namespace Go.Proofs.YtjikdbmdaeonlaaDoor
set_option maxRecDepth 20000

/-- A text's bytes; a text of bytes. -/
def L (s : ByteArray) : List UInt8 := s.data.toList
def bs (l : List UInt8) : ByteArray := ⟨l.toArray⟩
theorem L_bs (l : List UInt8) : L (bs l) = l := rfl
theorem bs_L (s : ByteArray) : bs (L s) = s := by obtain ⟨⟨l⟩⟩ := s; rfl
theorem L_size (s : ByteArray) : (L s).length = s.size := by obtain ⟨⟨l⟩⟩ := s; rfl
theorem bs_size (l : List UInt8) : (bs l).size = l.length := rfl
theorem L_get (s : ByteArray) (k : Nat) (h : k < s.size) : (L s)[k]? = some s[k] := by
  rw [List.getElem?_eq_getElem (by rw [L_size]; exact h)]; rfl
theorem toList_L (s : ByteArray) : s.toList = L s := by obtain ⟨⟨l⟩⟩ := s; simp [L]
theorem L_append (s t : ByteArray) : L (s ++ t) = L s ++ L t := by
  show (s ++ t).data.toList = _
  rw [ByteArray.data_append, Array.toList_append]; rfl
theorem L_extract (s : ByteArray) (i j : Nat) : L (s.extract i j) = ((L s).take j).drop i := by
  show (s.extract i j).data.toList = _
  rw [ByteArray.data_extract, Array.toList_extract, List.extract_eq_take_drop, List.drop_take]; rfl
theorem eq_of_L {s t : ByteArray} (h : L s = L t) : s = t := by rw [← bs_L s, ← bs_L t, h]

theorem byte_of (m : Nat) (h : m < 256) : (UInt8.ofNat m).toNat = m := by rw [UInt8.toNat_ofNat']; omega

/-- A byte's halves; two halves in a byte. -/
def hi (c : UInt8) : UInt8 := UInt8.ofNat (c.toNat / 16)
def lo (c : UInt8) : UInt8 := UInt8.ofNat (c.toNat % 16)
def two (a b : UInt8) : UInt8 := UInt8.ofNat (a.toNat % 16 * 16 + b.toNat % 16)
theorem hi_nat (c : UInt8) : (hi c).toNat = c.toNat / 16 := byte_of _ (by have := c.toNat_lt; omega)
theorem lo_nat (c : UInt8) : (lo c).toNat = c.toNat % 16 := byte_of _ (by omega)
theorem two_nat (a b : UInt8) : (two a b).toNat = a.toNat % 16 * 16 + b.toNat % 16 := byte_of _ (by omega)
theorem two_hi_lo (c : UInt8) : two (hi c) (lo c) = c := by
  refine UInt8.toNat_inj.1 ?_
  rw [two_nat, hi_nat, lo_nat]; have := c.toNat_lt; omega
theorem hi_two (a b : UInt8) (h : a.toNat < 16) : hi (two a b) = a := by
  refine UInt8.toNat_inj.1 ?_
  rw [hi_nat, two_nat]; omega
theorem lo_two (a b : UInt8) (h : b.toNat < 16) : lo (two a b) = b := by
  refine UInt8.toNat_inj.1 ?_
  rw [lo_nat, two_nat]; omega
theorem two_zero (a : UInt8) : (two a 0).toNat = a.toNat % 16 * 16 := by rw [two_nat]; rfl

/-- The halves of bytes. -/
def ofL : List UInt8 → List UInt8
  | [] => []
  | c :: l => hi c :: lo c :: ofL l
theorem ofL_append (l m : List UInt8) : ofL (l ++ m) = ofL l ++ ofL m := by
  induction l with
  | nil => rfl
  | cons c l ih => show hi c :: lo c :: ofL (l ++ m) = _; rw [ih]; rfl
theorem ofL_length (l : List UInt8) : (ofL l).length = 2 * l.length := by
  induction l with
  | nil => rfl
  | cons c l ih => show (ofL l).length + 1 + 1 = 2 * (l.length + 1); omega
theorem ofL_step (l : List UInt8) (k : Nat) (c : UInt8) (h : l[k]? = some c) : ofL (l.take (k + 1)) = ofL (l.take k) ++ [hi c, lo c] := by
  rw [List.take_add_one, h, ofL_append]; rfl
theorem ofL_get (l : List UInt8) : ∀ (k : Nat) (c : UInt8), l[k]? = some c → (ofL l)[2 * k]? = some (hi c) ∧ (ofL l)[2 * k + 1]? = some (lo c) := by
  induction l with
  | nil => intro k c h; simp at h
  | cons d l ih =>
    intro k c h
    cases k with
    | zero =>
      simp only [List.getElem?_cons_zero, Option.some.injEq] at h
      subst h
      exact ⟨rfl, rfl⟩
    | succ k =>
      rw [List.getElem?_cons_succ] at h
      have := ih k c h
      rw [show 2 * (k + 1) = 2 * k + 1 + 1 by omega, show 2 * k + 1 + 1 + 1 = (2 * k + 1) + 1 + 1 by omega]
      exact ⟨this.1, this.2⟩

/-- Halves laid together, two a byte; behind an odd number of them the last lower half is 0. -/
def joinL : List UInt8 → List UInt8
  | [] => []
  | [a] => [two a 0]
  | a :: b :: l => two a b :: joinL l
theorem pairs {P : List UInt8 → Prop} (h0 : P []) (h1 : ∀ a, P [a]) (h2 : ∀ a b l, P l → P (a :: b :: l)) (l : List UInt8) : P l := by
  have : ∀ n, ∀ l : List UInt8, l.length ≤ n → P l := by
    intro n
    induction n with
    | zero => intro l h; cases l with
      | nil => exact h0
      | cons a l => simp at h
    | succ n ih =>
      intro l h
      match l, h with
      | [], _ => exact h0
      | [a], _ => exact h1 a
      | a :: b :: l, h => exact h2 a b l (ih l (by simp at h; omega))
  exact this l.length l (Nat.le_refl _)
theorem joinL_length (l : List UInt8) : (joinL l).length = (l.length + 1) / 2 := by
  induction l using pairs with
  | h0 => rfl
  | h1 a => simp [joinL]
  | h2 a b l ih => show (joinL l).length + 1 = (l.length + 1 + 1 + 1) / 2; omega
theorem join_of (l : List UInt8) : joinL (ofL l) = l := by
  induction l with
  | nil => rfl
  | cons c l ih => show two (hi c) (lo c) :: joinL (ofL l) = _; rw [two_hi_lo, ih]

/-- Joined so far: of the first k halves, in J bytes. -/
def padL (l : List UInt8) (k J : Nat) : List UInt8 := (List.range J).map fun j => two ((l.take k).getD (2 * j) 0) ((l.take k).getD (2 * j + 1) 0)
theorem padL_length (l : List UInt8) (k J : Nat) : (padL l k J).length = J := by unfold padL; simp
theorem padL_get (l : List UInt8) (k J j : Nat) (h : j < J) : (padL l k J)[j]? = some (two ((l.take k).getD (2 * j) 0) ((l.take k).getD (2 * j + 1) 0)) := by
  unfold padL; simp [h]
theorem joinL_get (l : List UInt8) : ∀ j, j < (l.length + 1) / 2 → (joinL l)[j]? = some (two (l.getD (2 * j) 0) (l.getD (2 * j + 1) 0)) := by
  induction l using pairs with
  | h0 => intro j h; simp at h
  | h1 a =>
    intro j h
    simp only [List.length_cons, List.length_nil] at h
    obtain rfl : j = 0 := by omega
    rfl
  | h2 a b l ih =>
    intro j h
    cases j with
    | zero => rfl
    | succ j =>
      simp only [List.length_cons] at h
      rw [show 2 * (j + 1) = 2 * j + 1 + 1 by omega, show 2 * j + 1 + 1 + 1 = (2 * j + 1) + 1 + 1 by omega]
      show (joinL l)[j]? = _
      rw [ih j (by omega)]
      rfl
theorem padL_full (l : List UInt8) : padL l l.length ((l.length + 1) / 2) = joinL l := by
  apply List.ext_getElem?
  intro j
  by_cases h : j < (l.length + 1) / 2
  · rw [padL_get _ _ _ _ h, joinL_get l j h, List.take_length]
  · rw [List.getElem?_eq_none (by rw [padL_length]; omega), List.getElem?_eq_none (by rw [joinL_length]; omega)]
theorem padL_none (l : List UInt8) (J : Nat) : padL l 0 J = List.replicate J 0 := by
  unfold padL
  have : (fun j => two ((l.take 0).getD (2 * j) 0) ((l.take 0).getD (2 * j + 1) 0)) = fun _ => (0 : UInt8) := by
    funext j; rfl
  rw [this, List.map_const', List.length_range]
theorem take_getD (l : List UInt8) (k i : Nat) : (l.take k).getD i 0 = if i < k then l.getD i 0 else 0 := by
  rw [List.getD_eq_getElem?_getD, List.getD_eq_getElem?_getD, List.getElem?_take]
  split <;> rfl
theorem getD_of {l : List UInt8} {k : Nat} {c : UInt8} (h : l[k]? = some c) : l.getD k 0 = c := by
  rw [List.getD_eq_getElem?_getD, h]; rfl
/-- A first half comes to its byte. -/
theorem padL_even (l : List UInt8) (k J : Nat) (c : UInt8) (hk : k % 2 = 0) (h : l[k]? = some c) (hJ : k / 2 < J) : (padL l k J).set (k / 2) (two c 0) = padL l (k + 1) J := by
  apply List.ext_getElem?
  intro j
  rw [List.getElem?_set, padL_length]
  by_cases hj : j < J
  · rw [padL_get _ _ _ _ hj, padL_get _ _ _ _ hj]
    simp only [take_getD]
    by_cases e : k / 2 = j
    · subst e
      rw [if_pos rfl, if_pos hJ, show 2 * (k / 2) = k by omega, if_pos (by omega), if_neg (by omega), getD_of h]
    · rw [if_neg e]
      congr 2
      · by_cases h1 : 2 * j < k
        · rw [if_pos h1, if_pos (by omega)]
        · rw [if_neg h1, if_neg (by omega)]
      · by_cases h1 : 2 * j + 1 < k
        · rw [if_pos h1, if_pos (by omega)]
        · rw [if_neg h1, if_neg (by omega)]
  · rw [if_neg (by omega), List.getElem?_eq_none (by rw [padL_length]; omega), List.getElem?_eq_none (by rw [padL_length]; omega)]
/-- A second half comes to its byte. -/
theorem padL_odd (l : List UInt8) (k J : Nat) (b c : UInt8) (hk : k % 2 = 1) (hb : l[k - 1]? = some b) (h : l[k]? = some c) (hJ : k / 2 < J) : (padL l k J).set (k / 2) (two b c) = padL l (k + 1) J := by
  apply List.ext_getElem?
  intro j
  rw [List.getElem?_set, padL_length]
  by_cases hj : j < J
  · rw [padL_get _ _ _ _ hj, padL_get _ _ _ _ hj]
    simp only [take_getD]
    by_cases e : k / 2 = j
    · subst e
      rw [if_pos rfl, if_pos hJ, show 2 * (k / 2) = k - 1 by omega, if_pos (by omega), show k - 1 + 1 = k by omega, if_pos (by omega), getD_of h, getD_of hb]
    · rw [if_neg e]
      congr 2
      · by_cases h1 : 2 * j < k
        · rw [if_pos h1, if_pos (by omega)]
        · rw [if_neg h1, if_neg (by omega)]
      · by_cases h1 : 2 * j + 1 < k
        · rw [if_pos h1, if_pos (by omega)]
        · rw [if_neg h1, if_neg (by omega)]
  · rw [if_neg (by omega), List.getElem?_eq_none (by rw [padL_length]; omega), List.getElem?_eq_none (by rw [padL_length]; omega)]
theorem padL_now (l : List UInt8) (k J : Nat) (b : UInt8) (hk : k % 2 = 1) (hb : l[k - 1]? = some b) (hJ : k / 2 < J) : (padL l k J)[k / 2]? = some (two b 0) := by
  rw [padL_get _ _ _ _ hJ]
  simp only [take_getD]
  rw [show 2 * (k / 2) = k - 1 by omega, if_pos (by omega), if_neg (by omega), getD_of hb]

/-- Halves alone? -/
def halvesB (l : List UInt8) : Bool := l.all fun c => decide (c.toNat < 16)
theorem halvesB_of (l : List UInt8) : halvesB (ofL l) = true := by
  induction l with
  | nil => rfl
  | cons c l ih =>
    show (decide ((hi c).toNat < 16) && (decide ((lo c).toNat < 16) && halvesB (ofL l))) = true
    rw [ih, hi_nat, lo_nat]
    have := c.toNat_lt
    rw [decide_eq_true (show c.toNat / 16 < 16 by omega), decide_eq_true (show c.toNat % 16 < 16 by omega)]; rfl
theorem halvesB_get {l : List UInt8} (h : halvesB l = true) {k : Nat} {c : UInt8} (hc : l[k]? = some c) : c.toNat < 16 := by
  unfold halvesB at h
  rw [List.all_eq_true] at h
  exact of_decide_eq_true (h c (List.mem_of_getElem? hc))
theorem halvesB_bad {l : List UInt8} {k : Nat} {c : UInt8} (hc : l[k]? = some c) (h : ¬ c.toNat < 16) : halvesB l = false := by
  rw [Bool.eq_false_iff]
  intro h1
  exact h (halvesB_get h1 hc)
theorem halvesB_good {l : List UInt8} (h : ∀ (k : Nat) c, l[k]? = some c → c.toNat < 16) : halvesB l = true := by
  unfold halvesB
  rw [List.all_eq_true]
  intro c hc
  obtain ⟨k, hk⟩ := List.getElem?_of_mem hc
  exact decide_eq_true (h k c hk)
theorem halvesB_cons2 {a b : UInt8} {l : List UInt8} (h : halvesB (a :: b :: l) = true) : a.toNat < 16 ∧ b.toNat < 16 ∧ halvesB l = true := by
  have : (decide (a.toNat < 16) && (decide (b.toNat < 16) && halvesB l)) = true := h
  simp only [Bool.and_eq_true, decide_eq_true_eq] at this
  exact this
/-- The halves of joined halves are they, and a 0 behind an odd number of them. -/
theorem of_join (l : List UInt8) (h : halvesB l = true) : ofL (joinL l) = if l.length % 2 = 1 then l ++ [0] else l := by
  induction l using pairs with
  | h0 => rfl
  | h1 a =>
    have ha : a.toNat < 16 := halvesB_get h (k := 0) rfl
    show [hi (two a 0), lo (two a 0)] = _
    rw [hi_two a 0 ha, lo_two a 0 (by decide)]; rfl
  | h2 a b l ih =>
    obtain ⟨ha, hb, hl⟩ := halvesB_cons2 h
    show hi (two a b) :: lo (two a b) :: ofL (joinL l) = _
    rw [hi_two a b ha, lo_two a b hb, ih hl]
    simp only [List.length_cons]
    by_cases e : l.length % 2 = 1
    · rw [if_pos e, if_pos (by omega)]; rfl
    · rw [if_neg e, if_neg (by omega)]

/-- With how many bytes alike do both begin? -/
def comN : List UInt8 → List UInt8 → Nat
  | a :: l, b :: m => if a = b then comN l m + 1 else 0
  | _, _ => 0
theorem comN_stop : ∀ (l m : List UInt8) (k : Nat), l.take k = m.take k → k ≤ l.length → k ≤ m.length → (k = l.length ∨ k = m.length ∨ ∃ a b, l[k]? = some a ∧ m[k]? = some b ∧ a ≠ b) → comN l m = k := by
  intro l
  induction l with
  | nil => intro m k _ h1 _ _; simp at h1; subst h1; cases m <;> rfl
  | cons a l ih =>
    intro m k ht h1 h2 h
    cases m with
    | nil => simp at h2; subst h2; rfl
    | cons b m =>
      cases k with
      | zero =>
        rcases h with h | h | ⟨x, y, hx, hy, hne⟩
        · simp at h
        · simp at h
        · simp at hx hy
          subst hx; subst hy
          show (if a = b then _ else 0) = 0
          rw [if_neg hne]
      | succ k =>
        simp only [List.take_succ_cons, List.cons.injEq] at ht
        show (if a = b then _ else 0) = k + 1
        rw [if_pos ht.1]
        simp only [List.length_cons] at h1 h2 h
        rw [ih m k ht.2 (by omega) (by omega) ?_]
        rcases h with h | h | ⟨x, y, hx, hy, hne⟩
        · exact .inl (by omega)
        · exact .inr (.inl (by omega))
        · exact .inr (.inr ⟨x, y, hx, hy, hne⟩)

end Go.Proofs.YtjikdbmdaeonlaaDoor
namespace Go.Proofs.YtjikdbmdaeonlaaDoor.Dg
set_option maxRecDepth 20000

/-- A text's bytes; a text of bytes. -/
def L (s : ByteArray) : List UInt8 := s.data.toList
def bs (l : List UInt8) : ByteArray := ⟨l.toArray⟩
theorem L_bs (l : List UInt8) : L (bs l) = l := rfl
theorem bs_L (s : ByteArray) : bs (L s) = s := by obtain ⟨⟨l⟩⟩ := s; rfl
theorem L_size (s : ByteArray) : (L s).length = s.size := by obtain ⟨⟨l⟩⟩ := s; rfl
theorem bs_size (l : List UInt8) : (bs l).size = l.length := rfl
theorem L_get (s : ByteArray) (k : Nat) (h : k < s.size) : (L s)[k]? = some s[k] := by
  rw [List.getElem?_eq_getElem (by rw [L_size]; exact h)]; rfl
theorem L_append (s t : ByteArray) : L (s ++ t) = L s ++ L t := by
  show (s ++ t).data.toList = _
  rw [ByteArray.data_append, Array.toList_append]; rfl
theorem L_extract (s : ByteArray) (i j : Nat) : L (s.extract i j) = ((L s).take j).drop i := by
  show (s.extract i j).data.toList = _
  rw [ByteArray.data_extract, Array.toList_extract, List.extract_eq_take_drop, List.drop_take]; rfl
theorem eq_of_L {s t : ByteArray} (h : L s = L t) : s = t := by rw [← bs_L s, ← bs_L t, h]
theorem byte_of (m : Nat) (h : m < 256) : (UInt8.ofNat m).toNat = m := by rw [UInt8.toNat_ofNat']; omega

/-- A word's operations. -/
def ad (a b : Nat) : Nat := (a + b) % 4294967296
def xo (a b : Nat) : Nat := (a % 4294967296) ^^^ (b % 4294967296)
def an (a b : Nat) : Nat := (a % 4294967296) &&& (b % 4294967296)
def ors (a b : Nat) : Nat := (a % 4294967296) ||| (b % 4294967296)
def no (a : Nat) : Nat := 4294967295 ^^^ (a % 4294967296)
def sr (a n : Nat) : Nat := a / 2 ^ n
def sl (a n : Nat) : Nat := a * 2 ^ n % 4294967296
def rot (a n : Nat) : Nat := ors (sl a (32 - n)) (sr a n)
theorem ad_lt (a b : Nat) : ad a b < 4294967296 := by unfold ad; omega
theorem xo_lt (a b : Nat) : xo a b < 4294967296 := Nat.xor_lt_two_pow (n := 32) (Nat.mod_lt _ (by decide)) (Nat.mod_lt _ (by decide))
theorem ors_lt (a b : Nat) : ors a b < 4294967296 := Nat.or_lt_two_pow (n := 32) (Nat.mod_lt _ (by decide)) (Nat.mod_lt _ (by decide))
theorem an_lt (a b : Nat) : an a b < 4294967296 := Nat.and_lt_two_pow (n := 32) _ (Nat.mod_lt _ (by decide))
theorem no_lt (a : Nat) : no a < 4294967296 := Nat.xor_lt_two_pow (n := 32) (by decide) (Nat.mod_lt _ (by decide))
theorem rot_lt (a n : Nat) : rot a n < 4294967296 := ors_lt _ _
theorem ors_comm (a b : Nat) : ors a b = ors b a := Nat.or_comm _ _
theorem ad_comm (a b : Nat) : ad a b = ad b a := by unfold ad; rw [Nat.add_comm]
theorem ad_assoc (a b c : Nat) : ad (ad a b) c = ad a (ad b c) := by unfold ad; omega

/-- A block's words. -/
def wordB (b : List Nat) (i : Nat) : Nat := ors (ors (ors (sl (b.getD (4 * i) 0) 24) (sl (b.getD (4 * i + 1) 0) 16)) (sl (b.getD (4 * i + 2) 0) 8)) (b.getD (4 * i + 3) 0)
def lowS (x : Nat) : Nat := xo (xo (rot x 7) (rot x 18)) (sr x 3)
def highS (x : Nat) : Nat := xo (xo (rot x 17) (rot x 19)) (sr x 10)
def mixS (l : List Nat) (i : Nat) : Nat := ad (ad (ad (l.getD (i - 16) 0) (lowS (l.getD (i - 15) 0))) (l.getD (i - 7) 0)) (highS (l.getD (i - 2) 0))
def sch (b : List Nat) : Nat → List Nat
  | 0 => []
  | n + 1 => sch b n ++ [if n < 16 then wordB b n else mixS (sch b n) n]
theorem sch_length (b : List Nat) (n : Nat) : (sch b n).length = n := by
  induction n with
  | zero => rfl
  | succ n ih => unfold sch; rw [List.length_append, ih]; rfl

/-- A round. -/
def choS (e f g : Nat) : Nat := xo (an e f) (an (no e) g)
def mostS (a b c : Nat) : Nat := xo (xo (an a b) (an a c)) (an b c)
def bigE (e : Nat) : Nat := xo (xo (rot e 6) (rot e 11)) (rot e 25)
def bigA (a : Nat) : Nat := xo (xo (rot a 2) (rot a 13)) (rot a 22)
structure W8 where
  a : Nat
  b : Nat
  c : Nat
  d : Nat
  e : Nat
  f : Nat
  g : Nat
  h : Nat
def xR (v : W8) (word : Nat) : Nat := ad (ad (ad v.h (bigE v.e)) (choS v.e v.f v.g)) word
def yR (v : W8) : Nat := ad (bigA v.a) (mostS v.a v.b v.c)
def roundR (v : W8) (word : Nat) : W8 := ⟨ad (xR v word) (yR v), v.a, v.b, v.c, ad v.d (xR v word), v.e, v.f, v.g⟩
def W8.list (v : W8) : List Nat := [v.a, v.b, v.c, v.d, v.e, v.f, v.g, v.h]
def addW (v h : W8) : W8 := ⟨ad v.a h.a, ad v.b h.b, ad v.c h.c, ad v.d h.d, ad v.e h.e, ad v.f h.f, ad v.g h.g, ad v.h h.h⟩
/-- The rounds over words and constants. -/
def roundsR (v : W8) (w k : List Nat) : Nat → W8
  | 0 => v
  | n + 1 => roundR (roundsR v w k n) (ad (k.getD n 0) (w.getD n 0))
def blockK (k : List Nat) (h : W8) (b : List Nat) : W8 := addW (roundsR h (sch b 64) k 64) h
def firstN : W8 := ⟨1779033703, 3144134277, 1013904242, 2773480762, 1359893119, 2600822924, 528734635, 1541459225⟩
def roundsN : List Nat := [1116352408, 1899447441, 3049323471, 3921009573, 961987163, 1508970993, 2453635748, 2870763221, 3624381080, 310598401, 607225278, 1426881987, 1925078388, 2162078206, 2614888103, 3248222580, 3835390401, 4022224774, 264347078, 604807628, 770255983, 1249150122, 1555081692, 1996064986, 2554220882, 2821834349, 2952996808, 3210313671, 3336571891, 3584528711, 113926993, 338241895, 666307205, 773529912, 1294757372, 1396182291, 1695183700, 1986661051, 2177026350, 2456956037, 2730485921, 2820302411, 3259730800, 3345764771, 3516065817, 3600352804, 4094571909, 275423344, 430227734, 506948616, 659060556, 883997877, 958139571, 1322822218, 1537002063, 1747873779, 1955562222, 2024104815, 2227730452, 2361852424, 2428436474, 2756734187, 3204031479, 3329325298]
def blockN (h : W8) (b : List Nat) : W8 := blockK roundsN h b

end Go.Proofs.YtjikdbmdaeonlaaDoor.Dg
namespace Go.Proofs.YtjikdbmdaeonlaaDoor.Dg
set_option maxRecDepth 20000

/-- A digit; a text's digits. -/
def dig (n : Nat) : UInt8 := UInt8.ofNat (if n < 10 then 48 + n else 87 + n)
def hexL : List UInt8 → List UInt8
  | [] => []
  | c :: l => dig (c.toNat / 16) :: dig (c.toNat % 16) :: hexL l
theorem hexL_append (l m : List UInt8) : hexL (l ++ m) = hexL l ++ hexL m := by
  induction l with
  | nil => rfl
  | cons c l ih => show _ :: _ :: hexL (l ++ m) = _ :: _ :: (hexL l ++ hexL m); rw [ih]
theorem hexL_step (l : List UInt8) (k : Nat) (c : UInt8) (h : l[k]? = some c) : hexL (l.take (k + 1)) = hexL (l.take k) ++ [dig (c.toNat / 16), dig (c.toNat % 16)] := by
  rw [List.take_add_one, h, hexL_append]; rfl
theorem hexL_length (l : List UInt8) : (hexL l).length = 2 * l.length := by
  induction l with
  | nil => rfl
  | cons c l ih => show (hexL l).length + 1 + 1 = 2 * (l.length + 1); omega
theorem hexL_even (l : List UInt8) : ∀ (k : Nat) (c : UInt8), l[k]? = some c → (hexL l)[2 * k]? = some (dig (c.toNat / 16)) ∧ (hexL l)[2 * k + 1]? = some (dig (c.toNat % 16)) := by
  induction l with
  | nil => intro k c h; simp at h
  | cons x l ih =>
    intro k c h
    cases k with
    | zero => simp only [List.getElem?_cons_zero, Option.some.injEq] at h; subst h; exact ⟨rfl, rfl⟩
    | succ k =>
      rw [List.getElem?_cons_succ] at h
      rw [show 2 * (k + 1) = 2 * k + 1 + 1 by omega]
      exact ih k c h

/-- A word's four bytes; the words' bytes. -/
def putL (v : Nat) : List UInt8 := [UInt8.ofNat (v / 16777216 % 256), UInt8.ofNat (v / 65536 % 256), UInt8.ofNat (v / 256 % 256), UInt8.ofNat (v % 256)]
def bytesL : List Nat → List UInt8
  | [] => []
  | v :: l => putL v ++ bytesL l
theorem bytesL_append (l m : List Nat) : bytesL (l ++ m) = bytesL l ++ bytesL m := by
  induction l with
  | nil => rfl
  | cons v l ih => show putL v ++ bytesL (l ++ m) = putL v ++ bytesL l ++ bytesL m; rw [ih, List.append_assoc]
theorem bytesL_step (l : List Nat) (k : Nat) (h : k < l.length) : bytesL (l.take (k + 1)) = bytesL (l.take k) ++ putL (l.getD k 0) := by
  rw [List.take_add_one, List.getElem?_eq_getElem h, bytesL_append]
  show _ ++ (putL _ ++ []) = _
  rw [List.append_nil, List.getD_eq_getElem?_getD, List.getElem?_eq_getElem h]; rfl
theorem bytesL_length (l : List Nat) : (bytesL l).length = 4 * l.length := by
  induction l with
  | nil => rfl
  | cons v l ih => show (putL v ++ bytesL l).length = _; rw [List.length_append, ih]; show 4 + _ = 4 * (l.length + 1); omega

/-- A number's eight bytes, the highest first. -/
def be8 (v : Nat) : List UInt8 := [UInt8.ofNat (v / 72057594037927936 % 256), UInt8.ofNat (v / 281474976710656 % 256), UInt8.ofNat (v / 1099511627776 % 256), UInt8.ofNat (v / 4294967296 % 256), UInt8.ofNat (v / 16777216 % 256), UInt8.ofNat (v / 65536 % 256), UInt8.ofNat (v / 256 % 256), UInt8.ofNat (v % 256)]
/-- How much stands behind a text of n bytes; what. -/
def padS (n : Nat) : Nat := if 64 - n % 64 ≤ 8 then 64 - n % 64 + 64 else 64 - n % 64
def padL (n : Nat) : List UInt8 := 128 :: (List.replicate (padS n - 9) 0 ++ be8 (8 * n % 18446744073709551616))
theorem padS_ge (n : Nat) : 9 ≤ padS n := by unfold padS; split <;> omega
theorem padS_le (n : Nat) : padS n ≤ 72 := by unfold padS; split <;> omega
theorem padL_length (n : Nat) : (padL n).length = padS n := by
  have := padS_ge n
  show (List.replicate (padS n - 9) (0 : UInt8) ++ be8 _).length + 1 = _
  rw [List.length_append, List.length_replicate]
  show padS n - 9 + 8 + 1 = _
  omega
theorem padS_mod (n : Nat) : (n + padS n) % 64 = 0 := by unfold padS; split <;> omega

/-- A text's blocks, one by one, from the i-th byte on. -/
def nats (l : List UInt8) : List Nat := l.map UInt8.toNat
def stepsK (k : List Nat) (h : W8) (l : List UInt8) : Nat → W8
  | 0 => h
  | n + 1 => blockK k (stepsK k h l n) (nats ((l.drop (64 * n)).take 64))
theorem stepsK_left (k : List Nat) (h : W8) (l m : List UInt8) (n : Nat) (hn : 64 * n ≤ l.length) : stepsK k h (l ++ m) n = stepsK k h l n := by
  induction n with
  | zero => rfl
  | succ n ih =>
    unfold stepsK
    rw [ih (by omega), List.drop_append_of_le_length (by omega), List.take_append_of_le_length (by rw [List.length_drop]; omega)]
theorem stepsK_add (k : List Nat) (h : W8) (l m : List UInt8) (p n : Nat) (hp : l.length = 64 * p) : stepsK k h (l ++ m) (p + n) = stepsK k (stepsK k h l p) m n := by
  induction n with
  | zero => exact stepsK_left k h l m p (by omega)
  | succ n ih =>
    show blockK k (stepsK k h (l ++ m) (p + n)) (nats (((l ++ m).drop (64 * (p + n))).take 64)) = blockK k (stepsK k (stepsK k h l p) m n) (nats ((m.drop (64 * n)).take 64))
    rw [ih, List.drop_append, show (l.drop (64 * (p + n))) = [] from List.drop_of_length_le (by omega), List.nil_append, hp, show 64 * (p + n) - 64 * p = 64 * n by omega]
def ofK (k : List Nat) (h : W8) (s : List UInt8) : List UInt8 := bytesL (stepsK k h (s ++ padL s.length) ((s.length + padS s.length) / 64)).list
def ofL (s : List UInt8) : List UInt8 := ofK roundsN firstN s
theorem ofL_length (s : List UInt8) : (ofL s).length = 32 := by unfold ofL ofK; rw [bytesL_length]; rfl

end Go.Proofs.YtjikdbmdaeonlaaDoor.Dg
namespace Go.Proofs.YtjikdbmdaeonlaaDoor.Dg
set_option maxRecDepth 20000

/-- A long word's operations. -/
def ad6 (a b : Nat) : Nat := (a + b) % 18446744073709551616
def mu6 (a b : Nat) : Nat := a * b % 18446744073709551616
def or6 (a b : Nat) : Nat := (a % 18446744073709551616) ||| (b % 18446744073709551616)
def lo6 (a : Nat) : Nat := a % 4294967296
def hi6 (a : Nat) : Nat := a / 4294967296
def up6 (a : Nat) : Nat := a * 4294967296 % 18446744073709551616

/-- A product's two halves, as they are reckoned. -/
def midT (a b : Nat) : Nat := ad6 (ad6 (hi6 (mu6 (lo6 a) (lo6 b))) (lo6 (mu6 (lo6 a) (hi6 b)))) (lo6 (mu6 (hi6 a) (lo6 b)))
def highT (a b : Nat) : Nat := ad6 (ad6 (ad6 (mu6 (hi6 a) (hi6 b)) (hi6 (mu6 (lo6 a) (hi6 b)))) (hi6 (mu6 (hi6 a) (lo6 b)))) (hi6 (midT a b))
def lowT (a b : Nat) : Nat := or6 (lo6 (mu6 (lo6 a) (lo6 b))) (up6 (midT a b))

/-- A root, bit by bit. -/
def sqBit (v r bit : Nat) : Nat := if highT (or6 r (2 ^ bit)) (or6 r (2 ^ bit)) < v ∨ (highT (or6 r (2 ^ bit)) (or6 r (2 ^ bit)) = v ∧ lowT (or6 r (2 ^ bit)) (or6 r (2 ^ bit)) = 0) then or6 r (2 ^ bit) else r
def sqN (v : Nat) : Nat → Nat
  | 0 => 0
  | k + 1 => sqBit v (sqN v k) (36 - k)
def squareN (v : Nat) : Nat := sqN v 37 % 4294967296
def topC (x : Nat) : Nat := ad6 (highT (lowT x x) x) (lowT (highT x x) x)
def cuBit (v r bit : Nat) : Nat := if topC (or6 r (2 ^ bit)) < up6 v ∨ (topC (or6 r (2 ^ bit)) = up6 v ∧ lowT (lowT (or6 r (2 ^ bit)) (or6 r (2 ^ bit))) (or6 r (2 ^ bit)) = 0) then or6 r (2 ^ bit) else r
def cuN (v : Nat) : Nat → Nat
  | 0 => 0
  | k + 1 => cuBit v (cuN v k) (35 - k)
def cubeN (v : Nat) : Nat := cuN v 36 % 4294967296

/-- The primes below k + 2. -/
def isB (l : List Nat) (v : Nat) : Bool := l.all fun p => v % p != 0
def prN : Nat → List Nat
  | 0 => []
  | k + 1 => if isB (prN k) (k + 2) then prN k ++ [k + 2] else prN k
theorem prN_mono (k j : Nat) : (prN k).length ≤ (prN (k + j)).length := by
  induction j with
  | zero => exact Nat.le_refl _
  | succ j ih =>
    refine Nat.le_trans ih ?_
    show (prN (k + j)).length ≤ (if isB (prN (k + j)) (k + j + 2) then prN (k + j) ++ [k + j + 2] else prN (k + j)).length
    split
    · rw [List.length_append]; omega
    · exact Nat.le_refl _
theorem pr17 : (prN 17).length = 7 := by decide +kernel
theorem pr18 : (prN 18).length = 8 := by decide +kernel
theorem pr309 : (prN 309).length = 63 := by decide +kernel
theorem pr310 : (prN 310).length = 64 := by decide +kernel
theorem prN_pos (k : Nat) : ∀ p ∈ prN k, 2 ≤ p ∧ p < k + 2 := by
  induction k with
  | zero => intro p hp; cases hp
  | succ k ih =>
    intro p hp
    unfold prN at hp
    split at hp
    · rcases List.mem_append.1 hp with h | h
      · have := ih p h; omega
      · have : p = k + 2 := by simpa using h
        omega
    · have := ih p hp; omega
theorem start_all : (prN 18).map squareN = firstN.list := by decide +kernel
theorem constants_all : (prN 310).map cubeN = roundsN := by decide +kernel

end Go.Proofs.YtjikdbmdaeonlaaDoor.Dg
