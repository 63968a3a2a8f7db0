/-
  Halves of bytes, said of lists of bytes: halves laid out, laid together, packed and unpacked, what two lists have in common, and their order. Plain mathematics: nothing of the program's dump is read here.
-/
import Derived.WalkKit
namespace Go.Proofs.YtjpjcojabjkaaaaDoor
set_option maxRecDepth 20000

/-- A text's bytes; a text of bytes. -/
def L (s : ByteArray) : List UInt8 := s.data.toList
def bs (l : List UInt8) : ByteArray := ⟨l.toArray⟩
theorem L_bs (l : List UInt8) : L (bs l) = l := rfl
theorem bs_L (s : ByteArray) : bs (L s) = s := by obtain ⟨⟨l⟩⟩ := s; rfl
theorem L_size (s : ByteArray) : (L s).length = s.size := by obtain ⟨⟨l⟩⟩ := s; rfl
theorem bs_size (l : List UInt8) : (bs l).size = l.length := rfl
theorem L_get (s : ByteArray) (k : Nat) (h : k < s.size) : (L s)[k]? = some s[k] := by
  rw [List.getElem?_eq_getElem (by rw [L_size]; exact h)]; rfl
theorem toList_L (s : ByteArray) : s.toList = L s := by obtain ⟨⟨l⟩⟩ := s; simp [L]
theorem L_append (s t : ByteArray) : L (s ++ t) = L s ++ L t := by
  show (s ++ t).data.toList = _
  rw [ByteArray.data_append, Array.toList_append]; rfl
theorem L_extract (s : ByteArray) (i j : Nat) : L (s.extract i j) = ((L s).take j).drop i := by
  show (s.extract i j).data.toList = _
  rw [ByteArray.data_extract, Array.toList_extract, List.extract_eq_take_drop, List.drop_take]; rfl
theorem eq_of_L {s t : ByteArray} (h : L s = L t) : s = t := by rw [← bs_L s, ← bs_L t, h]

theorem byte_of (m : Nat) (h : m < 256) : (UInt8.ofNat m).toNat = m := by rw [UInt8.toNat_ofNat']; omega

/-- A byte's halves; two halves in a byte. -/
def hi (c : UInt8) : UInt8 := UInt8.ofNat (c.toNat / 16)
def lo (c : UInt8) : UInt8 := UInt8.ofNat (c.toNat % 16)
def two (a b : UInt8) : UInt8 := UInt8.ofNat (a.toNat % 16 * 16 + b.toNat % 16)
theorem hi_nat (c : UInt8) : (hi c).toNat = c.toNat / 16 := byte_of _ (by have := c.toNat_lt; omega)
theorem lo_nat (c : UInt8) : (lo c).toNat = c.toNat % 16 := byte_of _ (by omega)
theorem two_nat (a b : UInt8) : (two a b).toNat = a.toNat % 16 * 16 + b.toNat % 16 := byte_of _ (by omega)
theorem two_hi_lo (c : UInt8) : two (hi c) (lo c) = c := by
  refine UInt8.toNat_inj.1 ?_
  rw [two_nat, hi_nat, lo_nat]; have := c.toNat_lt; omega
theorem hi_two (a b : UInt8) (h : a.toNat < 16) : hi (two a b) = a := by
  refine UInt8.toNat_inj.1 ?_
  rw [hi_nat, two_nat]; omega
theorem lo_two (a b : UInt8) (h : b.toNat < 16) : lo (two a b) = b := by
  refine UInt8.toNat_inj.1 ?_
  rw [lo_nat, two_nat]; omega
theorem two_zero (a : UInt8) : (two a 0).toNat = a.toNat % 16 * 16 := by rw [two_nat]; rfl

/-- The halves of bytes. -/
def ofL : List UInt8 → List UInt8
  | [] => []
  | c :: l => hi c :: lo c :: ofL l
theorem ofL_append (l m : List UInt8) : ofL (l ++ m) = ofL l ++ ofL m := by
  induction l with
  | nil => rfl
  | cons c l ih => show hi c :: lo c :: ofL (l ++ m) = _; rw [ih]; rfl
theorem ofL_length (l : List UInt8) : (ofL l).length = 2 * l.length := by
  induction l with
  | nil => rfl
  | cons c l ih => show (ofL l).length + 1 + 1 = 2 * (l.length + 1); omega
theorem ofL_step (l : List UInt8) (k : Nat) (c : UInt8) (h : l[k]? = some c) : ofL (l.take (k + 1)) = ofL (l.take k) ++ [hi c, lo c] := by
  rw [List.take_add_one, h, ofL_append]; rfl
theorem ofL_get (l : List UInt8) : ∀ (k : Nat) (c : UInt8), l[k]? = some c → (ofL l)[2 * k]? = some (hi c) ∧ (ofL l)[2 * k + 1]? = some (lo c) := by
  induction l with
  | nil => intro k c h; simp at h
  | cons d l ih =>
    intro k c h
    cases k with
    | zero =>
      simp only [List.getElem?_cons_zero, Option.some.injEq] at h
      subst h
      exact ⟨rfl, rfl⟩
    | succ k =>
      rw [List.getElem?_cons_succ] at h
      have := ih k c h
      rw [show 2 * (k + 1) = 2 * k + 1 + 1 by omega, show 2 * k + 1 + 1 + 1 = (2 * k + 1) + 1 + 1 by omega]
      exact ⟨this.1, this.2⟩

/-- Halves laid together, two a byte; behind an odd number of them the last lower half is 0. -/
def joinL : List UInt8 → List UInt8
  | [] => []
  | [a] => [two a 0]
  | a :: b :: l => two a b :: joinL l
theorem pairs {P : List UInt8 → Prop} (h0 : P []) (h1 : ∀ a, P [a]) (h2 : ∀ a b l, P l → P (a :: b :: l)) (l : List UInt8) : P l := by
  have : ∀ n, ∀ l : List UInt8, l.length ≤ n → P l := by
    intro n
    induction n with
    | zero => intro l h; cases l with
      | nil => exact h0
      | cons a l => simp at h
    | succ n ih =>
      intro l h
      match l, h with
      | [], _ => exact h0
      | [a], _ => exact h1 a
      | a :: b :: l, h => exact h2 a b l (ih l (by simp at h; omega))
  exact this l.length l (Nat.le_refl _)
theorem joinL_length (l : List UInt8) : (joinL l).length = (l.length + 1) / 2 := by
  induction l using pairs with
  | h0 => rfl
  | h1 a => simp [joinL]
  | h2 a b l ih => show (joinL l).length + 1 = (l.length + 1 + 1 + 1) / 2; omega
theorem join_of (l : List UInt8) : joinL (ofL l) = l := by
  induction l with
  | nil => rfl
  | cons c l ih => show two (hi c) (lo c) :: joinL (ofL l) = _; rw [two_hi_lo, ih]

/-- Joined so far: of the first k halves, in J bytes. -/
def padL (l : List UInt8) (k J : Nat) : List UInt8 := (List.range J).map fun j => two ((l.take k).getD (2 * j) 0) ((l.take k).getD (2 * j + 1) 0)
theorem padL_length (l : List UInt8) (k J : Nat) : (padL l k J).length = J := by unfold padL; simp
theorem padL_get (l : List UInt8) (k J j : Nat) (h : j < J) : (padL l k J)[j]? = some (two ((l.take k).getD (2 * j) 0) ((l.take k).getD (2 * j + 1) 0)) := by
  unfold padL; simp [h]
theorem joinL_get (l : List UInt8) : ∀ j, j < (l.length + 1) / 2 → (joinL l)[j]? = some (two (l.getD (2 * j) 0) (l.getD (2 * j + 1) 0)) := by
  induction l using pairs with
  | h0 => intro j h; simp at h
  | h1 a =>
    intro j h
    simp only [List.length_cons, List.length_nil] at h
    obtain rfl : j = 0 := by omega
    rfl
  | h2 a b l ih =>
    intro j h
    cases j with
    | zero => rfl
    | succ j =>
      simp only [List.length_cons] at h
      rw [show 2 * (j + 1) = 2 * j + 1 + 1 by omega, show 2 * j + 1 + 1 + 1 = (2 * j + 1) + 1 + 1 by omega]
      show (joinL l)[j]? = _
      rw [ih j (by omega)]
      rfl
theorem padL_full (l : List UInt8) : padL l l.length ((l.length + 1) / 2) = joinL l := by
  apply List.ext_getElem?
  intro j
  by_cases h : j < (l.length + 1) / 2
  · rw [padL_get _ _ _ _ h, joinL_get l j h, List.take_length]
  · rw [List.getElem?_eq_none (by rw [padL_length]; omega), List.getElem?_eq_none (by rw [joinL_length]; omega)]
theorem padL_none (l : List UInt8) (J : Nat) : padL l 0 J = List.replicate J 0 := by
  unfold padL
  have : (fun j => two ((l.take 0).getD (2 * j) 0) ((l.take 0).getD (2 * j + 1) 0)) = fun _ => (0 : UInt8) := by
    funext j; rfl
  rw [this, List.map_const', List.length_range]
theorem take_getD (l : List UInt8) (k i : Nat) : (l.take k).getD i 0 = if i < k then l.getD i 0 else 0 := by
  rw [List.getD_eq_getElem?_getD, List.getD_eq_getElem?_getD, List.getElem?_take]
  split <;> rfl
theorem getD_of {l : List UInt8} {k : Nat} {c : UInt8} (h : l[k]? = some c) : l.getD k 0 = c := by
  rw [List.getD_eq_getElem?_getD, h]; rfl
/-- A first half comes to its byte. -/
theorem padL_even (l : List UInt8) (k J : Nat) (c : UInt8) (hk : k % 2 = 0) (h : l[k]? = some c) (hJ : k / 2 < J) : (padL l k J).set (k / 2) (two c 0) = padL l (k + 1) J := by
  apply List.ext_getElem?
  intro j
  rw [List.getElem?_set, padL_length]
  by_cases hj : j < J
  · rw [padL_get _ _ _ _ hj, padL_get _ _ _ _ hj]
    simp only [take_getD]
    by_cases e : k / 2 = j
    · subst e
      rw [if_pos rfl, if_pos hJ, show 2 * (k / 2) = k by omega, if_pos (by omega), if_neg (by omega), getD_of h]
    · rw [if_neg e]
      congr 2
      · by_cases h1 : 2 * j < k
        · rw [if_pos h1, if_pos (by omega)]
        · rw [if_neg h1, if_neg (by omega)]
      · by_cases h1 : 2 * j + 1 < k
        · rw [if_pos h1, if_pos (by omega)]
        · rw [if_neg h1, if_neg (by omega)]
  · rw [if_neg (by omega), List.getElem?_eq_none (by rw [padL_length]; omega), List.getElem?_eq_none (by rw [padL_length]; omega)]
/-- A second half comes to its byte. -/
theorem padL_odd (l : List UInt8) (k J : Nat) (b c : UInt8) (hk : k % 2 = 1) (hb : l[k - 1]? = some b) (h : l[k]? = some c) (hJ : k / 2 < J) : (padL l k J).set (k / 2) (two b c) = padL l (k + 1) J := by
  apply List.ext_getElem?
  intro j
  rw [List.getElem?_set, padL_length]
  by_cases hj : j < J
  · rw [padL_get _ _ _ _ hj, padL_get _ _ _ _ hj]
    simp only [take_getD]
    by_cases e : k / 2 = j
    · subst e
      rw [if_pos rfl, if_pos hJ, show 2 * (k / 2) = k - 1 by omega, if_pos (by omega), show k - 1 + 1 = k by omega, if_pos (by omega), getD_of h, getD_of hb]
    · rw [if_neg e]
      congr 2
      · by_cases h1 : 2 * j < k
        · rw [if_pos h1, if_pos (by omega)]
        · rw [if_neg h1, if_neg (by omega)]
      · by_cases h1 : 2 * j + 1 < k
        · rw [if_pos h1, if_pos (by omega)]
        · rw [if_neg h1, if_neg (by omega)]
  · rw [if_neg (by omega), List.getElem?_eq_none (by rw [padL_length]; omega), List.getElem?_eq_none (by rw [padL_length]; omega)]
theorem padL_now (l : List UInt8) (k J : Nat) (b : UInt8) (hk : k % 2 = 1) (hb : l[k - 1]? = some b) (hJ : k / 2 < J) : (padL l k J)[k / 2]? = some (two b 0) := by
  rw [padL_get _ _ _ _ hJ]
  simp only [take_getD]
  rw [show 2 * (k / 2) = k - 1 by omega, if_pos (by omega), if_neg (by omega), getD_of hb]

/-- Halves alone? -/
def halvesB (l : List UInt8) : Bool := l.all fun c => decide (c.toNat < 16)
theorem halvesB_of (l : List UInt8) : halvesB (ofL l) = true := by
  induction l with
  | nil => rfl
  | cons c l ih =>
    show (decide ((hi c).toNat < 16) && (decide ((lo c).toNat < 16) && halvesB (ofL l))) = true
    rw [ih, hi_nat, lo_nat]
    have := c.toNat_lt
    rw [decide_eq_true (show c.toNat / 16 < 16 by omega), decide_eq_true (show c.toNat % 16 < 16 by omega)]; rfl
theorem halvesB_get {l : List UInt8} (h : halvesB l = true) {k : Nat} {c : UInt8} (hc : l[k]? = some c) : c.toNat < 16 := by
  unfold halvesB at h
  rw [List.all_eq_true] at h
  exact of_decide_eq_true (h c (List.mem_of_getElem? hc))
theorem halvesB_bad {l : List UInt8} {k : Nat} {c : UInt8} (hc : l[k]? = some c) (h : ¬ c.toNat < 16) : halvesB l = false := by
  rw [Bool.eq_false_iff]
  intro h1
  exact h (halvesB_get h1 hc)
theorem halvesB_good {l : List UInt8} (h : ∀ (k : Nat) c, l[k]? = some c → c.toNat < 16) : halvesB l = true := by
  unfold halvesB
  rw [List.all_eq_true]
  intro c hc
  obtain ⟨k, hk⟩ := List.getElem?_of_mem hc
  exact decide_eq_true (h k c hk)
theorem halvesB_cons2 {a b : UInt8} {l : List UInt8} (h : halvesB (a :: b :: l) = true) : a.toNat < 16 ∧ b.toNat < 16 ∧ halvesB l = true := by
  have : (decide (a.toNat < 16) && (decide (b.toNat < 16) && halvesB l)) = true := h
  simp only [Bool.and_eq_true, decide_eq_true_eq] at this
  exact this
/-- The halves of joined halves are they, and a 0 behind an odd number of them. -/
theorem of_join (l : List UInt8) (h : halvesB l = true) : ofL (joinL l) = if l.length % 2 = 1 then l ++ [0] else l := by
  induction l using pairs with
  | h0 => rfl
  | h1 a =>
    have ha : a.toNat < 16 := halvesB_get h (k := 0) rfl
    show [hi (two a 0), lo (two a 0)] = _
    rw [hi_two a 0 ha, lo_two a 0 (by decide)]; rfl
  | h2 a b l ih =>
    obtain ⟨ha, hb, hl⟩ := halvesB_cons2 h
    show hi (two a b) :: lo (two a b) :: ofL (joinL l) = _
    rw [hi_two a b ha, lo_two a b hb, ih hl]
    simp only [List.length_cons]
    by_cases e : l.length % 2 = 1
    · rw [if_pos e, if_pos (by omega)]; rfl
    · rw [if_neg e, if_neg (by omega)]

/-- With how many bytes alike do both begin? -/
def comN : List UInt8 → List UInt8 → Nat
  | a :: l, b :: m => if a = b then comN l m + 1 else 0
  | _, _ => 0
theorem comN_stop : ∀ (l m : List UInt8) (k : Nat), l.take k = m.take k → k ≤ l.length → k ≤ m.length → (k = l.length ∨ k = m.length ∨ ∃ a b, l[k]? = some a ∧ m[k]? = some b ∧ a ≠ b) → comN l m = k := by
  intro l
  induction l with
  | nil => intro m k _ h1 _ _; simp at h1; subst h1; cases m <;> rfl
  | cons a l ih =>
    intro m k ht h1 h2 h
    cases m with
    | nil => simp at h2; subst h2; rfl
    | cons b m =>
      cases k with
      | zero =>
        rcases h with h | h | ⟨x, y, hx, hy, hne⟩
        · simp at h
        · simp at h
        · simp at hx hy
          subst hx; subst hy
          show (if a = b then _ else 0) = 0
          rw [if_neg hne]
      | succ k =>
        simp only [List.take_succ_cons, List.cons.injEq] at ht
        show (if a = b then _ else 0) = k + 1
        rw [if_pos ht.1]
        simp only [List.length_cons] at h1 h2 h
        rw [ih m k ht.2 (by omega) (by omega) ?_]
        rcases h with h | h | ⟨x, y, hx, hy, hne⟩
        · exact .inl (by omega)
        · exact .inr (.inl (by omega))
        · exact .inr (.inr ⟨x, y, hx, hy, hne⟩)

end Go.Proofs.YtjpjcojabjkaaaaDoor
