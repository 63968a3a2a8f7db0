/-
  Root's mathematics: each node of a trie as an Item, its hash, told from the last node to the first. Plain mathematics. childHashes: the hashes of a node's children, by nibble. The reference's Good: it says what Good says.
-/
import Derived.Test.YtjikdbmdaeonlaaDoorGap
import Derived.Test.YtjikdbmdaeonlaaDoorGav
import Derived.Test.YtjikdbmdaeonlaaDoorGan
import Derived.Test.YtjikdbmdaeonlaaDoorGaq
namespace Go.Proofs.YtjikdbmdaeonlaaDoor
set_option maxRecDepth 20000

/-- A bit for each number that is none of the noughts. -/
def maskT (ks : List Int) : Nat → Nat
  | 0 => 0
  | k + 1 => maskT ks k + if ks.getD k 0 = 0 then 0 else 2 ^ k
theorem maskT_lt (ks : List Int) : ∀ k, maskT ks k < 2 ^ k
  | 0 => Nat.one_pos
  | k + 1 => by
    have h := maskT_lt ks k
    show maskT ks k + _ < _
    rw [Nat.pow_succ]
    split <;> omega
theorem maskT_bit (ks : List Int) (j : Nat) : ∀ k, maskT ks k / 2 ^ j % 2 = if j < k ∧ ks.getD j 0 ≠ 0 then 1 else 0
  | 0 => by rw [if_neg (by omega)]; show 0 / 2 ^ j % 2 = 0; rw [Nat.zero_div]
  | k + 1 => by
    have ih := maskT_bit ks j k
    have hlt := maskT_lt ks k
    show (maskT ks k + _) / 2 ^ j % 2 = _
    rcases Nat.lt_trichotomy j k with h | h | h
    · have e : 2 ^ k = 2 ^ (k - j - 1) * 2 * 2 ^ j := by
        rw [Nat.mul_assoc, ← Nat.pow_succ', ← Nat.pow_add]; congr 1; omega
      have e2 : (maskT ks k + if ks.getD k 0 = 0 then 0 else 2 ^ k) / 2 ^ j % 2 = maskT ks k / 2 ^ j % 2 := by
        split
        · rw [Nat.add_zero]
        · rw [e, Nat.add_mul_div_right _ _ (Nat.two_pow_pos j), Nat.add_mul_mod_self_right]
      rw [e2, ih]
      by_cases hz : ks.getD j 0 ≠ 0
      · rw [if_pos ⟨h, hz⟩, if_pos ⟨by omega, hz⟩]
      · rw [if_neg (fun x => hz x.2), if_neg (fun x => hz x.2)]
    · subst h
      by_cases hz : ks.getD j 0 = 0
      · rw [if_pos hz, Nat.add_zero, ih, if_neg (by omega), if_neg (fun x => x.2 hz)]
      · rw [if_neg hz, if_pos ⟨by omega, hz⟩, Nat.add_div_right _ (Nat.two_pow_pos j), Nat.div_eq_of_lt hlt]
    · have hp : 2 ^ (k + 1) ≤ 2 ^ j := Nat.pow_le_pow_right (by decide) h
      have h2 := maskT_lt ks (k + 1)
      have h3 : maskT ks (k + 1) / 2 ^ j = 0 := Nat.div_eq_of_lt (by omega)
      have h4 : maskT ks (k + 1) = maskT ks k + if ks.getD k 0 = 0 then 0 else 2 ^ k := rfl
      rw [← h4, h3, if_neg (by omega)]
theorem getD_some {α : Type} {l : List α} {i : Nat} {x d : α} (h : l[i]? = some x) : l.getD i d = x := by rw [List.getD_eq_getElem?_getD, h]; rfl
theorem pop_mask {ks : List Int} (h : ks.length = 16) : ∀ k, k ≤ 16 → No.popT (maskT ks 16) k = (nz (ks.take k)).length
  | 0, _ => by rw [List.take_zero]; rfl
  | k + 1, hk => by
    have ih := pop_mask h k (by omega)
    show No.popT (maskT ks 16) k + maskT ks 16 / 2 ^ k % 2 = _
    rw [ih, maskT_bit]
    obtain ⟨x, hx⟩ : ∃ x, ks[k]? = some x := ⟨ks[k]'(by omega), List.getElem?_eq_getElem (by omega)⟩
    rw [getD_some hx]
    by_cases h0 : x = 0
    · subst h0
      rw [nz_take_zero hx, if_neg (by simp)]; rfl
    · rw [nz_take_more hx h0, if_pos ⟨by omega, h0⟩, List.length_append]; rfl
theorem popN_mask {ks : List Int} (h : ks.length = 16) : No.popN (maskT ks 16) = (nz ks).length := by
  have := pop_mask h 16 (Nat.le_refl _)
  rw [List.take_of_length_le (by omega)] at this
  exact this
theorem mem_nz {ks : List Int} {x : Int} : x ∈ nz ks ↔ x ∈ ks ∧ x ≠ 0 := by
  unfold nz; rw [List.mem_filter, bne_iff_ne]

/-- The hashes of a node's children. -/
def kidH (hs : List Bt) (ks : List Int) : List Bt := (nz ks).map fun k => hs.getD k.toNat []
/-- A node as an Item. -/
def itW (m : Nd) (hs : List Bt) : No.It := ⟨m.kind, m.path, m.has, m.val, (maskT m.kids 16 : Nat), kidH hs m.kids⟩
theorem itW_congr {m : Nd} {hs hs' : List Bt} (h : ∀ x ∈ nz m.kids, hs.getD x.toNat [] = hs'.getD x.toNat []) : itW m hs = itW m hs' := by
  unfold itW kidH
  rw [List.map_congr_left h]
/-- The hashes, the last so many nodes' told. -/
def hB (t : List Nd) : Nat → List Bt
  | 0 => List.replicate t.length []
  | k + 1 => (hB t k).set (t.length - 1 - k) (No.hashB (itW (t.getD (t.length - 1 - k) noNd) (hB t k)))
def HL (t : List Nd) : List Bt := hB t t.length
theorem hB_len (t : List Nd) : ∀ k, (hB t k).length = t.length
  | 0 => List.length_replicate
  | k + 1 => by show ((hB t k).set _ _).length = _; rw [List.length_set, hB_len t k]
theorem HL_len (t : List Nd) : (HL t).length = t.length := hB_len t _
theorem hB_stay (t : List Nd) (k i : Nat) (hi : t.length - k ≤ i) : ∀ d, k + d ≤ t.length → (hB t (k + d))[i]? = (hB t k)[i]?
  | 0, _ => rfl
  | d + 1, hd => by
    rw [← hB_stay t k i hi d (by omega), ← Nat.add_assoc]
    show ((hB t (k + d)).set _ _)[i]? = _
    rw [List.getElem?_set_ne (by omega)]
/-- Children stand behind their node. -/
structure Kd (t : List Nd) : Prop where
  kid : ∀ i m, t[i]? = some m → ∀ x ∈ nz m.kids, ∃ j : Nat, x = (j : Int) ∧ i < j ∧ j < t.length
theorem HL_at {t : List Nd} (K : Kd t) {i : Nat} {m : Nd} (hm : t[i]? = some m) : (HL t)[i]? = some (No.hashB (itW m (HL t))) := by
  have hi := (List.getElem?_eq_some_iff.1 hm).1
  obtain ⟨k, hk⟩ : ∃ k, t.length - 1 - i = k := ⟨_, rfl⟩
  have e1 : (HL t)[i]? = (hB t (k + 1))[i]? := by
    have := hB_stay t (k + 1) i (by omega) (t.length - (k + 1)) (by omega)
    rw [show k + 1 + (t.length - (k + 1)) = t.length by omega] at this
    exact this
  rw [e1]
  show ((hB t k).set (t.length - 1 - k) _)[i]? = _
  rw [show t.length - 1 - k = i by omega, List.getElem?_set_self (by rw [hB_len]; exact hi), getD_some hm]
  congr 2
  refine itW_congr fun x hx => ?_
  obtain ⟨j, rfl, hj, hjl⟩ := K.kid i m hm x hx
  rw [Int.toNat_natCast, List.getD_eq_getElem?_getD, List.getD_eq_getElem?_getD]
  have := hB_stay t k j (by omega) (t.length - k) (by omega)
  rw [show k + (t.length - k) = t.length by omega] at this
  rw [← this]; rfl
/-- The hashes from one node on, up to another. -/
def partL (t : List Nd) (a b : Nat) : List Bt := (List.range t.length).map fun j => if a ≤ j ∧ j < b then (HL t).getD j [] else []
theorem partL_len (t : List Nd) (a b : Nat) : (partL t a b).length = t.length := by unfold partL; rw [List.length_map, List.length_range]
theorem partL_get (t : List Nd) (a b : Nat) {j : Nat} (h : j < t.length) : (partL t a b)[j]? = some (if a ≤ j ∧ j < b then (HL t).getD j [] else []) := by
  unfold partL; rw [List.getElem?_map, List.getElem?_range h]; rfl
theorem partL_in (t : List Nd) {a b j : Nat} (h : j < t.length) (h1 : a ≤ j) (h2 : j < b) : (partL t a b).getD j [] = (HL t).getD j [] := by
  rw [getD_some (partL_get t a b h), if_pos ⟨h1, h2⟩]
theorem partL_none (t : List Nd) {a b : Nat} (h : b ≤ a) : partL t a b = List.replicate t.length [] := by
  apply List.ext_getElem?
  intro j
  rw [List.getElem?_replicate]
  by_cases hj : j < t.length
  · rw [partL_get t a b hj, if_neg (by omega), if_pos hj]
  · rw [if_neg hj, List.getElem?_eq_none (by rw [partL_len]; omega)]
theorem partL_all (t : List Nd) : partL t 0 t.length = HL t := by
  apply List.ext_getElem?
  intro j
  by_cases hj : j < t.length
  · rw [partL_get t _ _ hj, if_pos ⟨by omega, hj⟩, List.getD_eq_getElem?_getD, List.getElem?_eq_getElem (by rw [HL_len]; exact hj)]; rfl
  · rw [List.getElem?_eq_none (by rw [partL_len]; omega), List.getElem?_eq_none (by rw [HL_len]; omega)]
theorem partL_set (t : List Nd) {a b : Nat} (h : a < b) (ha : a < t.length) : (partL t (a + 1) b).set a ((HL t).getD a []) = partL t a b := by
  apply List.ext_getElem?
  intro j
  by_cases hj : j < t.length
  · rw [partL_get t a b hj]
    by_cases e : a = j
    · subst e
      rw [List.getElem?_set_self (by rw [partL_len]; exact ha), if_pos ⟨Nat.le_refl _, h⟩]
    · rw [List.getElem?_set_ne e, partL_get t _ _ hj]
      by_cases h2 : a ≤ j ∧ j < b
      · rw [if_pos h2, if_pos ⟨by omega, h2.2⟩]
      · rw [if_neg h2, if_neg (by omega)]
  · rw [List.getElem?_eq_none (by rw [List.length_set, partL_len]; omega), List.getElem?_eq_none (by rw [partL_len]; omega)]

/-- What is asked of nodes that are hashed. -/
structure Rt (t : List Nd) : Prop where
  k16 : ∀ m ∈ t, m.kids.length = 16
  kd : Kd t
  shape : ∀ m ∈ t, Shape m
  half : ∀ m ∈ t, goodB m.path = true
  val : ∀ m ∈ t, m.val.length ≤ 16
theorem goodB_right {a b : Bt} (h : goodB (a ++ b) = true) : goodB b = true := by
  unfold goodB halvesB at h ⊢
  rw [Bool.and_eq_true, decide_eq_true_eq, List.length_append, List.all_append, Bool.and_eq_true] at h
  rw [Bool.and_eq_true, decide_eq_true_eq]
  exact ⟨by omega, h.2.2⟩
theorem kd_of {T : List NP} (S : Sh T) : Kd (T.map (·.1)) := ⟨fun i m hm x hx => by
  rw [List.getElem?_map] at hm
  obtain ⟨M, hM, rfl⟩ := Option.map_eq_some_iff.1 hm
  obtain ⟨hk, h0⟩ := mem_nz.1 hx
  obtain ⟨c, hc⟩ := List.getElem?_of_mem hk
  obtain ⟨j, m', rfl, hj, hjl, _⟩ := sh_kid S hM hc h0
  exact ⟨j, rfl, hj, by rw [List.length_map]; exact hjl⟩⟩
theorem rt_of {l : List Pr} (h : mayB l = true) : Rt (buildN l) := by
  obtain ⟨S, _, _⟩ := sh_of h
  refine ⟨build_k16 h, kd_of S, fun m hm => ?_, fun m hm => ?_, fun m hm => ?_⟩
  · obtain ⟨M, hM, rfl⟩ := List.mem_map.1 hm
    exact S.shape M hM
  · obtain ⟨M, hM, rfl⟩ := List.mem_map.1 hm
    by_cases hne : l = []
    · subst hne; rw [trie_nil] at hM; cases hM
    · exact goodB_right (blk_halves (may_fit h) (trie_blk h hne) hM)
  · obtain ⟨M, hM, rfl⟩ := List.mem_map.1 hm
    by_cases hne : l = []
    · subst hne; rw [trie_nil] at hM; cases hM
    have B := trie_blk h hne
    have hval : M.1.has = true → M.1.val.length ≤ 16 := fun hh => by
      have hmem : (M.2 ++ M.1.path, M.1.val) ∈ l.map halfP := by
        rw [← B.vals]
        exact List.mem_filterMap.2 ⟨M, hM, by unfold valOf; rw [if_pos hh]⟩
      obtain ⟨p, hp, he⟩ := List.mem_map.1 hmem
      have hv := (okP_key p ((mayB_rise l h).2 p hp)).2.2
      have : p.2 = M.1.val := congrArg Prod.snd he
      rw [← this]; exact hv
    rcases S.shape M hM with ⟨_, h2, _⟩ | ⟨_, _, h3, _⟩ | ⟨_, _, _, _, h4⟩
    · exact hval h2
    · rw [h3]; exact Nat.zero_le _
    · cases hh : M.1.has
      · rw [h4 hh]; exact Nat.zero_le _
      · exact hval hh
theorem nz_no16 : nz no16 = [] := by decide
theorem mask_no16 : maskT no16 16 = 0 := by decide
theorem nz_one16 {k : Int} (h : k ≠ 0) : nz (no16.set 0 k) = [k] := by
  show List.filter (fun k : Int => k != 0) (k :: List.replicate 15 0) = _
  rw [List.filter_cons_of_pos (by rw [bne_iff_ne]; exact h)]; rfl
theorem mask_one16 {k : Int} (h : k ≠ 0) : maskT (no16.set 0 k) 16 = 1 := by
  have e : ∀ j, j < 16 → (no16.set 0 k).getD j 0 = if j = 0 then k else 0 := by
    intro j hj
    match j, hj with
    | 0, _ => rfl
    | 1, _ => rfl
    | 2, _ => rfl
    | 3, _ => rfl
    | 4, _ => rfl
    | 5, _ => rfl
    | 6, _ => rfl
    | 7, _ => rfl
    | 8, _ => rfl
    | 9, _ => rfl
    | 10, _ => rfl
    | 11, _ => rfl
    | 12, _ => rfl
    | 13, _ => rfl
    | 14, _ => rfl
    | 15, _ => rfl
    | n + 16, h => exact absurd h (by omega)
  have : ∀ n, n < 16 → maskT (no16.set 0 k) (n + 1) = 1 := by
    intro n
    induction n with
    | zero => intro _; show 0 + (if (no16.set 0 k).getD 0 0 = 0 then 0 else 2 ^ 0) = 1; rw [e 0 (by omega), if_pos rfl, if_neg h]
    | succ n ih =>
      intro hn
      show maskT (no16.set 0 k) (n + 1) + (if (no16.set 0 k).getD (n + 1) 0 = 0 then 0 else 2 ^ (n + 1)) = 1
      rw [ih (by omega), e (n + 1) hn, if_neg (Nat.succ_ne_zero n), if_pos rfl]
  exact this 15 (by omega)
/-- An Item of a trie's node may be, if its children's hashes are as long as they should be. -/
theorem item_good {m : Nd} {hs : List Bt} (hk : m.kids.length = 16) (hS : Shape m) (hp : goodB m.path = true) (hv : m.val.length ≤ 16) (hh : ∀ x ∈ nz m.kids, (hs.getD x.toNat []).length = 32) : No.goodI (itW m hs) = true := by
  rw [No.goodI_iff]
  have H : ∀ h ∈ kidH hs m.kids, h.length = 32 := fun h hm => by
    obtain ⟨x, hx, rfl⟩ := List.mem_map.1 hm
    exact hh x hx
  obtain ⟨kind, path, has, val, kids⟩ := m
  rcases hS with ⟨h1, h2, h3⟩ | ⟨h1, h2, h3, h4, k, hk0, h5⟩ | ⟨h1, h2, h3, h4, h5⟩
  · have h1 : kind = 1 := h1
    have h2 : has = true := h2
    have h3 : kids = no16 := h3
    subst h1 h2 h3
    unfold itW kidH
    rw [mask_no16, nz_no16]
    exact .leaf path val hp hv
  · have h1 : kind = 2 := h1
    have h2 : has = false := h2
    have h3 : val = [] := h3
    have h5 : kids = no16.set 0 k := h5
    subst h1 h2 h3 h5
    have hH := H
    unfold itW kidH at *
    simp only at *
    rw [mask_one16 hk0, nz_one16 hk0] at *
    exact .ext path _ hp h4 (H _ (by simp))
  · have h1 : kind = 3 := h1
    have h2 : path = [] := h2
    subst h1 h2
    have hb : maskT kids 16 < 65536 := maskT_lt kids 16
    have hl : (kidH hs kids).length = No.popN (maskT kids 16) := by rw [popN_mask hk]; exact List.length_map _
    refine .branch has val (maskT kids 16) _ hv h5 hb ?_ hl H
    rw [popN_mask hk]; exact h4
theorem hash_len {I : No.It} (h : No.goodI I = true) : (No.hashB I).length = 32 := by
  unfold No.hashB; rw [if_pos h]; exact Dg.ofL_length _
theorem good_at {t : List Nd} (R : Rt t) : ∀ (n i : Nat), t.length - i ≤ n → ∀ m, t[i]? = some m → No.goodI (itW m (HL t)) = true
  | 0, i, h, m, hm => by have := (List.getElem?_eq_some_iff.1 hm).1; omega
  | n + 1, i, h, m, hm => by
    have hmem := List.mem_of_getElem? hm
    refine item_good (R.k16 m hmem) (R.shape m hmem) (R.half m hmem) (R.val m hmem) fun x hx => ?_
    obtain ⟨j, rfl, hj, hjl⟩ := R.kd.kid i m hm x hx
    have hmj := List.getElem?_eq_getElem hjl
    rw [Int.toNat_natCast, getD_some (HL_at R.kd hmj)]
    exact hash_len (good_at R n j (by omega) _ hmj)
theorem Rt.good {t : List Nd} (R : Rt t) {i : Nat} {m : Nd} (hm : t[i]? = some m) : No.goodI (itW m (HL t)) = true := good_at R _ i (Nat.le_refl _) m hm
theorem Rt.len {t : List Nd} (R : Rt t) {i : Nat} (hi : i < t.length) : ((HL t).getD i []).length = 32 := by
  rw [getD_some (HL_at R.kd (List.getElem?_eq_getElem hi))]
  exact hash_len (R.good (List.getElem?_eq_getElem hi))
theorem Rt.hash {t : List Nd} (R : Rt t) {i : Nat} {m : Nd} (hm : t[i]? = some m) : (HL t).getD i [] = Dg.ofL (No.encL (itW m (HL t))) := by
  rw [getD_some (HL_at R.kd hm)]
  unfold No.hashB; rw [if_pos (R.good hm)]
/-- A node's Item by its children's hashes alone. -/
theorem Rt.part {t : List Nd} (R : Rt t) {i b : Nat} {m : Nd} (hm : t[i]? = some m) (hb : ∀ x ∈ nz m.kids, x < (b : Int)) : itW m (partL t (i + 1) b) = itW m (HL t) := by
  refine itW_congr fun x hx => ?_
  have := hb x hx
  obtain ⟨j, rfl, hj, hjl⟩ := R.kd.kid i m hm x hx
  rw [Int.toNat_natCast]
  exact partL_in t hjl (by omega) (by omega)

/-- The greatest of the first so many. -/
def maxT (ks : List Int) : Nat → Int
  | 0 => ks.getD 0 0
  | k + 1 => max (maxT ks k) (ks.getD k 0)
def maxK (ks : List Int) : Int := maxT ks 16
theorem maxT_ge (ks : List Int) : ∀ k c, c < k → ks.getD c 0 ≤ maxT ks k
  | 0, _, h => absurd h (by omega)
  | k + 1, c, h => by
    show _ ≤ max (maxT ks k) (ks.getD k 0)
    rcases Nat.lt_or_ge c k with h1 | h1
    · have := maxT_ge ks k c h1; omega
    · obtain rfl : c = k := by omega
      omega
theorem maxT_one (ks : List Int) : maxT ks 1 = ks.getD 0 0 := by show max (ks.getD 0 0) (ks.getD 0 0) = _; omega
theorem maxT_mem (ks : List Int) (h : 0 < ks.length) : ∀ k, k ≤ ks.length → ∃ c : Nat, ks[c]? = some (maxT ks k)
  | 0, _ => ⟨0, by show _ = some (ks.getD 0 0); rw [List.getD_eq_getElem?_getD, List.getElem?_eq_getElem h]; rfl⟩
  | k + 1, hk => by
    show ∃ c : Nat, ks[c]? = some (max (maxT ks k) (ks.getD k 0))
    obtain ⟨c, hc⟩ := maxT_mem ks h k (by omega)
    rcases Int.le_total (maxT ks k) (ks.getD k 0) with h1 | h1
    · rw [Int.max_eq_right h1]
      exact ⟨k, by rw [List.getD_eq_getElem?_getD, List.getElem?_eq_getElem (show k < ks.length by omega)]; rfl⟩
    · rw [Int.max_eq_left h1]; exact ⟨c, hc⟩
/-- From a node to its last child, and on to the last node beneath it. -/
inductive Chn (t : List Nd) : Nat → Nat → Prop
  | stop {i : Nat} {m : Nd} (hm : t[i]? = some m) (h : maxK m.kids = 0) : Chn t i i
  | step {i j L : Nat} {m : Nd} (hm : t[i]? = some m) (h : maxK m.kids = (j : Int)) (hj : i < j) (hc : Chn t j L) : Chn t i L
theorem Chn.lt {t : List Nd} {i L : Nat} (h : Chn t i L) : i ≤ L ∧ L < t.length := by
  induction h with
  | stop hm _ => exact ⟨Nat.le_refl _, (List.getElem?_eq_some_iff.1 hm).1⟩
  | step _ _ hj _ ih => exact ⟨by omega, ih.2⟩
theorem max_way {t : List Nd} (R : Rt t) {i : Nat} {m : Nd} (hm : t[i]? = some m) : (maxK m.kids = 0 ∧ nz m.kids = []) ∨ ∃ j : Nat, maxK m.kids = (j : Int) ∧ i < j ∧ j < t.length ∧ (j : Int) ∈ nz m.kids := by
  have hk := R.k16 m (List.mem_of_getElem? hm)
  obtain ⟨c, hc⟩ := maxT_mem m.kids (by omega) 16 (by omega)
  by_cases h0 : maxK m.kids = 0
  · refine .inl ⟨h0, ?_⟩
    cases e : nz m.kids with
    | nil => rfl
    | cons x r =>
      have hx : x ∈ nz m.kids := by rw [e]; exact List.mem_cons_self
      obtain ⟨j, rfl, hj, _⟩ := R.kd.kid i m hm x hx
      obtain ⟨d, hd⟩ := List.getElem?_of_mem (mem_nz.1 hx).1
      have := maxT_ge m.kids 16 d (by have := (List.getElem?_eq_some_iff.1 hd).1; omega)
      rw [getD_some hd] at this
      have h1 : maxT m.kids 16 = 0 := h0
      omega
  · have hx : maxK m.kids ∈ nz m.kids := mem_nz.2 ⟨List.mem_of_getElem? hc, h0⟩
    obtain ⟨j, e, hj, hjl⟩ := R.kd.kid i m hm _ hx
    exact .inr ⟨j, e, hj, hjl, by rw [← e]; exact hx⟩
theorem chn_ex {t : List Nd} (R : Rt t) : ∀ (n i : Nat), t.length - i ≤ n → i < t.length → ∃ L, Chn t i L
  | 0, i, h, hi => absurd h (by omega)
  | n + 1, i, h, hi => by
    have hm := List.getElem?_eq_getElem hi
    rcases max_way R hm with ⟨h0, _⟩ | ⟨j, e, hj, hjl, _⟩
    · exact ⟨i, .stop hm h0⟩
    · obtain ⟨L, hL⟩ := chn_ex R n j (by omega) hjl
      exact ⟨L, .step hm e hj hL⟩

/-- An Ext's child stands right behind it. -/
def En (b : Nat) (t : List NP) : Prop := ∀ i m, t[i]? = some m → m.1.kind = 2 → m.1.kids = no16.set 0 ((b + i + 1 : Nat) : Int)
theorem En.nil (b : Nat) : En b [] := fun i m hm => by simp at hm
theorem En.append {b : Nat} {s t : List NP} (h : En b s) (k : En (b + s.length) t) : En b (s ++ t) := fun i m hm h2 => by
  rcases Nat.lt_or_ge i s.length with hi | hi
  · rw [List.getElem?_append_left hi] at hm; exact h i m hm h2
  · rw [List.getElem?_append_right hi] at hm
    have := k _ m hm h2
    rw [this]
    congr 2; omega
theorem en_kids (G : List Pr → Nat → List NP) (hG : ∀ l b, En b (G l b)) (gs : Nat → List Pr) (b : Nat) : ∀ h, En b (kidsW G gs b h).2
  | 0 => En.nil b
  | h + 1 => by
    show En b (if gs h = [] then kidsW G gs b h else _).2
    split
    · exact en_kids G hG gs b h
    · exact (en_kids G hG gs b h).append (hG _ _)
theorem en_fork (G : List Pr → Nat → List NP) (hG : ∀ l b, En b (G l b)) (l : List Pr) (n b : Nat) : En b (forkW G l n b) := by
  intro i m hm h2
  cases i with
  | zero =>
    have e : m = (brN (endsB l n) (headV l n) (kidsW G (fun h => grp (restL l n) n h) (b + 1) 16).1, headP l n) := (Option.some.inj hm).symm
    subst e
    exact absurd h2 (by show ¬ ((3 : Int) = 2); decide)
  | succ i =>
    have := en_kids G hG (fun h => grp (restL l n) n h) (b + 1) 16 i m hm h2
    rw [this]; congr 2; omega
theorem en_grow : ∀ (f : Nat) (l : List Pr) (n b : Nat), En b (grow f l n b)
  | 0, _, _, b => En.nil b
  | f + 1, l, n, b => by
    unfold grow
    split
    · exact En.nil b
    split
    · intro i m hm h2
      cases i with
      | zero =>
        have e := (Option.some.inj hm).symm
        subst e
        exact absurd h2 (by show ¬ ((1 : Int) = 2); decide)
      | succ i => simp at hm
    split
    · exact en_fork _ (fun l b => en_grow f l _ b) l n b
    · intro i m hm h2
      cases i with
      | zero =>
        have e := (Option.some.inj hm).symm
        subst e
        rfl
      | succ i =>
        have := en_fork _ (fun g b' => en_grow f g (n + comG l n + 1) b') l (n + comG l n) (b + 1) i m hm h2
        rw [this]; congr 2; omega

theorem rise_at {T : List NP} (S : Sh T) {i j : Nat} {a b : NP} (ha : T[i]? = some a) (hb : T[j]? = some b) (h : i < j) : ltL a.2 b.2 := by
  obtain ⟨hi, rfl⟩ := List.getElem?_eq_some_iff.1 ha
  obtain ⟨hj, rfl⟩ := List.getElem?_eq_some_iff.1 hb
  exact List.pairwise_iff_getElem.1 S.rise i j hi hj h
/-- Of all from a node to the last one beneath it the children are among them. -/
theorem chn_in {T : List NP} (S : Sh T) (E : En 0 T) (hk : ∀ m ∈ T.map (·.1), m.kids.length = 16) {i L : Nat} (h : Chn (T.map (·.1)) i L) : ∀ a M, i ≤ a → a ≤ L → T[a]? = some M → ∀ x ∈ nz M.1.kids, x ≤ (L : Int) := by
  induction h with
  | @stop i m hm h0 =>
    intro a M h1 h2 hM x hx
    obtain rfl : a = i := by omega
    rw [List.getElem?_map, hM] at hm
    have e : M.1 = m := Option.some.inj hm
    obtain ⟨hk1, h0'⟩ := mem_nz.1 hx
    obtain ⟨c, hc⟩ := List.getElem?_of_mem hk1
    have := maxT_ge M.1.kids 16 c (by have := (List.getElem?_eq_some_iff.1 hc).1; have := hk M.1 (List.mem_map.2 ⟨M, List.mem_of_getElem? hM, rfl⟩); omega)
    rw [getD_some hc] at this
    have h1 : maxT M.1.kids 16 = 0 := by rw [e]; exact h0
    obtain ⟨j, m', rfl, hj, _⟩ := sh_kid S hM hc h0'
    omega
  | @step i j L m hm hmx hij hc ih =>
    intro a M h1 h2 hM x hx
    have hjL := hc.lt
    rw [List.getElem?_map] at hm
    obtain ⟨Mi, hMi, rfl⟩ := Option.map_eq_some_iff.1 hm
    obtain ⟨hk1, h0⟩ := mem_nz.1 hx
    obtain ⟨c, hcx⟩ := List.getElem?_of_mem hk1
    rcases Nat.lt_or_ge a j with haj | haj
    · by_cases hai : a = i
      · subst hai
        rw [hMi] at hM
        obtain rfl : Mi = M := Option.some.inj hM
        have := maxT_ge Mi.1.kids 16 c (by have := (List.getElem?_eq_some_iff.1 hcx).1; have := hk Mi.1 (List.mem_map.2 ⟨Mi, List.mem_of_getElem? hMi, rfl⟩); omega)
        rw [getD_some hcx] at this
        have h3 : maxT Mi.1.kids 16 = (j : Int) := hmx
        omega
      · obtain ⟨j', m', rfl, hj', hjl', hm', hway⟩ := sh_kid S hM hcx h0
        refine Int.not_lt.1 fun hlt => ?_
        have hlt : L < j' := by omega
        obtain ⟨Mj, hMj⟩ : ∃ Mj, T[j]? = some Mj := ⟨T[j]'(by have := hjL.2; rw [List.length_map] at this; omega), List.getElem?_eq_getElem _⟩
        have r1 := rise_at S hMi hM (show i < a by omega)
        have r2 := rise_at S hM hMj haj
        have r3 := rise_at S hMj hm' (show j < j' by omega)
        have hpre : M.2 <+: m'.2 := by
          rcases hway with ⟨_, _, _, e⟩ | ⟨_, e⟩
          · rw [e]; exact List.prefix_append _ _
          · rw [e, List.append_assoc]; exact List.prefix_append _ _
        have hp := ltL_between M.2 r2 r3 (List.prefix_refl _) hpre
        obtain ⟨d, hd⟩ := maxT_mem Mi.1.kids (by have := hk Mi.1 (List.mem_map.2 ⟨Mi, List.mem_of_getElem? hMi, rfl⟩); omega) 16 (by have := hk Mi.1 (List.mem_map.2 ⟨Mi, List.mem_of_getElem? hMi, rfl⟩); omega)
        have hmx' : maxT Mi.1.kids 16 = (j : Int) := hmx
        rw [hmx'] at hd
        obtain ⟨j2, mj2, e2, hj2, _, hmj2, hway2⟩ := sh_kid S hMi hd (by omega)
        obtain rfl : j2 = j := by omega
        rw [hMj] at hmj2
        obtain rfl : Mj = mj2 := Option.some.inj hmj2
        rcases hway2 with ⟨k2, hd0, _, _⟩ | ⟨k3, e3⟩
        · have := E i Mi hMi k2
          rw [this, hd0] at hd
          have h5 : some ((0 + i + 1 : Nat) : Int) = some ((j2 : Nat) : Int) := hd
          have := Option.some.inj h5
          omega
        · have hpath : Mi.1.path = [] := by
            rcases S.shape Mi (List.mem_of_getElem? hMi) with ⟨h1, _⟩ | ⟨h1, _⟩ | ⟨_, h2, _⟩
            · rw [k3] at h1; exact absurd h1 (by decide)
            · rw [k3] at h1; exact absurd h1 (by decide)
            · exact h2
          rw [hpath, List.append_nil] at e3
          rw [e3] at hp r2
          rcases List.prefix_concat_iff.1 hp with e | e
          · rw [e] at r2; exact ltL_irrefl _ r2
          · obtain ⟨r, hr⟩ := e
            by_cases hr0 : r = []
            · rw [hr0, List.append_nil] at hr
              rw [hr] at r1; exact ltL_irrefl _ r1
            · have := ltL_prefix M.2 hr0
              rw [hr] at this
              exact ltL_irrefl _ (ltL_trans this r1)
    · exact ih a M haj h2 hM x hx

end Go.Proofs.YtjikdbmdaeonlaaDoor
namespace Go.Proofs.YtjikdbmdaeonlaaDoor
open Go.RowKit
set_option maxRecDepth 20000

def stA (l : List Bt) : Array Value := (l.map fun b => Value.string (bs b)).toArray
theorem stA_size (l : List Bt) : (stA l).size = l.length := by unfold stA; simp
theorem stA_get {l : List Bt} {i : Nat} {b : Bt} (h : l[i]? = some b) : (stA l)[i]? = some (.string (bs b)) := by unfold stA; simp [h]
theorem stA_set (l : List Bt) (i : Nat) (b : Bt) : (stA l).setIfInBounds i (.string (bs b)) = stA (l.set i b) := by unfold stA; simp [List.map_set]
theorem stA_one (l : List Bt) : (stA l).all (·.oneCell') = true := by unfold stA; simp [Value.oneCell']
theorem info77 : (Tryd.prog.info? 77).map (fun i => (i.zero, i.size, i.bytes)) = some (some (.agg (stA (List.replicate 16 []))), 16, 256) := by kernel_rfl
theorem i77 : (Tryd.prog.info? 77).map (·.size) = some 16 := by kernel_rfl
theorem i53 : (Tryd.prog.info? 53).map (·.size) = some 16 := by kernel_rfl
/-- The hashes of the children by nibble, nothing where there is none; up to a nibble. -/
def kid16 (ks : List Int) (hs : List Bt) (k : Nat) : List Bt := ((ks.take k).map fun x => if x = 0 then [] else hs.getD x.toNat []) ++ List.replicate (16 - k) []
theorem kid16_len {ks : List Int} (h : ks.length = 16) (hs : List Bt) {k : Nat} (hk : k ≤ 16) : (kid16 ks hs k).length = 16 := by
  unfold kid16; rw [List.length_append, List.length_map, List.length_take, List.length_replicate]; omega
theorem kid16_next {ks : List Int} (h : ks.length = 16) (hs : List Bt) {k : Nat} {x : Int} (hk : k < 16) (hx : ks[k]? = some x) : (kid16 ks hs k).set k (if x = 0 then [] else hs.getD x.toNat []) = kid16 ks hs (k + 1) := by
  unfold kid16
  rw [List.take_add_one, hx]
  have hl : ((ks.take k).map fun x => if x = 0 then [] else hs.getD x.toNat ([] : Bt)).length = k := by rw [List.length_map, List.length_take]; omega
  rw [List.set_append_right _ _ (by omega), hl, Nat.sub_self, show 16 - k = (16 - (k + 1)) + 1 by omega, List.replicate_succ, List.set_cons_zero]
  simp
theorem kid16_zero {ks : List Int} (h : ks.length = 16) (hs : List Bt) {k : Nat} (hk : k < 16) (hx : ks[k]? = some 0) : kid16 ks hs (k + 1) = kid16 ks hs k := by
  rw [← kid16_next h hs hk hx, if_pos rfl]
  have hl : ((ks.take k).map fun x => if x = 0 then [] else hs.getD x.toNat ([] : Bt)).length = k := by rw [List.length_map, List.length_take]; omega
  have : (kid16 ks hs k)[k]? = some [] := by
    unfold kid16
    rw [List.getElem?_append_right (by omega), hl, Nat.sub_self, List.getElem?_replicate, if_pos (by omega)]
  exact set_same this
theorem kid16_at {ks : List Int} {hs : List Bt} {c : Nat} {x : Int} (hx : ks[c]? = some x) (hc : c < 16) : (kid16 ks hs 16)[c]? = some (if x = 0 then [] else hs.getD x.toNat []) := by
  unfold kid16
  have hl : c < ((ks.take 16).map fun x => if x = 0 then [] else hs.getD x.toNat ([] : Bt)).length := by
    rw [List.length_map, List.length_take]
    have := (List.getElem?_eq_some_iff.1 hx).1; omega
  rw [List.getElem?_append_left hl, List.getElem?_map, List.getElem?_take, if_pos hc, hx]; rfl
theorem nd_kids {w : World} {g : Nat} {m : Nd} {t : TypeId} (R : Row w g (ndA m) t) (hk : m.kids.length = 16) : w.rangeAt g 4 (m.kids.map (Value.int .i64)) := by
  have h := R.range 4 16
  have e : ((ndA m).toList.drop 4).take 16 = m.kids.map (Value.int .i64) := by
    unfold ndA ndC
    simp only [List.drop_succ_cons, List.drop_zero]
    rw [List.take_of_length_le]; rw [List.length_map]; omega
  rw [e] at h; exact h

set_option maxHeartbeats 4000000 in
theorem childHashes_any {w : World} {m : Nd} {v : Value} {hs : List Bt} (hk : m.kids.length = 16) (P : Ls w 1 v (hs.map txC)) (hin : ∀ x ∈ nz m.kids, ∃ j : Nat, x = (j : Int) ∧ j < hs.length) :
    Calls Tryd.prog 52 #[.agg (ndA m), v] w fun e w' => e = .returned (.agg (stA (kid16 m.kids hs 16))) ∧ New w w' := by
  obtain ⟨a, c, rfl, hc, HS⟩ := P.open []
  have HIN : Hid (∀ x ∈ nz m.kids, ∃ j : Nat, x = (j : Int) ∧ j < hs.length) := hin
  have HK : Hid (m.kids.length = 16) := hk
  have hnA : (ndA m).size = 20 := ndA_size hk
  clear P hin
  go_enter Tryd.func52, Tryd.ntmps52
  go_wp2_with (first
    | (refine wpList_box_at (by rfl) 2 (by rfl) 55 _ (by rfl) (ndA m) (by rfl) ?_; intro W1 R1 N1)
    | (refine wpList_alloc_at (by rfl) 4 (by rfl) 77 (by rfl) _ _ _ info77 ?_; intro W2 R2 N2)
    | (refine wpList_alloc_at (by rfl) 5 (by rfl) 77 (by rfl) _ _ _ info77 ?_; intro W3 R3 N3; have r1 := nd_kids ((R1.after N2).after N3) hk)
    | refine wpList_load_mid (by rfl) 53 _ (by rfl) w.heap.size 4 (by rfl) (m.kids.map (Value.int .i64)) _ r1 Tryd.underlying53 rfl (by rw [List.length_map, hk]; exact i53) ?_)
  have h1 : w.heap.size < W1.heap.size := R1.lt
  have h2 : W1.heap.size < W2.heap.size := R2.lt
  have HR2 : Hid (Row W3 W1.heap.size (stA (List.replicate 16 [])) 77) := R2.after N3
  have HR3 : Hid (Row W3 W2.heap.size (stA (kid16 m.kids hs 0)) 77) := R3
  have N : New w W3 := (N1.trans N2).trans N3
  clear R1 R2 R3 N1 N2 N3 r1
  generalize W1.heap.size = GA at *
  generalize W2.heap.size = GB at *
  go_loopw [10] (fun i wr => ∃ k : Nat, k ≤ 16 ∧ i = .int .i64 (k : Int) ∧ Hid (Row wr GB (stA (kid16 m.kids hs k)) 77) ∧ Hid (Row wr GA (stA (List.replicate 16 [])) 77) ∧ New w wr) (fun i _ => 16 - (intOf i).toNat)
  case atStart => exact ⟨0, by omega, rfl, HR3.out, HR2.out, N⟩
  case round =>
    clear HR2 HR3 N
    obtain ⟨k, hk16, rfl, hRB, hRA, N⟩ := hrel
    by_cases hlt : k < 16
    · obtain ⟨x, hx⟩ : ∃ x, m.kids[k]? = some x := ⟨m.kids[k]'(by omega), List.getElem?_eq_getElem (by omega)⟩
      have hidx := fun w => run_index47 w (m.kids.map (Value.int .i64)) k (.int .i64 x) (by rw [List.getElem?_map, hx]; rfl) hlt
      by_cases h0 : x = 0
      · subst h0
        have hxb : ((0 : Int) != 0) = false := rfl
        have HZ : Hid (kid16 m.kids hs (k + 1) = kid16 m.kids hs k) := kid16_zero hk hs hlt hx
        clear hx
        go_wp2_with fail
        exact ⟨⟨k + 1, by omega, by go_num, by show Row _ _ _ _; rw [HZ.out]; exact hRB.out, hRA.out, N⟩, by simp [intOf]; omega⟩
      · obtain ⟨j, rfl, hj⟩ := HIN.out x (mem_nz.2 ⟨List.mem_of_getElem? hx, h0⟩)
        have hxb : ((j : Int) != 0) = true := by rw [bne_iff_ne]; exact h0
        obtain ⟨g, o, rfl, hg, hr⟩ := HS.out (by omega)
        have c0 : wr.cell? ⟨g, o + j, none⟩ = some (.string (bs (hs.getD j []))) := by
          have := hr wr N j hj 0 (.string (bs (hs.getD j []))) rfl
          rw [Nat.mul_one] at this; exact this
        have y0 : wr.cell? ⟨GB, k, none⟩ = some (.string (bs ((kid16 m.kids hs k).getD k []))) := hRB.out.has k (stA_get (by
          rw [List.getD_eq_getElem?_getD, List.getElem?_eq_getElem (by rw [kid16_len hk hs hk16]; exact hlt)]; rfl))
        have f0 := hRB.out.frozen k
        have hjn : (j : Int) < (hs.length : Int) := by omega
        have hk16' : (k : Int) < 16 := by omega
        have HN : Hid (Row (wr.setCell ⟨GB, k, none⟩ (.string (bs (hs.getD j [])))) GB (stA (kid16 m.kids hs (k + 1))) 77) := by
          have := hRB.out.set k (.string (bs (hs.getD j [])))
          rw [stA_set] at this
          have e := kid16_next hk hs hlt hx
          rw [if_neg h0, Int.toNat_natCast] at e
          rw [e] at this
          exact this
        have HA : Hid (Row (wr.setCell ⟨GB, k, none⟩ (.string (bs (hs.getD j [])))) GA (stA (List.replicate 16 [])) 77) := hRA.out.of (Below.heap_setCell _ _ _ _ (by show GA ≠ GB; omega))
        have N9 : New w (wr.setCell ⟨GB, k, none⟩ (.string (bs (hs.getD j [])))) := N.setCell (a := ⟨GB, k, none⟩) (by show w.heap.size ≤ GB; omega) _
        clear hx h0 hr hRB hRA
        generalize bs (hs.getD j []) = s at *
        generalize bs ((kid16 m.kids hs k).getD k []) = s0 at *
        go_wp2_with fail
        exact ⟨⟨k + 1, by omega, by go_num, HN.out, HA.out, N9⟩, by simp [intOf]; omega⟩
    · obtain rfl : k = 16 := by omega
      have RB : Row wr GB (stA (kid16 m.kids hs 16)) 77 := hRB.out
      have RA : Row wr GA (stA (List.replicate 16 [])) 77 := hRA.out
      have hsz : (stA (kid16 m.kids hs 16)).size = 16 := by rw [stA_size]; exact kid16_len hk hs (Nat.le_refl _)
      go_wp2_with (first
        | refine wpList_load_row (by rfl) 77 _ (by rfl) GB (by rfl) 77 _ (0, 0) _ RB Tryd.underlying77 rfl (by rw [hsz]; exact i77) ?_
        | (refine wpList_store_new (by rfl) 77 _ _ (by rfl) GA (stA (kid16 m.kids hs 16)) (by rfl) (by rfl) 77 _ RA (by rw [hsz]; exact i77) (by rw [hsz]; rfl) (stA_one _) ?_; intro W9 R9 B9))
      exact bodyPost_ret (v := .agg (stA (kid16 m.kids hs 16))) (results_cell (by rfl) _ _ GA 77 _ (0, 0) _ (by rfl) R9 Tryd.underlying77 rfl (by rw [hsz]; exact i77)) rfl ⟨rfl, B9.new N (by omega)⟩

end Go.Proofs.YtjikdbmdaeonlaaDoor
namespace Go.Proofs.YtjikdbmdaeonlaaDoor.No
open Go.RowKit
set_option maxRecDepth 20000
set_option linter.unusedVariables false

theorem hide {p : Prop} (h : p) : Hid p := h
def allH (hs : List (List UInt8)) : Bool := hs.all fun h => decide (h.length = 32)
theorem goodH_all (hs : List (List UInt8)) (n : Nat) : goodH hs n = (decide (hs.length = n) && allH hs) := rfl
theorem rgood_h (I : It) (h : allH I.hs = false) : goodI I = false := by
  have h1 : ∀ n, goodH I.hs n = false := fun n => by rw [goodH_all, h, Bool.and_false]
  have h2 : goodLf I = false := by
    unfold goodLf
    cases hh : decide (I.hs.length = 0)
    · simp
    · have := of_decide_eq_true hh
      rw [List.length_eq_zero_iff] at this
      rw [this] at h
      cases h
  unfold goodI goodEx goodBr
  simp only [h1, h2, Bool.and_false]
  split <;> first | rfl | (split <;> first | rfl | (split <;> rfl))
theorem rgood_v (I : It) (h : goodV I = false) : goodI I = false := by
  have h3 : goodEx I = false := by
    unfold goodEx
    cases hh : I.has
    · cases he : emptyB I.v
      · simp
      · unfold goodV at h
        have := emptyB_true.1 he
        rw [hh, he, this] at h
        cases h
    · simp
  unfold goodI goodLf goodBr
  simp only [h, h3, Bool.and_false, Bool.false_and]
  split <;> first | rfl | (split <;> first | rfl | (split <;> rfl))
theorem rgood_1 (I : It) (hk : I.k = 1) (h1 : allH I.hs = true) (h2 : goodV I = true) : goodI I = (goodB I.p && (I.has && (decide (I.m = 0) && decide (I.hs.length = 0)))) := by
  unfold goodI goodLf
  rw [if_pos hk, h2, Bool.true_and]
theorem rgood_2 (I : It) (hk : I.k = 2) (h1 : allH I.hs = true) (h2 : goodV I = true) : goodI I = (goodB I.p && (!emptyB I.p && (!I.has && (decide (I.m = 1) && decide (I.hs.length = 1))))) := by
  unfold goodI goodEx
  rw [if_neg (by rw [hk]; decide), if_pos hk, goodH_all, h1, Bool.and_true]
  cases hh : I.has
  · have he : emptyB I.v = true := by
      unfold goodV at h2
      rw [hh] at h2
      simpa using (Bool.and_eq_true _ _ ▸ h2).2
    rw [he]
    cases emptyB I.p <;> cases goodB I.p <;> rfl
  · cases emptyB I.p <;> cases goodB I.p <;> rfl
theorem rgood_3 (I : It) (hk : I.k = 3) (h1 : allH I.hs = true) (h2 : goodV I = true) : goodI I = (emptyB I.p && (decide (0 ≤ I.m) && (decide (I.m ≤ 65535) && (decide (popN I.m.toNat = I.hs.length) && decide (2 ≤ I.hs.length + if I.has then 1 else 0))))) := by
  unfold goodI goodBr leadsN
  rw [if_neg (by rw [hk]; decide), if_neg (by rw [hk]; decide), if_pos hk, goodH_all, h1, h2, Bool.and_true, Bool.true_and]
  by_cases h : I.hs.length = popN I.m.toNat
  · rw [h, decide_eq_true rfl]
    simp
  · rw [decide_eq_false h, decide_eq_false (show ¬ popN I.m.toNat = I.hs.length from fun e => h e.symm)]
    simp
theorem rgood_0 (I : It) (h1 : I.k ≠ 1) (h2 : I.k ≠ 2) (h3 : I.k ≠ 3) : goodI I = false := by
  unfold goodI
  rw [if_neg h1, if_neg h2, if_neg h3]

set_option maxHeartbeats 8000000 in
theorem rGood_any (I : It) (hS : Small I) (a : Option Addr) (c : Nat) (w : World) (hT : Tx w a I.hs) :
    Calls Tryd.prog 59 #[itV I a c] w fun e w' => e = .returned (.bool (goodI I)) ∧ New w w' := by
  have HF0 : Hid (allH I.hs = false → goodI I = false) := rgood_h I
  have HFv : Hid (goodV I = false → goodI I = false) := rgood_v I
  have HF1 := hide (rgood_1 I)
  have HF2 := hide (rgood_2 I)
  have HF3 := hide (rgood_3 I)
  have HFk := hide (rgood_0 I)
  have HVV : Hid (goodV I = (decide (I.v.length ≤ 16) && (I.has || emptyB I.v))) := rfl
  have HP : ∀ w, Calls Tryd.prog 78 #[.string (bs I.p)] w fun e w' => e = .returned (.bool (goodB I.p)) ∧ w' = w := refGood_any (bs I.p) hS.p
  have hp4 : (bs I.p).size ≤ 4000 := hS.p
  have hv4 : (bs I.v).size ≤ 4000 := hS.v
  have hn4 := hS.n
  have H4 := hide hS.h
  obtain ⟨k, p, has, v, m, hs⟩ := I
  simp only at HF0 HFv HF1 HF2 HF3 HFk HVV HP hp4 hv4 hn4 H4
  generalize goodI ⟨k, p, has, v, m, hs⟩ = g at *
  generalize goodV ⟨k, p, has, v, m, hs⟩ = gv at *
  obtain ⟨b1, hb1⟩ : ∃ b, goodB p = b := ⟨_, rfl⟩
  obtain ⟨b0, hb0⟩ : ∃ b, emptyB p = b := ⟨_, rfl⟩
  obtain ⟨bl, hbl⟩ : ∃ b, decide (v.length ≤ 16) = b := ⟨_, rfl⟩
  obtain ⟨be, hbe⟩ : ∃ b, emptyB v = b := ⟨_, rfl⟩
  rw [hb1] at HP HF1 HF2
  rw [hb0] at HF2 HF3
  rw [hbl, hbe] at HVV
  have e01 : (bs p).toList.isEmpty = b0 := by rw [← hb0]; exact isEmpty_bs p
  have e02 : ((bs p).toList == []) = b0 := by rw [← hb0]; exact beq_nil_bs p
  have e03 : ((bs p).toList != []) = !b0 := by rw [← hb0]; exact bne_nil_bs p
  have e04 : decide (1 ≤ ((bs p).size : Int)) = !b0 := by
    rw [← hb0, bs_size]
    unfold emptyB
    by_cases h : p.length = 0
    · rw [decide_eq_true h, decide_eq_false (by omega)]; rfl
    · rw [decide_eq_false h, decide_eq_true (by omega)]; rfl
  have e05 : decide (1 ≤ (bs p).size) = !b0 := by rw [← e04]; exact decide_eq_decide.2 (by omega)
  have e21 : (bs v).toList.isEmpty = be := by rw [← hbe]; exact isEmpty_bs v
  have e22 : ((bs v).toList == []) = be := by rw [← hbe]; exact beq_nil_bs v
  have e23 : ((bs v).toList != []) = !be := by rw [← hbe]; exact bne_nil_bs v
  have e3 : decide ((16 : Int) < ((bs v).size : Int)) = !bl := by
    rw [← hbl, bs_size]
    by_cases h : v.length ≤ 16
    · rw [decide_eq_true h, decide_eq_false (by omega)]; rfl
    · rw [decide_eq_false h, decide_eq_true (by omega)]; rfl
  have e3' : decide (16 < (bs v).size) = !bl := by rw [← e3]; exact decide_eq_decide.2 (by omega)
  obtain ⟨bz, hbz⟩ : ∃ b, decide (hs.length = 0) = b := ⟨_, rfl⟩
  obtain ⟨bo, hbo⟩ : ∃ b, decide (hs.length = 1) = b := ⟨_, rfl⟩
  obtain ⟨m0, hm0⟩ : ∃ b, decide (m = 0) = b := ⟨_, rfl⟩
  obtain ⟨m1, hm1⟩ : ∃ b, decide (m = 1) = b := ⟨_, rfl⟩
  rw [hm0, hbz] at HF1
  rw [hm1, hbo] at HF2
  have ez : ((hs.length : Int) == 0) = bz := by rw [← hbz]; exact nat_beq hs.length 0
  have eo : ((hs.length : Int) == 1) = bo := by rw [← hbo]; exact nat_beq hs.length 1
  have em0 : (m == 0) = m0 := by rw [← hm0]; exact int_beq _ _
  have em1 : (m == 1) = m1 := by rw [← hm1]; exact int_beq _ _
  have HT : Hid (Tx w a hs) := hT
  clear hb1 hb0 hbl hbe hbz hbo hm0 hm1 hT hS
  show Calls Tryd.prog 59 #[.agg #[.int .i64 k, .string (bs p), .bool has, .string (bs v), .int .i64 m, .slice a hs.length c]] w _
  generalize bs p = sp at *
  generalize bs v = sv at *
  have R0 := Row.new w #[.int .i64 k, .string sp, .bool has, .string sv, .int .i64 m, .slice a hs.length c] 32
  have N0 : New w (w.alloc (.cells #[.int .i64 k, .string sp, .bool has, .string sv, .int .i64 m, .slice a hs.length c] 32)) := (New.refl w).alloc _
  go_enter Tryd.func59, Tryd.ntmps59
  go_wp2_with fail
  generalize w.alloc (.cells #[.int .i64 k, .string sp, .bool has, .string sv, .int .i64 m, .slice a hs.length c] 32) = W at *
  have c0 : W.cell? ⟨w.heap.size, 0, none⟩ = some (.int .i64 k) := R0.cell 0
  have c1 : W.cell? ⟨w.heap.size, 1, none⟩ = some (.string sp) := R0.cell 1
  have c2 : W.cell? ⟨w.heap.size, 2, none⟩ = some (.bool has) := R0.cell 2
  have c3 : W.cell? ⟨w.heap.size, 3, none⟩ = some (.string sv) := R0.cell 3
  have c4 : W.cell? ⟨w.heap.size, 4, none⟩ = some (.int .i64 m) := R0.cell 4
  have c5 : W.cell? ⟨w.heap.size, 5, none⟩ = some (.slice a hs.length c) := R0.cell 5
  have HTW := hide (HT.out.after N0)
  go_loop [3] (fun i => ∃ k : Nat, k ≤ hs.length ∧ i = .int .i64 (k : Int) ∧ ∀ (j : Nat) h, j < k → hs[j]? = some h → h.length = 32) (fun i => hs.length - (intOf i).toNat)
  case atStart => exact ⟨0, by omega, rfl, fun j h hj => absurd hj (by omega)⟩
  case round =>
    obtain ⟨n, hn, rfl, hall⟩ := hrel
    have HA : Hid (∀ (j : Nat) h, j < n → hs[j]? = some h → h.length = 32) := hall
    clear hall
    by_cases hlt : n < hs.length
    · have hlt' : (n : Int) < (hs.length : Int) := by omega
      obtain ⟨x, rfl, hx⟩ := HTW.out (by omega)
      have hk' : hs[n]? = some hs[n] := List.getElem?_eq_getElem hlt
      have hcell := hx n _ hk'
      have hsz : (bs hs[n]).size = hs[n].length := rfl
      have hb := H4.out _ (List.getElem_mem hlt)
      have HK : Hid (hs[n]? = some hs[n]) := hk'
      clear hx hk'
      by_cases h32 : hs[n].length = 32
      · have ht : (((bs hs[n]).size : Int) != 32) = false := by rw [bne_eq_false_iff_eq, hsz]; omega
        have HE : Hid (hs[n].length = 32) := h32
        rw [hsz] at ht
        clear h32
        generalize bs hs[n] = q at *
        go_wp2_with fail
        go_round
        case rel => exact ⟨n + 1, by omega, by go_num, fun j h hj hjh => by
          by_cases e : j = n
          · subst e; rw [HK.out] at hjh; cases hjh; exact HE.out
          · exact HA.out j h (by omega) hjh⟩
        case measure => simp [intOf]; omega
      · have ht : (((bs hs[n]).size : Int) != 32) = true := by rw [bne_iff_ne, hsz]; omega
        have HF : Hid (g = false) := by
          refine HF0.out ?_
          rw [Bool.eq_false_iff]
          intro h
          exact h32 (of_decide_eq_true (List.all_eq_true.1 h _ (List.getElem_mem hlt)))
        rw [hsz] at ht
        clear h32
        generalize bs hs[n] = q at *
        go_wp2_with fail
        go_ret
        exact ⟨ret_bool HF.out.symm, N0⟩
    · obtain rfl : n = hs.length := by omega
      have hA1 : allH hs = true := by
        unfold allH
        rw [List.all_eq_true]
        intro h hh
        obtain ⟨j, hj⟩ := List.getElem?_of_mem hh
        exact decide_eq_true (HA.out j h (List.getElem?_eq_some_iff.1 hj).1 hj)
      have HA1 := hide hA1
      clear hA1 HF0
      cases bl
      · have HF : Hid (g = false) := HFv.out HVV.out
        go_wp2_with fail
        go_ret
        exact ⟨ret_bool HF.out.symm, N0⟩
      · cases has
        · cases be
          · have HF : Hid (g = false) := HFv.out HVV.out
            go_wp2_with fail
            go_ret
            exact ⟨ret_bool HF.out.symm, N0⟩
          · have HG : Hid (gv = true) := HVV.out
            clear HVV HFv
            by_cases k1 : k = 1
            · have d1 : (k == 1) = true := by rw [int_beq]; exact decide_eq_true k1
              have HF := hide (HF1.out k1 HA1.out HG.out)
              clear k1 HF1 HF2 HF3 HFk
              cases b1
              all_goals
                go_wp2_with fail
                refine (HP _).mono ?_
                rintro _ _ ⟨rfl, rfl⟩
                go_wp2_with fail
                go_ret
                exact ⟨ret_bool HF.out.symm, N0⟩
            · have d1 : (k == 1) = false := by rw [int_beq]; exact decide_eq_false k1
              by_cases k2 : k = 2
              · have d2 : (k == 2) = true := by rw [int_beq]; exact decide_eq_true k2
                have HF := hide (HF2.out k2 HA1.out HG.out)
                clear k1 k2 HF1 HF2 HF3 HFk
                cases b1
                · skip
                  go_wp2_with fail
                  refine (HP _).mono ?_
                  rintro _ _ ⟨rfl, rfl⟩
                  go_wp2_with fail
                  go_ret
                  exact ⟨ret_bool HF.out.symm, N0⟩
                · cases b0
                  · cases m1
                    · skip
                      go_wp2_with fail
                      refine (HP _).mono ?_
                      rintro _ _ ⟨rfl, rfl⟩
                      go_wp2_with fail
                      go_ret
                      exact ⟨ret_bool HF.out.symm, N0⟩
                    · cases bo
                      all_goals
                        go_wp2_with fail
                        refine (HP _).mono ?_
                        rintro _ _ ⟨rfl, rfl⟩
                        go_wp2_with fail
                        go_ret
                        exact ⟨ret_bool HF.out.symm, N0⟩
                  · skip
                    go_wp2_with fail
                    refine (HP _).mono ?_
                    rintro _ _ ⟨rfl, rfl⟩
                    go_wp2_with fail
                    go_ret
                    exact ⟨ret_bool HF.out.symm, N0⟩
              · have d2 : (k == 2) = false := by rw [int_beq]; exact decide_eq_false k2
                by_cases k3 : k = 3
                · have d3 : (k == 3) = true := by rw [int_beq]; exact decide_eq_true k3
                  have HF := hide (HF3.out k3 HA1.out HG.out)
                  clear k1 k2 k3 HF1 HF2 HF3 HFk HP
                  obtain ⟨b8, hb8⟩ : ∃ b, decide (2 ≤ hs.length + 0) = b := ⟨_, rfl⟩
                  have d8 : decide (2 ≤ (hs.length : Int)) = b8 := by rw [← hb8]; exact decide_eq_decide.2 (by omega)
                  replace HF : Hid (g = (b0 && (decide (0 ≤ m) && (decide (m ≤ 65535) && (decide (popN m.toNat = hs.length) && b8))))) := by show _ = _; rw [HF.out, ← hb8]; rfl
                  clear hb8
                  have y1 : ∀ p : NewW W, p.v.cell? ⟨w.heap.size, 1, none⟩ = some (.string sp) := NewW.cell c1
                  have y4 : ∀ p : NewW W, p.v.cell? ⟨w.heap.size, 4, none⟩ = some (.int .i64 m) := NewW.cell c4
                  have y5 : ∀ p : NewW W, p.v.cell? ⟨w.heap.size, 5, none⟩ = some (.slice a hs.length c) := NewW.cell c5
                  have hne := NewW.ne W
                  by_cases hm1 : 0 ≤ m
                  · rw [decide_eq_true hm1] at HF
                    have x1 : decide (0 ≤ m) = true := decide_eq_true hm1
                    by_cases hm2 : m ≤ 65535
                    · rw [decide_eq_true hm2] at HF
                      have x2 : decide (m ≤ 65535) = true := decide_eq_true hm2
                      obtain ⟨u, rfl⟩ : ∃ u : Nat, m = (u : Int) := ⟨m.toNat, by omega⟩
                      rw [Int.toNat_natCast] at HF
                      obtain ⟨q, hq⟩ : ∃ q, popN u = q := ⟨_, rfl⟩
                      have HB : ∀ w, Calls Tryd.prog 79 #[.int .i64 (u : Int)] w fun e w' => e = .returned (.int .i64 (q : Int)) ∧ New w w' := fun w => by rw [← hq]; exact (bits_any u (by omega) w).mono fun e w' ⟨h1, h2⟩ => ⟨h1, by rw [h2]; exact New.refl w⟩
                      have hq16 : q ≤ 16 := by rw [← hq]; exact popN_le u
                      obtain ⟨b7, hb7⟩ : ∃ b, decide (q = hs.length) = b := ⟨_, rfl⟩
                      have x7 : ((q : Int) == (hs.length : Int)) = b7 := by rw [← hb7]; exact nat_beq _ _
                      rw [hq, hb7] at HF
                      clear hm1 hm2 hq hb7 em0 em1
                      cases b0
                      · skip
                        go_wp2_with fail
                        refine region_new W (New.refl W) (by kernel_rfl) (by kernel_rfl) ?_
                        repeat (go_big_quiet_step (first | (go_at_call 79; exact Calls.neww (HB _))))
                        refine wpQuiet_nil ?_
                        rintro w5 ⟨⟨_, k5⟩, rfl⟩
                        go_wp2_with fail
                        go_ret
                        exact ⟨ret_bool HF.out.symm, N0.trans k5⟩
                      · cases b7
                        · skip
                          go_wp2_with fail
                          refine region_new W (New.refl W) (by kernel_rfl) (by kernel_rfl) ?_
                          repeat (go_big_quiet_step (first | (go_at_call 79; exact Calls.neww (HB _))))
                          refine wpQuiet_nil ?_
                          rintro w5 ⟨⟨_, k5⟩, rfl⟩
                          go_wp2_with fail
                          go_ret
                          exact ⟨ret_bool HF.out.symm, N0.trans k5⟩
                        · cases b8
                          all_goals
                            go_wp2_with fail
                            refine region_new W (New.refl W) (by kernel_rfl) (by kernel_rfl) ?_
                            repeat (go_big_quiet_step (first | (go_at_call 79; exact Calls.neww (HB _))))
                            refine wpQuiet_nil ?_
                            rintro w5 ⟨⟨_, k5⟩, rfl⟩
                            go_wp2_with fail
                            go_ret
                            exact ⟨ret_bool HF.out.symm, N0.trans k5⟩
                    · rw [decide_eq_false hm2] at HF
                      have x2 : decide (m ≤ 65535) = false := decide_eq_false hm2
                      have HB := bits_any 0 (by omega)
                      clear hm1 hm2
                      cases b0
                      all_goals
                        go_wp2_with fail
                        refine region_new W (New.refl W) (by kernel_rfl) (by kernel_rfl) ?_
                        repeat (go_big_quiet_step (fail))
                        refine wpQuiet_nil ?_
                        rintro w5 ⟨⟨_, k5⟩, rfl⟩
                        go_wp2_with fail
                        go_ret
                        exact ⟨ret_bool HF.out.symm, N0.trans k5⟩
                  · rw [decide_eq_false hm1] at HF
                    have x1 : decide (0 ≤ m) = false := decide_eq_false hm1
                    clear hm1
                    cases b0
                    all_goals
                      go_wp2_with fail
                      refine region_new W (New.refl W) (by kernel_rfl) (by kernel_rfl) ?_
                      repeat (go_big_quiet_step (fail))
                      refine wpQuiet_nil ?_
                      rintro w5 ⟨⟨_, k5⟩, rfl⟩
                      go_wp2_with fail
                      go_ret
                      exact ⟨ret_bool HF.out.symm, N0.trans k5⟩
                · have d3 : (k == 3) = false := by rw [int_beq]; exact decide_eq_false k3
                  have HF := hide (HFk.out k1 k2 k3)
                  clear k1 k2 k3 HF1 HF2 HF3 HFk HP
                  go_wp2_with fail
                  go_ret
                  exact ⟨ret_bool HF.out.symm, N0⟩
        · have HG : Hid (gv = true) := by
            show _ = _
            rw [HVV.out]
            rfl
          clear HVV HFv
          by_cases k1 : k = 1
          · have d1 : (k == 1) = true := by rw [int_beq]; exact decide_eq_true k1
            have HF := hide (HF1.out k1 HA1.out HG.out)
            clear k1 HF1 HF2 HF3 HFk
            cases b1
            · skip
              go_wp2_with fail
              refine (HP _).mono ?_
              rintro _ _ ⟨rfl, rfl⟩
              go_wp2_with fail
              go_ret
              exact ⟨ret_bool HF.out.symm, N0⟩
            · cases m0
              · skip
                go_wp2_with fail
                refine (HP _).mono ?_
                rintro _ _ ⟨rfl, rfl⟩
                go_wp2_with fail
                go_ret
                exact ⟨ret_bool HF.out.symm, N0⟩
              · cases bz
                all_goals
                  go_wp2_with fail
                  refine (HP _).mono ?_
                  rintro _ _ ⟨rfl, rfl⟩
                  go_wp2_with fail
                  go_ret
                  exact ⟨ret_bool HF.out.symm, N0⟩
          · have d1 : (k == 1) = false := by rw [int_beq]; exact decide_eq_false k1
            by_cases k2 : k = 2
            · have d2 : (k == 2) = true := by rw [int_beq]; exact decide_eq_true k2
              have HF := hide (HF2.out k2 HA1.out HG.out)
              clear k1 k2 HF1 HF2 HF3 HFk
              cases b1
              · skip
                go_wp2_with fail
                refine (HP _).mono ?_
                rintro _ _ ⟨rfl, rfl⟩
                go_wp2_with fail
                go_ret
                exact ⟨ret_bool HF.out.symm, N0⟩
              · cases b0
                · skip
                  go_wp2_with fail
                  refine (HP _).mono ?_
                  rintro _ _ ⟨rfl, rfl⟩
                  go_wp2_with fail
                  go_ret
                  exact ⟨ret_bool HF.out.symm, N0⟩
                · skip
                  go_wp2_with fail
                  refine (HP _).mono ?_
                  rintro _ _ ⟨rfl, rfl⟩
                  go_wp2_with fail
                  go_ret
                  exact ⟨ret_bool HF.out.symm, N0⟩
            · have d2 : (k == 2) = false := by rw [int_beq]; exact decide_eq_false k2
              by_cases k3 : k = 3
              · have d3 : (k == 3) = true := by rw [int_beq]; exact decide_eq_true k3
                have HF := hide (HF3.out k3 HA1.out HG.out)
                clear k1 k2 k3 HF1 HF2 HF3 HFk HP
                obtain ⟨b8, hb8⟩ : ∃ b, decide (2 ≤ hs.length + 1) = b := ⟨_, rfl⟩
                have d8 : decide (2 ≤ (hs.length : Int) + 1) = b8 := by rw [← hb8]; exact decide_eq_decide.2 (by omega)
                replace HF : Hid (g = (b0 && (decide (0 ≤ m) && (decide (m ≤ 65535) && (decide (popN m.toNat = hs.length) && b8))))) := by show _ = _; rw [HF.out, ← hb8]; rfl
                clear hb8
                have y1 : ∀ p : NewW W, p.v.cell? ⟨w.heap.size, 1, none⟩ = some (.string sp) := NewW.cell c1
                have y4 : ∀ p : NewW W, p.v.cell? ⟨w.heap.size, 4, none⟩ = some (.int .i64 m) := NewW.cell c4
                have y5 : ∀ p : NewW W, p.v.cell? ⟨w.heap.size, 5, none⟩ = some (.slice a hs.length c) := NewW.cell c5
                have hne := NewW.ne W
                by_cases hm1 : 0 ≤ m
                · rw [decide_eq_true hm1] at HF
                  have x1 : decide (0 ≤ m) = true := decide_eq_true hm1
                  by_cases hm2 : m ≤ 65535
                  · rw [decide_eq_true hm2] at HF
                    have x2 : decide (m ≤ 65535) = true := decide_eq_true hm2
                    obtain ⟨u, rfl⟩ : ∃ u : Nat, m = (u : Int) := ⟨m.toNat, by omega⟩
                    rw [Int.toNat_natCast] at HF
                    obtain ⟨q, hq⟩ : ∃ q, popN u = q := ⟨_, rfl⟩
                    have HB : ∀ w, Calls Tryd.prog 79 #[.int .i64 (u : Int)] w fun e w' => e = .returned (.int .i64 (q : Int)) ∧ New w w' := fun w => by rw [← hq]; exact (bits_any u (by omega) w).mono fun e w' ⟨h1, h2⟩ => ⟨h1, by rw [h2]; exact New.refl w⟩
                    have hq16 : q ≤ 16 := by rw [← hq]; exact popN_le u
                    obtain ⟨b7, hb7⟩ : ∃ b, decide (q = hs.length) = b := ⟨_, rfl⟩
                    have x7 : ((q : Int) == (hs.length : Int)) = b7 := by rw [← hb7]; exact nat_beq _ _
                    rw [hq, hb7] at HF
                    clear hm1 hm2 hq hb7 em0 em1
                    cases b0
                    · skip
                      go_wp2_with fail
                      refine region_new W (New.refl W) (by kernel_rfl) (by kernel_rfl) ?_
                      repeat (go_big_quiet_step (first | (go_at_call 79; exact Calls.neww (HB _))))
                      refine wpQuiet_nil ?_
                      rintro w5 ⟨⟨_, k5⟩, rfl⟩
                      go_wp2_with fail
                      go_ret
                      exact ⟨ret_bool HF.out.symm, N0.trans k5⟩
                    · cases b7
                      · skip
                        go_wp2_with fail
                        refine region_new W (New.refl W) (by kernel_rfl) (by kernel_rfl) ?_
                        repeat (go_big_quiet_step (first | (go_at_call 79; exact Calls.neww (HB _))))
                        refine wpQuiet_nil ?_
                        rintro w5 ⟨⟨_, k5⟩, rfl⟩
                        go_wp2_with fail
                        go_ret
                        exact ⟨ret_bool HF.out.symm, N0.trans k5⟩
                      · cases b8
                        all_goals
                          go_wp2_with fail
                          refine region_new W (New.refl W) (by kernel_rfl) (by kernel_rfl) ?_
                          repeat (go_big_quiet_step (first | (go_at_call 79; exact Calls.neww (HB _))))
                          refine wpQuiet_nil ?_
                          rintro w5 ⟨⟨_, k5⟩, rfl⟩
                          go_wp2_with fail
                          go_ret
                          exact ⟨ret_bool HF.out.symm, N0.trans k5⟩
                  · rw [decide_eq_false hm2] at HF
                    have x2 : decide (m ≤ 65535) = false := decide_eq_false hm2
                    have HB := bits_any 0 (by omega)
                    clear hm1 hm2
                    cases b0
                    all_goals
                      go_wp2_with fail
                      refine region_new W (New.refl W) (by kernel_rfl) (by kernel_rfl) ?_
                      repeat (go_big_quiet_step (fail))
                      refine wpQuiet_nil ?_
                      rintro w5 ⟨⟨_, k5⟩, rfl⟩
                      go_wp2_with fail
                      go_ret
                      exact ⟨ret_bool HF.out.symm, N0.trans k5⟩
                · rw [decide_eq_false hm1] at HF
                  have x1 : decide (0 ≤ m) = false := decide_eq_false hm1
                  clear hm1
                  cases b0
                  all_goals
                    go_wp2_with fail
                    refine region_new W (New.refl W) (by kernel_rfl) (by kernel_rfl) ?_
                    repeat (go_big_quiet_step (fail))
                    refine wpQuiet_nil ?_
                    rintro w5 ⟨⟨_, k5⟩, rfl⟩
                    go_wp2_with fail
                    go_ret
                    exact ⟨ret_bool HF.out.symm, N0.trans k5⟩
              · have d3 : (k == 3) = false := by rw [int_beq]; exact decide_eq_false k3
                have HF := hide (HFk.out k1 k2 k3)
                clear k1 k2 k3 HF1 HF2 HF3 HFk HP
                go_wp2_with fail
                go_ret
                exact ⟨ret_bool HF.out.symm, N0⟩

end Go.Proofs.YtjikdbmdaeonlaaDoor.No
