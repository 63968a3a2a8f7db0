/-
  TrieShape's mathematics: how often each node is a child of the nodes so far, how many children and values there are. Plain mathematics.
-/
import Derived.Test.YtelaiblhnhbgiaaDoorTrRead
namespace Go.Proofs.YtelaiblhnhbgiaaDoor
set_option maxRecDepth 20000

def inC (z : Int) : List Value := [.int .i64 z]
/-- How often each of the first N numbers is in a list. -/
def cntL (N : Nat) (L : List Int) : List Int := (List.range N).map fun k : Nat => ((L.count (k : Int) : Nat) : Int)
theorem cntL_len (N : Nat) (L : List Int) : (cntL N L).length = N := by unfold cntL; rw [List.length_map, List.length_range]
theorem cntL_get {N j : Nat} (L : List Int) (hj : j < N) : (cntL N L)[j]? = some ((L.count (j : Int) : Nat) : Int) := by
  unfold cntL; rw [List.getElem?_map, List.getElem?_range hj]; rfl
theorem cntL_nil (N : Nat) : cntL N [] = List.replicate N 0 := by
  apply List.ext_getElem?
  intro j
  rw [List.getElem?_replicate]
  by_cases hj : j < N
  · rw [cntL_get _ hj, if_pos hj]; rfl
  · rw [if_neg hj, List.getElem?_eq_none (by rw [cntL_len]; omega)]
theorem cntL_put {N j : Nat} (L : List Int) (hj : j < N) : (cntL N L).set j (((L.count (j : Int) : Nat) : Int) + 1) = cntL N (L ++ [(j : Int)]) := by
  apply List.ext_getElem?
  intro i
  by_cases hi : i < N
  · rw [cntL_get _ hi, List.count_append]
    by_cases h : j = i
    · subst h
      rw [List.getElem?_set_self (by rw [cntL_len]; exact hj)]
      simp
    · rw [List.getElem?_set_ne h, cntL_get _ hi]
      have : ([(j : Int)] : List Int).count (i : Int) = 0 := List.count_eq_zero.2 (by simp; omega)
      rw [this, Nat.add_zero]
  · rw [List.getElem?_eq_none (by rw [List.length_set, cntL_len]; omega), List.getElem?_eq_none (by rw [cntL_len]; omega)]
theorem count_nums (j : Nat) : ∀ (n b : Nat), (nums b n).count (j : Int) = if b ≤ j ∧ j < b + n then 1 else 0
  | 0, b => by rw [if_neg (by omega)]; rfl
  | n + 1, b => by
    rw [nums_cons, List.count_cons, count_nums j n (b + 1)]
    by_cases h : b = j
    · subst h
      rw [if_neg (by omega), if_pos (by simp), if_pos (by omega)]
    · rw [if_neg (show ¬ (((b : Int) == (j : Int)) = true) by rw [beq_iff_eq]; omega), Nat.add_zero]
      by_cases h2 : b ≤ j ∧ j < b + (n + 1)
      · rw [if_pos h2, if_pos (by omega)]
      · rw [if_neg h2, if_neg (by omega)]
theorem nz_take_zero {ks : List Int} {c : Nat} (h : ks[c]? = some 0) : nz (ks.take (c + 1)) = nz (ks.take c) := by
  rw [List.take_add_one, h]; unfold nz; rw [List.filter_append]; simp
theorem nz_take_more {ks : List Int} {c : Nat} {x : Int} (h : ks[c]? = some x) (h0 : x ≠ 0) : nz (ks.take (c + 1)) = nz (ks.take c) ++ [x] := by
  rw [List.take_add_one, h]; unfold nz; rw [List.filter_append]; simp [h0]

/-- What the walk asks of the nodes of pairs. -/
structure Sh (T : List NP) : Prop where
  kid : Kid 0 T
  links : (linksOf T).Perm (nums 1 (T.length - 1))
  shape : ∀ m ∈ T, Shape m.1
  rise : T.Pairwise (fun a c => ltL a.2 c.2)
  k16 : ∀ m ∈ T, m.1.kids.length = 16
  len : ∀ m ∈ T, (m.2 ++ m.1.path).length ≤ 16
theorem sh_of {l : List Pr} (h : mayB l = true) : Sh (trieL l) ∧ ((trieL l).filterMap valOf).length = l.length ∧ ((trieL l).length = 0 ∨ (trieL l).length + 2 ≤ 3 * l.length) := by
  by_cases hne : l = []
  · subst hne
    rw [trie_nil]
    exact ⟨⟨fun i m hm => by simp at hm, List.Perm.refl _, fun m hm => by simp at hm, List.Pairwise.nil, fun m hm => by simp at hm, fun m hm => by simp at hm⟩, rfl, .inl rfl⟩
  · have B := trie_blk h hne
    have hf := may_fit h
    refine ⟨⟨B.kid, by simpa using B.links, B.shape, B.rise, fun m hm => blk_kids16 B hm, fun m hm => ?_⟩, by rw [B.vals, List.length_map], .inr (by have := B.few; rwa [List.length_map] at this)⟩
    obtain ⟨p, hp, hpre⟩ := B.key m hm
    exact Nat.le_trans hpre.length_le (hf.len p hp).2
variable {T : List NP}
theorem sh_kid (h : Sh T) {i : Nat} {m : NP} (hm : T[i]? = some m) {c : Nat} {x : Int} (hx : m.1.kids[c]? = some x) (h0 : x ≠ 0) :
    ∃ (j : Nat) (m' : NP), x = (j : Int) ∧ i < j ∧ j < T.length ∧ T[j]? = some m' ∧ ((m.1.kind = 2 ∧ c = 0 ∧ m'.1.kind = 3 ∧ m'.2 = m.2 ++ m.1.path) ∨ (m.1.kind = 3 ∧ m'.2 = (m.2 ++ m.1.path) ++ [UInt8.ofNat c])) := by
  obtain ⟨j, m', e, hlt, hm', hp, hk⟩ := h.kid i m hm c x hx h0
  refine ⟨j, m', by rw [e, Nat.zero_add], hlt, (List.getElem?_eq_some_iff.1 hm').1, hm', ?_⟩
  rcases h.shape m (List.mem_of_getElem? hm) with ⟨_, _, h3⟩ | ⟨h2, _⟩ | ⟨h3, _⟩
  · rw [h3] at hx
    unfold no16 at hx
    rw [List.getElem?_replicate] at hx
    split at hx
    · exact absurd (Option.some.inj hx).symm h0
    · cases hx
  · left
    obtain ⟨hc, hk3⟩ := hk h2
    refine ⟨h2, hc, hk3, ?_⟩
    rw [hp, h2]
    rfl
  · right
    refine ⟨h3, ?_⟩
    rw [hp, h3]
    rfl
theorem sh_ways (h : Sh T) {m : NP} (hm : m ∈ T) : (m.1.kind = 1 ∧ m.1.has = true ∧ (nz m.1.kids).length = 0) ∨ (m.1.kind = 2 ∧ m.1.has = false ∧ m.1.path ≠ [] ∧ (nz m.1.kids).length = 1) ∨
    (m.1.kind = 3 ∧ m.1.path = [] ∧ 2 ≤ (nz m.1.kids).length + (if m.1.has then 1 else 0)) := by
  rcases h.shape m hm with ⟨h1, h2, h3⟩ | ⟨h1, h2, _, h4, k, hk, h5⟩ | ⟨h1, h2, _, h4, _⟩
  · exact .inl ⟨h1, h2, by rw [h3]; rfl⟩
  · refine .inr (.inl ⟨h1, h2, h4, ?_⟩)
    rw [h5]
    show (List.filter (fun k : Int => k != 0) (k :: List.replicate 15 0)).length = 1
    rw [List.filter_cons_of_pos (by rw [bne_iff_ne]; exact hk)]
    rfl
  · exact .inr (.inr ⟨h1, h2, h4⟩)
theorem nz_le (ks : List Int) : (nz ks).length ≤ ks.length := List.length_filter_le _ _
theorem links_more {i : Nat} {m : NP} (hm : T[i]? = some m) : linksOf (T.take (i + 1)) = linksOf (T.take i) ++ nz m.1.kids := by
  rw [List.take_add_one, hm, linksOf_append]
  show _ ++ (nz m.1.kids ++ []) = _
  rw [List.append_nil]
theorem nz_split (ks : List Int) (c : Nat) : nz ks = nz (ks.take c) ++ nz (ks.drop c) := by unfold nz; rw [← List.filter_append, List.take_append_drop]
theorem links_few (h : Sh T) {i : Nat} {m : NP} (hm : T[i]? = some m) (c : Nat) (x : Int) : (linksOf (T.take i) ++ nz (m.1.kids.take c)).count x ≤ T.length := by
  refine Nat.le_trans List.count_le_length ?_
  have h1 : linksOf T = linksOf (T.take (i + 1)) ++ linksOf (T.drop (i + 1)) := by rw [← linksOf_append, List.take_append_drop]
  have h2 := h.links.length_eq
  rw [h1, links_more hm, nz_split m.1.kids c] at h2
  simp only [List.length_append, nums, List.length_map, List.length_range'] at h2
  rw [List.length_append]; omega
theorem links_all (h : Sh T) {j : Nat} (hj : j < T.length) : (linksOf T).count (j : Int) = if 0 < j then 1 else 0 := by
  rw [h.links.count_eq, count_nums]
  by_cases h0 : 0 < j
  · rw [if_pos h0, if_pos (by omega)]
  · rw [if_neg h0, if_neg (by omega)]
theorem vals_more {i : Nat} {m : NP} (hm : T[i]? = some m) : ((T.take (i + 1)).filterMap valOf).length = ((T.take i).filterMap valOf).length + (if m.1.has then 1 else 0) := by
  rw [List.take_add_one, hm, List.filterMap_append, List.length_append]
  congr 1
  show (List.filterMap valOf [m]).length = _
  rw [List.filterMap_cons]
  unfold valOf
  cases h : m.1.has <;> simp
theorem vals_few (i : Nat) : ((T.take i).filterMap valOf).length ≤ T.length :=
  Nat.le_trans (List.length_filterMap_le _ _) (by rw [List.length_take]; omega)
theorem sh_rise (h : Sh T) {i : Nat} {a b : NP} (ha : T[i]? = some a) (hb : T[i + 1]? = some b) : ltL a.2 b.2 := by
  obtain ⟨h1, rfl⟩ := List.getElem?_eq_some_iff.1 ha
  obtain ⟨h2, rfl⟩ := List.getElem?_eq_some_iff.1 hb
  exact List.pairwise_iff_getElem.1 h.rise i (i + 1) h1 h2 (by omega)

end Go.Proofs.YtelaiblhnhbgiaaDoor
