/-
  Pairs and nodes that are turned: pairs out of order, twice the same key, a value that may not be; a node turned, a trie cut short. Plain mathematics.
-/
import Derived.Test.YtelaiblhnhbgiaaDoorTrPairs
namespace Go.Proofs.YtelaiblhnhbgiaaDoor
set_option maxRecDepth 20000

theorem may_at {l : List Pr} (h : mayB l = true) {i : Nat} (hi : i < l.length) : atB l i = true := (mayB_iff l).1 h i hi
theorem may_lt {l : List Pr} (h : mayB l = true) {i : Nat} {p q : Pr} (hp : l[i]? = some p) (hq : l[i + 1]? = some q) : ltL p.1 q.1 := by
  have h1 := (mayB_rise l h).1
  obtain ⟨a1, a2⟩ := List.getElem?_eq_some_iff.1 hp
  obtain ⟨b1, b2⟩ := List.getElem?_eq_some_iff.1 hq
  have := List.pairwise_iff_getElem.1 h1 i (i + 1) a1 b1 (by omega)
  rw [a2, b2] at this; exact this
theorem up_no {a b : Bt} (h : ltL a b) : upB b a = false := by
  cases e : upB b a
  · rfl
  · exact absurd (ltL_trans h ((less_iff _ _).1 e)) (ltL_irrefl a)
theorem getD_pr {α : Type} {l : List α} {i : Nat} {d x : α} (h : l[i]? = some x) : l.getD i d = x := by rw [List.getD_eq_getElem?_getD, h]; rfl
theorem at_up {l : List Pr} {i : Nat} {p q : Pr} (hp : l[i]? = some p) (hq : l[i + 1]? = some q) (h : upB p.1 q.1 = false) : mayB l = false := by
  refine mayB_no (mayB_iff l) (List.getElem?_eq_some_iff.1 hq).1 ?_
  rw [atB_succ (k := i + 1) (m := i) rfl (getD_pr hq) (getD_pr hp), h, Bool.and_false]
theorem swap_no {l : List Pr} (h : mayB l = true) {a : Nat} {p q : Pr} (hp : l[a]? = some p) (hq : l[a + 1]? = some q) : mayB ((l.set a q).set (a + 1) p) = false := by
  have ha := (List.getElem?_eq_some_iff.1 hp).1
  have hb := (List.getElem?_eq_some_iff.1 hq).1
  refine at_up (i := a) (p := q) (q := p) ?_ ?_ (up_no (may_lt h hp hq))
  · rw [List.getElem?_set_ne (by omega), List.getElem?_set_self ha]
  · rw [List.getElem?_set_self (by rw [List.length_set]; exact hb)]
theorem twice_no {l : List Pr} {p : Pr} {n : Nat} (hn : l.length = n + 1) (hp : l[n]? = some p) : mayB (l ++ [p]) = false := by
  refine at_up (i := n) (p := p) (q := p) ?_ ?_ ?_
  · rw [List.getElem?_append_left (by omega)]; exact hp
  · rw [List.getElem?_append_right (by omega), hn, Nat.sub_self]; rfl
  · cases e : upB p.1 p.1
    · rfl
    · exact absurd ((less_iff _ _).1 e) (ltL_irrefl _)
theorem value_no {l : List Pr} {a : Nat} {p : Pr} (ha : a < l.length) (hp : 16 < p.2.length) : mayB (l.set a p) = false := by
  refine mayB_no (mayB_iff _) (k := a) (by rw [List.length_set]; exact ha) ?_
  refine atB_bad (p := p) (getD_pr (List.getElem?_set_self ha)) ?_
  unfold okP
  rw [decide_eq_false (show ¬ p.2.length ≤ 16 by omega)]; simp

theorem build_shape {l : List Pr} (h : mayB l = true) : ∀ x ∈ buildN l, Shape x := by
  by_cases hne : l = []
  · subst hne
    unfold buildN; rw [trie_nil]; intro x hx; simp at hx
  · intro x hx
    obtain ⟨m, hm, rfl⟩ := List.mem_map.1 hx
    exact (trie_blk h hne).shape m hm
def flipN (m : Nd) : Nd := { m with has := !m.has }
theorem flip_no {l : List Pr} (h : mayB l = true) {k : Nat} {m : Nd} (hm : (buildN l)[k]? = some m) (h3 : m.kind ≠ 3) : readF ((buildN l).set k (flipN m)) = none := by
  cases e : readF ((buildN l).set k (flipN m)) with
  | none => rfl
  | some s =>
    exfalso
    obtain ⟨h1, h2, _⟩ := readF_ok e
    have hk := (List.getElem?_eq_some_iff.1 hm).1
    have hs := build_shape h m (List.mem_of_getElem? hm)
    have hf : Shape (flipN m) := build_shape h1 _ (by
      rw [← h2]
      exact List.mem_of_getElem? (List.getElem?_set_self hk))
    rcases hs with ⟨_, a2, _⟩ | ⟨a1, a2, _⟩ | ⟨a1, _⟩
    · rcases hf with ⟨_, b2, _⟩ | ⟨b1, _⟩ | ⟨b1, _⟩
      · have : (!m.has) = true := b2
        rw [a2] at this; cases this
      · have b1 : m.kind = 2 := b1
        have := ‹m.kind = 1›
        omega
      · exact h3 b1
    · rcases hf with ⟨b1, _⟩ | ⟨_, b2, _⟩ | ⟨b1, _⟩
      · have b1 : m.kind = 1 := b1
        omega
      · have : (!m.has) = false := b2
        rw [a2] at this; cases this
      · exact h3 b1
    · exact h3 a1
theorem cut_no {l : List Pr} (h : mayB l = true) {n : Nat} (hn : (buildN l).length = n + 1) (h0 : 0 < n) : readF ((buildN l).take n) = none := by
  cases e : readF ((buildN l).take n) with
  | none => rfl
  | some s =>
    exfalso
    obtain ⟨h1, h2, _⟩ := readF_ok e
    have hne : l ≠ [] := by
      intro e; subst e
      unfold buildN at hn; rw [trie_nil] at hn; simp at hn
    have hne' : s.1 ≠ [] := by
      intro e
      have := congrArg List.length h2
      rw [e, List.length_take, hn] at this
      have h00 : (buildN ([] : List Pr)).length = 0 := by unfold buildN; rw [trie_nil]; rfl
      rw [h00] at this
      omega
    have B := trie_blk h hne
    have B' := trie_blk h1 hne'
    have hlen : (trieL l).length = n + 1 := by unfold buildN at hn; rwa [List.length_map] at hn
    have hlen' : (trieL s.1).length = n := by
      have := congrArg List.length h2
      rw [List.length_take, hn] at this
      unfold buildN at this
      rw [List.length_map] at this
      omega
    obtain ⟨j, m, c, hj, hm, hc⟩ := blk_parent B (k := n) h0 (by omega)
    have hm1 : (buildN l)[j]? = some m.1 := by unfold buildN; rw [List.getElem?_map, hm]; rfl
    have hm2 : (buildN s.1)[j]? = some m.1 := by rw [← h2, List.getElem?_take, if_pos hj]; exact hm1
    unfold buildN at hm2
    rw [List.getElem?_map] at hm2
    cases hx : (trieL s.1)[j]? with
    | none => rw [hx] at hm2; cases hm2
    | some m' =>
      rw [hx] at hm2
      have hmm : m'.1 = m.1 := Option.some.inj hm2
      have hc' : m'.1.kids[c]? = some (n : Int) := by rw [hmm]; exact hc
      obtain ⟨j', _, ej, _, hl, _⟩ := blk_kid B' hx hc' (by omega)
      omega

end Go.Proofs.YtelaiblhnhbgiaaDoor
