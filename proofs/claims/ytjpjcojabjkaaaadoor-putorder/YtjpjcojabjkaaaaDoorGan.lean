/-
  The document's own Pairs, said of lists: nodes gone through once, what leads to each and whether it was met; of pairs' nodes these are the pairs. Plain mathematics. The document's own nodes of pairs, said of stretches of a list: what a stretch is, that how deep it may go doesn't matter, the groups as runs. Plain mathematics. With one text ahead of all keys a trie is the same, but for its first node's Path. Plain mathematics. TriePrefix's walk: whatever pairs and byte, the call returns true, where the table of upper halves lies as its initialiser lays it. The document's own maker in memory: what its calls leave as it was; cells that are known, however many; stores as one operation of a region. The document's own add, what its maker is in memory, what its contract says. A slice copied behind an empty one, whatever its elements' size; a row read inside a region that draws.
-/
import Derived.Test.YtjpjcojabjkaaaaDoorGal
import Derived.Test.YtjpjcojabjkaaaaDoorGak
import Derived.Test.YtjpjcojabjkaaaaDoorGam
import Derived.Test.YtjpjcojabjkaaaaDoorGad
namespace Go.Proofs.YtjpjcojabjkaaaaDoor
set_option maxRecDepth 20000

def rkid (len i : Nat) (kind : Int) (e : Bt) (ks : List Int) (to : List Bt) (met : List Bool) : Nat → Option (List Bt × List Bool)
  | 0 => some (to, met)
  | c + 1 => match rkid len i kind e ks to met c with
    | none => none
    | some s => if ks.getD c 0 = 0 then some s else if ks.getD c 0 ≤ (i : Int) ∨ (len : Int) ≤ ks.getD c 0 ∨ s.2.getD (ks.getD c 0).toNat false = true then none
      else some (s.1.set (ks.getD c 0).toNat (childP kind e c), s.2.set (ks.getD c 0).toNat true)
def rnode (t : List Nd) (i : Nat) (s : List Pr × List Bt × List Bool) : Option (List Pr × List Bt × List Bool) :=
  if 0 < i ∧ s.2.2.getD i false = false then none
  else if 16 < (t.getD i noNd).path.length ∨ 16 < (s.2.1.getD i [] ++ (t.getD i noNd).path).length then none
  else if (t.getD i noNd).has = true ∧ keyB (s.2.1.getD i [] ++ (t.getD i noNd).path) = false then none
  else match rkid t.length i (t.getD i noNd).kind (s.2.1.getD i [] ++ (t.getD i noNd).path) (t.getD i noNd).kids s.2.1 s.2.2 16 with
    | none => none
    | some q => some (if (t.getD i noNd).has then s.1 ++ [(joinL (s.2.1.getD i [] ++ (t.getD i noNd).path), (t.getD i noNd).val)] else s.1, q.1, q.2)
def rN (t : List Nd) : Nat → Option (List Pr × List Bt × List Bool)
  | 0 => some ([], List.replicate t.length [], List.replicate t.length false)
  | i + 1 => match rN t i with
    | none => none
    | some s => rnode t i s
theorem rN_none {t : List Nd} {i : Nat} (h : rN t i = none) : ∀ j, rN t (i + j) = none
  | 0 => h
  | j + 1 => by
    show (match rN t (i + j) with | none => none | some s => rnode t (i + j) s) = none
    rw [rN_none h j]
theorem rkid_none {len i : Nat} {kind : Int} {e : Bt} {ks : List Int} {to : List Bt} {met : List Bool} {c : Nat} (h : rkid len i kind e ks to met c = none) : ∀ j, rkid len i kind e ks to met (c + j) = none
  | 0 => h
  | j + 1 => by
    show (match rkid len i kind e ks to met (c + j) with | none => none | some s => _) = none
    rw [rkid_none h j]
theorem rkid_succ {len i : Nat} {kind : Int} {e : Bt} {ks : List Int} {to : List Bt} {met : List Bool} {c : Nat} {s : List Bt × List Bool} (h : rkid len i kind e ks to met c = some s) : rkid len i kind e ks to met (c + 1) =
    if ks.getD c 0 = 0 then some s else if ks.getD c 0 ≤ (i : Int) ∨ (len : Int) ≤ ks.getD c 0 ∨ s.2.getD (ks.getD c 0).toNat false = true then none
      else some (s.1.set (ks.getD c 0).toNat (childP kind e c), s.2.set (ks.getD c 0).toNat true) := by
  show (match rkid len i kind e ks to met c with | none => none | some s => _) = _
  rw [h]
theorem rN_succ {t : List Nd} {i : Nat} {s : List Pr × List Bt × List Bool} (h : rN t i = some s) : rN t (i + 1) = rnode t i s := by
  show (match rN t i with | none => none | some s => rnode t i s) = _
  rw [h]
/-- Sizes of what was gathered so far. -/
structure RkOk (t : List Nd) (i : Nat) (s : List Pr × List Bt × List Bool) : Prop where
  to : s.2.1.length = t.length
  met : s.2.2.length = t.length
  few : s.1.length ≤ i
  path : ∀ p ∈ s.2.1, p.length ≤ 17
  pair : ∀ p ∈ s.1, p.1.length ≤ 16 ∧ p.2.length ≤ 4000
theorem childP_len (kind : Int) (e : Bt) (c : Nat) : (childP kind e c).length ≤ e.length + 1 := by
  unfold childP; split
  · rw [List.length_append]; exact Nat.le_refl _
  · exact Nat.le_succ _
theorem rkid_ok {t : List Nd} {i : Nat} {kind : Int} {e : Bt} {ks : List Int} {to : List Bt} {met : List Bool} (he : e.length ≤ 16) (h1 : to.length = t.length) (h2 : met.length = t.length) (h3 : ∀ p ∈ to, p.length ≤ 17) :
    ∀ {c : Nat} {s : List Bt × List Bool}, rkid t.length i kind e ks to met c = some s → s.1.length = t.length ∧ s.2.length = t.length ∧ ∀ p ∈ s.1, p.length ≤ 17
  | 0, s, h => by
    obtain rfl := Option.some.inj h
    exact ⟨h1, h2, h3⟩
  | c + 1, s, h => by
    cases hq : rkid t.length i kind e ks to met c with
    | none =>
      have := rkid_none hq 1
      rw [this] at h; cases h
    | some q =>
      obtain ⟨a1, a2, a3⟩ := rkid_ok he h1 h2 h3 hq
      rw [rkid_succ hq] at h
      split at h
      · obtain rfl := Option.some.inj h
        exact ⟨a1, a2, a3⟩
      · split at h
        · cases h
        · obtain rfl := Option.some.inj h
          refine ⟨by rw [List.length_set]; exact a1, by rw [List.length_set]; exact a2, fun p hp => ?_⟩
          rcases List.mem_or_eq_of_mem_set hp with hp | rfl
          · exact a3 p hp
          · have := childP_len kind e c; omega
theorem rk_ok {t : List Nd} (hv : ∀ m ∈ t, m.val.length ≤ 4000) : ∀ {i : Nat} {s : List Pr × List Bt × List Bool}, i ≤ t.length → rN t i = some s → RkOk t i s
  | 0, s, _, h => by
    obtain rfl := Option.some.inj h
    exact ⟨by simp, by simp, Nat.le_refl _, fun p hp => by rw [List.eq_of_mem_replicate hp]; exact Nat.zero_le _, fun p hp => by simp at hp⟩
  | i + 1, s, hi, h => by
    cases hq : rN t i with
    | none =>
      have := rN_none hq 1
      rw [this] at h; cases h
    | some q =>
      have K := rk_ok hv (by omega) hq
      rw [rN_succ hq] at h
      unfold rnode at h
      split at h
      · cases h
      split at h
      · cases h
      split at h
      · cases h
      next h1 h2 h3 =>
        have he : (q.2.1.getD i [] ++ (t.getD i noNd).path).length ≤ 16 := by omega
        cases hk : rkid t.length i (t.getD i noNd).kind (q.2.1.getD i [] ++ (t.getD i noNd).path) (t.getD i noNd).kids q.2.1 q.2.2 16 with
        | none => rw [hk] at h; cases h
        | some r =>
          rw [hk] at h
          obtain rfl := Option.some.inj h
          obtain ⟨a1, a2, a3⟩ := rkid_ok he K.to K.met K.path hk
          refine ⟨a1, a2, ?_, a3, ?_⟩
          · show (if _ then _ else _ : List Pr).length ≤ i + 1
            split
            · rw [List.length_append]; have := K.few; simp; omega
            · have := K.few; omega
          · intro p hp
            have hp : p ∈ (if (t.getD i noNd).has = true then q.1 ++ [(joinL (q.2.1.getD i [] ++ (t.getD i noNd).path), (t.getD i noNd).val)] else q.1) := hp
            split at hp
            · rcases List.mem_append.1 hp with hp | hp
              · exact K.pair p hp
              · obtain rfl := List.mem_singleton.1 hp
                refine ⟨?_, ?_⟩
                · have := joinL_length (q.2.1.getD i [] ++ (t.getD i noNd).path)
                  show (joinL _).length ≤ 16
                  omega
                · exact hv _ (getD_mem (by omega))
            · exact K.pair p hp

section
variable {l : List Pr} {T : List NP}
/-- Which nodes were met: those that are in a list. -/
def Met (N : Nat) (met : List Bool) (L : List Int) : Prop := met.length = N ∧ ∀ k, k < N → met[k]? = some (decide ((k : Int) ∈ L))
theorem Met.set {N : Nat} {met : List Bool} {L : List Int} (h : Met N met L) {j : Nat} (hj : j < N) : Met N (met.set j true) (L ++ [(j : Int)]) := by
  refine ⟨by rw [List.length_set]; exact h.1, fun k hk => ?_⟩
  by_cases e : j = k
  · subst e
    rw [List.getElem?_set_self (by rw [h.1]; exact hj)]
    rw [decide_eq_true (by simp)]
  · rw [List.getElem?_set_ne e, h.2 k hk]
    congr 1
    have : ((k : Int) ∈ L ++ [(j : Int)]) ↔ (k : Int) ∈ L := by
      rw [List.mem_append, List.mem_singleton]
      exact ⟨fun h => h.elim id (fun h => by omega), .inl⟩
    exact decide_eq_decide.2 this.symm
theorem fresh_link (B : Sh T) {i : Nat} {m : NP} (hm : T[i]? = some m) {c j : Nat} (hx : m.1.kids[c]? = some (j : Int)) (h0 : (j : Int) ≠ 0) (hj : j < T.length) : ¬ (j : Int) ∈ linksOf (T.take i) ++ nz (m.1.kids.take c) := by
  have h1 : linksOf T = linksOf (T.take (i + 1)) ++ linksOf (T.drop (i + 1)) := by rw [← linksOf_append, List.take_append_drop]
  rw [links_more hm, nz_split m.1.kids (c + 1), nz_take_more hx h0] at h1
  have h2 := links_all B hj
  rw [h1] at h2
  simp only [List.count_append] at h2
  intro hmem
  have h3 : 0 < List.count (j : Int) (linksOf (T.take i) ++ nz (m.1.kids.take c)) := List.count_pos_iff.2 hmem
  rw [List.count_append] at h3
  have h4 : List.count (j : Int) [(j : Int)] = 1 := by simp
  rw [h4] at h2
  split at h2 <;> omega
theorem rled {P : List Pr} (B : Blk P 0 0 T) (S : Sh T) {i : Nat} {m : NP} (hm : T[i]? = some m) {to : List Bt} {met : List Bool} {D : Nat → Prop} (h : Led T to D) (hM : Met T.length met (linksOf (T.take i))) :
    ∀ c, c ≤ 16 → ∃ q, rkid T.length i m.1.kind (m.2 ++ m.1.path) m.1.kids to met c = some q ∧ Led T q.1 (fun k => D k ∨ ∃ c' : Nat, c' < c ∧ m.1.kids[c']? = some (k : Int) ∧ k ≠ 0) ∧ Met T.length q.2 (linksOf (T.take i) ++ nz (m.1.kids.take c))
  | 0, _ => ⟨(to, met), rfl, ⟨h.1, fun k m' hk hD => h.2 k m' hk (hD.elim id (fun ⟨c', h', _⟩ => absurd h' (by omega)))⟩, by rw [show nz (m.1.kids.take 0) = [] from rfl, List.append_nil]; exact hM⟩
  | c + 1, hc => by
    obtain ⟨q, hq, ⟨hl, hled⟩, hmt⟩ := rled B S hm h hM c (by omega)
    have hlen := blk_kids16 B (List.mem_of_getElem? hm)
    obtain ⟨x, hx⟩ : ∃ x, m.1.kids[c]? = some x := ⟨m.1.kids[c]'(by omega), List.getElem?_eq_getElem (by omega)⟩
    have hxD : m.1.kids.getD c 0 = x := by rw [List.getD_eq_getElem?_getD, hx]; rfl
    rw [rkid_succ hq, hxD]
    by_cases hx0 : x = 0
    · rw [if_pos hx0]
      subst hx0
      refine ⟨q, rfl, ⟨hl, fun k m' hk hD => hled k m' hk ?_⟩, by rw [nz_take_zero hx]; exact hmt⟩
      rcases hD with hD | ⟨c', h1, h2, h3⟩
      · exact .inl hD
      · by_cases ec : c' = c
        · subst ec
          rw [hx] at h2
          have := Option.some.inj h2
          omega
        · exact .inr ⟨c', by omega, h2, h3⟩
    · rw [if_neg hx0]
      obtain ⟨j, m', ej, hij, hjl, hm', hp⟩ := sh_kid S hm hx hx0
      have hfresh := fresh_link S hm (ej ▸ hx) (ej ▸ hx0) hjl
      have hmj : q.2.getD x.toNat false = false := by
        rw [ej, Int.toNat_natCast, List.getD_eq_getElem?_getD, hmt.2 j hjl, decide_eq_false hfresh]; rfl
      have hcp : childP m.1.kind (m.2 ++ m.1.path) c = m'.2 := by
        rcases hp with ⟨k2, _, _, k4⟩ | ⟨k3, k4⟩
        · rw [k2, k4]; rfl
        · rw [k3, k4]; rfl
      rw [if_neg (by rw [hmj]; simp; omega)]
      refine ⟨_, rfl, ⟨by rw [List.length_set]; exact hl, fun k mk hk hD => ?_⟩, by rw [nz_take_more hx hx0, ej, Int.toNat_natCast, ← List.append_assoc]; exact hmt.set hjl⟩
      show (q.1.set x.toNat _)[k]? = _
      rw [ej, Int.toNat_natCast]
      by_cases ek : j = k
      · subst ek
        rw [List.getElem?_set_self (by omega), hcp]
        rw [hm'] at hk
        rw [Option.some.inj hk]
      · rw [List.getElem?_set_ne ek]
        refine hled k mk hk ?_
        rcases hD with hD | ⟨c', h1, h2, h3⟩
        · exact .inl hD
        · by_cases ec : c' = c
          · subst ec
            rw [hx] at h2
            have := Option.some.inj h2
            omega
          · exact .inr ⟨c', by omega, h2, h3⟩
theorem rk_blk (F : Fit (l.map halfP) 0) (B : Blk (l.map halfP) 0 0 T) (S : Sh T) : ∀ i, i ≤ T.length → ∃ to met, rN (T.map (·.1)) i = some (((T.take i).filterMap valOf).map joinP, to, met) ∧ Led T to (done T i) ∧ Met T.length met (linksOf (T.take i))
  | 0, _ => by
    refine ⟨List.replicate T.length [], List.replicate T.length false, ?_, ⟨by simp, fun k m hk hD => ?_⟩, by simp, fun k hk => ?_⟩
    · show some ([], List.replicate (T.map (·.1)).length [], List.replicate (T.map (·.1)).length false) = _
      rw [List.length_map]; rfl
    · rcases hD with rfl | ⟨j, _, _, hj, _⟩
      · obtain ⟨m0, r0, e, h0⟩ := B.head
        subst e
        obtain rfl := Option.some.inj hk
        rw [h0]; rfl
      · exact absurd hj (by omega)
    · rw [List.getElem?_replicate, if_pos hk, decide_eq_false (by show ¬ _ ∈ ([] : List Int); simp)]
  | i + 1, hi => by
    obtain ⟨to, met, hg, hL, hM⟩ := rk_blk F B S i (by omega)
    obtain ⟨m, hm⟩ : ∃ m, T[i]? = some m := ⟨T[i]'(by omega), List.getElem?_eq_getElem (by omega)⟩
    have hD : done T i i ∧ (0 < i → (i : Int) ∈ linksOf (T.take i)) := by
      rcases Nat.eq_zero_or_pos i with h0 | h0
      · exact ⟨.inl h0, fun h => by omega⟩
      · obtain ⟨j, mj, c, hj, hmj, hc⟩ := blk_parent B h0 (by omega)
        refine ⟨.inr ⟨j, mj, c, hj, hmj, hc, by omega⟩, fun _ => links_mem.2 ⟨j, mj, ?_, c, hc, by omega⟩⟩
        rw [List.getElem?_take, if_pos hj]; exact hmj
    have hpi : to.getD i [] = m.2 := by rw [List.getD_eq_getElem?_getD, hL.2 i m hm hD.1]; rfl
    obtain ⟨q, hq, hLq, hMq⟩ := rled B S hm hL hM 16 (Nat.le_refl _)
    have hlen16 := S.len m (List.mem_of_getElem? hm)
    have hkl := blk_kids16 B (List.mem_of_getElem? hm)
    refine ⟨q.1, q.2, ?_, ⟨hLq.1, fun k mk hk hDk => hLq.2 k mk hk ?_⟩, by rw [links_more hm]; rw [show m.1.kids.take 16 = m.1.kids from List.take_of_length_le (by omega)] at hMq; exact hMq⟩
    · rw [rN_succ hg]
      unfold rnode
      simp only [get_map1 hm, hpi, List.length_map, hq, filterMap_take _ _ _ _ hm]
      have hmt : ¬ (0 < i ∧ met.getD i false = false) := fun ⟨h1, h2⟩ => by
        rw [List.getD_eq_getElem?_getD, hM.2 i (by omega), decide_eq_true (hD.2 h1)] at h2
        cases h2
      rw [if_neg hmt, if_neg (by rw [List.length_append] at hlen16 ⊢; omega)]
      cases hh : m.1.has
      · rw [if_neg (by simp)]
        simp [valOf, hh]
      · have hmem : (m.2 ++ m.1.path, m.1.val) ∈ l.map halfP := by
          rw [← B.vals]
          exact List.mem_filterMap.2 ⟨m, List.mem_of_getElem? hm, by unfold valOf; rw [if_pos hh]⟩
        obtain ⟨p, hp, he⟩ := List.mem_map.1 hmem
        have hk : keyB (m.2 ++ m.1.path) = true := by
          have e1 : m.2 ++ m.1.path = ofL p.1 := (congrArg Prod.fst he).symm
          rw [e1]
          unfold keyB
          rw [halvesB_of, ofL_length, Bool.and_true]
          unfold oddB
          rw [decide_eq_false (by omega)]; rfl
        rw [if_neg (by rw [hk]; simp)]
        simp [valOf, hh, joinP]
    · rcases hDk with h0 | ⟨j, mj, c, hj, hmj, hc, h0⟩
      · exact .inl (.inl h0)
      · by_cases ej : j = i
        · subst ej
          rw [hm] at hmj
          obtain rfl := Option.some.inj hmj
          exact .inr ⟨c, by have := (List.getElem?_eq_some_iff.1 hc).1; omega, hc, h0⟩
        · exact .inl (.inr ⟨j, mj, c, by omega, hmj, hc, h0⟩)
end
theorem rN_trie {l : List Pr} (h : mayB l = true) : ∃ to met, rN (buildN l) (buildN l).length = some (l, to, met) := by
  by_cases hne : l = []
  · subst hne
    unfold buildN; rw [trie_nil]; exact ⟨_, _, rfl⟩
  · have B := trie_blk h hne
    obtain ⟨to, met, hg, _, _⟩ := rk_blk (may_fit h) B (sh_of h).1 _ (Nat.le_refl _)
    refine ⟨to, met, ?_⟩
    unfold buildN
    rw [List.length_map, hg, List.take_length, B.vals, List.map_map]
    have e1 : l.map (joinP ∘ halfP) = l := by
      conv => rhs; rw [← List.map_id l]
      exact List.map_congr_left fun p _ => join_half p
    rw [e1]
/-- The document's own answer is what is read. -/
theorem rN_read {t : List Nd} : (∀ s, readF t = some s → ∃ to met, rN t t.length = some (s.1, to, met)) ∧ (∀ l to met, rN t t.length = some (l, to, met) → mayB l = true → buildN l = t → ∃ s, readF t = some s ∧ s.1 = l) := by
  refine ⟨fun s h => ?_, fun l to met _ hm hb => ⟨(l, (trieL l).map (·.2)), readF_iff.2 ⟨hm, hb.symm, rfl⟩, rfl⟩⟩
  obtain ⟨h1, h2, _⟩ := readF_iff.1 (show readF t = some (s.1, s.2) from h)
  rw [h2]
  exact rN_trie h1

end Go.Proofs.YtjpjcojabjkaaaaDoor
namespace Go.Proofs.YtjpjcojabjkaaaaDoor
set_option maxRecDepth 20000

def seg {α : Type} (L : List α) (i j : Nat) : List α := (L.take j).drop i
section
variable {α : Type} {L : List α}
theorem seg_len {i j : Nat} (hj : j ≤ L.length) : (seg L i j).length = j - i := by unfold seg; rw [List.length_drop, List.length_take]; omega
theorem seg_get {i j x : Nat} (hx : i + x < j) : (seg L i j)[x]? = L[i + x]? := by unfold seg; rw [List.getElem?_drop, List.getElem?_take, if_pos hx]
theorem seg_append {i j k : Nat} (hij : i ≤ j) (hjk : j ≤ k) : seg L i j ++ seg L j k = seg L i k := by
  unfold seg
  by_cases h : j ≤ L.length
  · have e : L.take k = L.take j ++ (L.take k).drop j := by
      conv => lhs; rw [← List.take_append_drop j (L.take k)]
      rw [List.take_take, Nat.min_eq_left hjk]
    conv => rhs; rw [e]
    rw [List.drop_append_of_le_length (by rw [List.length_take]; omega)]
  · rw [List.take_of_length_le (by omega), List.take_of_length_le (by omega), List.drop_eq_nil_iff.2 (show L.length ≤ j by omega), List.append_nil]
theorem seg_self (i : Nat) : seg L i i = [] := by unfold seg; rw [List.drop_eq_nil_iff, List.length_take]; omega
theorem seg_all : seg L 0 L.length = L := by unfold seg; rw [List.take_length, List.drop_zero]
theorem seg_cons {i j : Nat} {p : α} (hij : i < j) (hp : L[i]? = some p) : seg L i j = p :: seg L (i + 1) j := by
  unfold seg
  have hi := (List.getElem?_eq_some_iff.1 hp).1
  rw [List.drop_eq_getElem_cons (by rw [List.length_take]; omega)]
  congr 1
  rw [List.getElem_take]
  exact (List.getElem?_eq_some_iff.1 hp).2
theorem seg_one {i : Nat} {p : α} (hp : L[i]? = some p) : seg L i (i + 1) = [p] := by rw [seg_cons (Nat.lt_succ_self i) hp, seg_self]
theorem seg_mem {i j x : Nat} {p : α} (hi : i ≤ x) (hj : x < j) (hp : L[x]? = some p) : p ∈ seg L i j := by
  have : (seg L i j)[x - i]? = some p := by rw [seg_get (by omega), show i + (x - i) = x by omega]; exact hp
  exact List.mem_of_getElem? this
theorem mem_seg {i j : Nat} {p : α} (h : p ∈ seg L i j) : ∃ x, i ≤ x ∧ x < j ∧ L[x]? = some p := by
  obtain ⟨x, hx⟩ := List.getElem?_of_mem h
  unfold seg at hx
  rw [List.getElem?_drop, List.getElem?_take] at hx
  split at hx
  · next hlt => exact ⟨i + x, by omega, hlt, hx⟩
  · cases hx
end

theorem kidsW_congr {G G' : List Pr → Nat → List NP} {gs : Nat → List Pr} {b : Nat} : ∀ h, (∀ c, c < h → gs c ≠ [] → ∀ b', G (gs c) b' = G' (gs c) b') → kidsW G gs b h = kidsW G' gs b h
  | 0, _ => rfl
  | h + 1, hG => by
    have ih := kidsW_congr (b := b) h fun c hc => hG c (by omega)
    show (if gs h = [] then _ else _) = (if gs h = [] then _ else _)
    rw [ih]
    split
    · rfl
    · next hne => rw [hG h (by omega) hne]
theorem forkW_congr {G G' : List Pr → Nat → List NP} {l : List Pr} {n b : Nat} (hG : ∀ c, c < 16 → grp (restL l n) n c ≠ [] → ∀ b', G (grp (restL l n) n c) b' = G' (grp (restL l n) n c) b') : forkW G l n b = forkW G' l n b := by
  unfold forkW
  rw [kidsW_congr 16 hG]
theorem grow_fuel : ∀ (f f' : Nat) (l : List Pr) (n b : Nat), 17 ≤ n + f → 17 ≤ n + f' → Fit l n → l ≠ [] → grow f l n b = grow f' l n b
  | 0, _, l, n, b, h, _, hl, hne => by
    obtain ⟨p, hp, _⟩ := headK_mem hne
    have := hl.len p hp
    omega
  | _ + 1, 0, l, n, b, _, h, hl, hne => by
    obtain ⟨p, hp, _⟩ := headK_mem hne
    have := hl.len p hp
    omega
  | f + 1, f' + 1, l, n, b, h, h', hl, hne => by
    unfold grow
    split
    · rfl
    split
    · rfl
    next h0 h1 =>
      have F := hl.fork (by omega)
      split
      · next hc =>
        rw [hc, Nat.add_zero] at F
        exact forkW_congr fun c _ hg b' => grow_fuel f f' _ (n + 1) b' (by omega) (by omega) (F.group c) hg
      · next hc =>
        congr 1
        exact forkW_congr fun c _ hg b' => grow_fuel f f' _ (n + comG l n + 1) b' (by omega) (by omega) (F.group c) hg
theorem grow_ext {f : Nat} {l : List Pr} {n b : Nat} (h : 17 ≤ n + (f + 1)) (hl : Fit l n) (h2 : 2 ≤ l.length) (hc : comG l n ≠ 0) :
    grow (f + 1) l n b = (extN (((headK l).drop n).take (comG l n)) ((b + 1 : Nat) : Int), (headK l).take n) :: grow f l (n + comG l n) (b + 1) := by
  have F := hl.fork h2
  have hne := F.ne
  have hcm := (hl.com hne).2
  obtain ⟨p, hp, e, _⟩ := headK_mem hne
  have h16 := hl.len p hp
  rw [e] at h16
  cases f with
  | zero => omega
  | succ f =>
    conv => lhs; unfold grow
    conv => rhs; unfold grow
    rw [if_neg (by omega), if_neg (by omega), if_neg hc, if_neg (by omega), if_neg (by omega), if_pos comG_again]
    congr 1
    exact forkW_congr fun c _ hg b' => grow_fuel (f + 1) f _ (n + comG l n + 1) b' (by omega) (by omega) (F.group c) hg
theorem grow_leaf {f : Nat} {l : List Pr} {n b : Nat} {p : Pr} (h : l = [p]) : grow (f + 1) l n b = [(leafN (p.1.drop n) p.2, p.1.take n)] := by
  subst h; unfold grow; rfl
theorem grow_fork {f : Nat} {l : List Pr} {n b : Nat} (h2 : 2 ≤ l.length) (hc : comG l n = 0) : grow (f + 1) l n b = forkW (fun g => grow f g (n + 1)) l n b := by
  conv => lhs; unfold grow
  rw [if_neg (by omega), if_neg (by omega), if_pos hc]

theorem kidsW_stay {G : List Pr → Nat → List NP} {gs : Nat → List Pr} {b : Nat} : ∀ (k h : Nat), (∀ c, h ≤ c → c < h + k → gs c = []) → kidsW G gs b (h + k) = kidsW G gs b h
  | 0, _, _ => rfl
  | k + 1, h, hg => by
    rw [← Nat.add_assoc]
    show (if gs (h + k) = [] then _ else _) = _
    rw [if_pos (hg (h + k) (by omega) (by omega))]
    exact kidsW_stay k h fun c h1 h2 => hg c h1 (by omega)
theorem filter_all {α : Type} {P : α → Bool} {l : List α} (h : ∀ x ∈ l, P x = true) : l.filter P = l := List.filter_eq_self.2 h
theorem filter_nil {α : Type} {P : α → Bool} {l : List α} (h : ∀ x ∈ l, P x = false) : l.filter P = [] := List.filter_eq_nil_iff.2 fun x hx => by rw [h x hx]; decide
/-- What the walk knows of a fork as far as the groups are laid. -/
structure Sofar (L : List Pr) (i0 e n h x : Nat) : Prop where
  ord : (seg L i0 e).Pairwise (fun p q => nib p n ≤ nib q n)
  lt : ∀ p ∈ seg L i0 e, nib p n < 16
  ix : i0 ≤ x
  xe : x ≤ e
  le : h ≤ 16
  upto : ∀ p ∈ seg L i0 x, nib p n < h
  from_ : ∀ p ∈ seg L x e, h ≤ nib p n
theorem Sofar.next {L : List Pr} {i0 e n h x y : Nat} (S : Sofar L i0 e n h x) {p : Pr} (hp : L[x]? = some p) (hxy : x < y) (hye : y ≤ e) (hr : ∀ z q, x ≤ z → z < y → L[z]? = some q → nib q n = nib p n)
    (hs : y < e → ∀ q, L[y]? = some q → nib q n ≠ nib p n) (he : e ≤ L.length) (G : List Pr → Nat → List NP) (b : Nat) :
    Sofar L i0 e n (nib p n + 1) y ∧ h ≤ nib p n ∧ nib p n < 16 ∧ grp (seg L i0 e) n (nib p n) = seg L x y ∧
    kidsW G (fun c => grp (seg L i0 e) n c) b (nib p n + 1) = ((kidsW G (fun c => grp (seg L i0 e) n c) b h).1.set (nib p n) ((b + (kidsW G (fun c => grp (seg L i0 e) n c) b h).2.length : Nat) : Int), (kidsW G (fun c => grp (seg L i0 e) n c) b h).2 ++ G (seg L x y) (b + (kidsW G (fun c => grp (seg L i0 e) n c) b h).2.length)) := by
  have hpm : p ∈ seg L x e := seg_mem (Nat.le_refl _) (by omega) hp
  have hpi : p ∈ seg L i0 e := seg_mem S.ix (by omega) hp
  have h1 := S.from_ p hpm
  have h16 := S.lt p hpi
  have hmid : ∀ q ∈ seg L x y, nib q n = nib p n := fun q hq => by
    obtain ⟨z, z1, z2, hz⟩ := mem_seg hq
    exact hr z q z1 z2 hz
  have hend : ∀ q ∈ seg L y e, nib p n < nib q n := fun q hq => by
    obtain ⟨z, z1, z2, hz⟩ := mem_seg hq
    obtain ⟨r, hr'⟩ : ∃ r, L[y]? = some r := ⟨L[y]'(by omega), List.getElem?_eq_getElem _⟩
    have hne := hs (by omega) r hr'
    have o := S.ord
    rw [List.pairwise_iff_getElem] at o
    have get : ∀ a u, i0 ≤ a → a < e → L[a]? = some u → ∃ (ha : a - i0 < (seg L i0 e).length), (seg L i0 e)[a - i0] = u := fun a u a1 a2 au => by
      have : (seg L i0 e)[a - i0]? = some u := by rw [seg_get (by omega), show i0 + (a - i0) = a by omega]; exact au
      exact List.getElem?_eq_some_iff.1 this
    obtain ⟨px, px'⟩ := get x p S.ix (by omega) hp
    have S_ix := S.ix
    obtain ⟨py, py'⟩ := get y r (by omega) (by omega) hr'
    obtain ⟨pz, pz'⟩ := get z q (by omega) z2 hz
    have o1 := o (x - i0) (y - i0) px py (by omega)
    rw [px', py'] at o1
    rcases Nat.lt_or_ge y z with hyz | hyz
    · have o2 := o (y - i0) (z - i0) py pz (by omega)
      rw [py', pz'] at o2
      omega
    · obtain rfl : z = y := by omega
      rw [hr'] at hz
      obtain rfl := Option.some.inj hz
      omega
  have hsplit : seg L i0 e = seg L i0 x ++ (seg L x y ++ seg L y e) := by
    rw [seg_append (Nat.le_of_lt hxy) hye, seg_append S.ix (by omega)]
  have hgrp : grp (seg L i0 e) n (nib p n) = seg L x y := by
    unfold grp
    rw [hsplit, List.filter_append, List.filter_append, filter_nil (fun q hq => by have := S.upto q hq; rw [beq_eq_false_iff_ne]; omega), filter_all (fun q hq => by rw [hmid q hq]; exact beq_self_eq_true _), filter_nil (fun q hq => by have := hend q hq; rw [beq_eq_false_iff_ne]; omega)]
    simp
  have hne : seg L x y ≠ [] := List.ne_nil_of_mem (seg_mem (Nat.le_refl _) hxy hp)
  have hstay : kidsW G (fun c => grp (seg L i0 e) n c) b (nib p n) = kidsW G (fun c => grp (seg L i0 e) n c) b h := by
    have := kidsW_stay (G := G) (gs := fun c => grp (seg L i0 e) n c) (b := b) (nib p n - h) h fun c c1 c2 => by
      show List.filter _ _ = []
      rw [hsplit, List.filter_append, List.filter_append, filter_nil (fun q hq => by have := S.upto q hq; rw [beq_eq_false_iff_ne]; omega), filter_nil (fun q hq => by have := hmid q hq; rw [beq_eq_false_iff_ne]; omega), filter_nil (fun q hq => by have := hend q hq; rw [beq_eq_false_iff_ne]; omega)]
      rfl
    rwa [show h + (nib p n - h) = nib p n by omega] at this
  refine ⟨⟨S.ord, S.lt, by have := S.ix; omega, hye, by omega, fun q hq => ?_, fun q hq => by have := hend q hq; omega⟩, h1, h16, hgrp, ?_⟩
  · rw [← seg_append S.ix (Nat.le_of_lt hxy)] at hq
    rcases List.mem_append.1 hq with hq | hq
    · have := S.upto q hq; omega
    · have := hmid q hq; omega
  · show (if grp (seg L i0 e) n (nib p n) = [] then _ else _) = _
    rw [hgrp, if_neg hne, hstay]
    simp only [hgrp]
theorem Sofar.done {L : List Pr} {i0 e n h : Nat} (S : Sofar L i0 e n h e) (G : List Pr → Nat → List NP) (b : Nat) :
    kidsW G (fun c => grp (seg L i0 e) n c) b 16 = kidsW G (fun c => grp (seg L i0 e) n c) b h := by
  have hle := S.le
  have := kidsW_stay (G := G) (gs := fun c => grp (seg L i0 e) n c) (b := b) (16 - h) h fun c c1 _ => by
    show List.filter _ _ = []
    exact filter_nil fun q hq => by have := S.upto q hq; rw [beq_eq_false_iff_ne]; omega
  rwa [show h + (16 - h) = 16 by omega] at this
theorem Sofar.start {L : List Pr} {i e n i0 : Nat} (F : Fork (seg L i e) n) (h0 : restL (seg L i e) n = seg L i0 e) (hi : i0 ≤ e) : Sofar L i0 e n 0 i0 :=
  ⟨h0 ▸ F.order, fun p hp => by rw [← h0] at hp; exact F.restfit.nib_lt hp (F.long p hp), Nat.le_refl _, hi, by omega, fun p hp => by rw [seg_self] at hp; simp at hp, fun _ _ => Nat.zero_le _⟩
theorem rest_seg {L : List Pr} {i e n : Nat} {p : Pr} (hie : i < e) (hp : L[i]? = some p) : restL (seg L i e) n = if p.1.length = n then seg L (i + 1) e else seg L i e := by
  rw [seg_cons hie hp]
  unfold restL endsB
  by_cases h : p.1.length = n
  · rw [if_pos (by simpa using h), if_pos h]; rfl
  · rw [if_neg (by simpa using h), if_neg h]
theorem head_seg {L : List Pr} {i e : Nat} {p : Pr} (hie : i < e) (hp : L[i]? = some p) : headK (seg L i e) = p.1 ∧ headVal (seg L i e) = p.2 := by rw [seg_cons hie hp]; exact ⟨rfl, rfl⟩
theorem last_seg {L : List Pr} {i e : Nat} {p : Pr} (hie : i ≤ e) (hp : L[e]? = some p) : lastL (seg L i (e + 1)) = p.1 := by
  rw [← seg_append hie (Nat.le_succ e), seg_one hp]
  unfold lastL
  rw [List.getLast?_append]
  rfl

end Go.Proofs.YtjpjcojabjkaaaaDoor
namespace Go.Proofs.YtjpjcojabjkaaaaDoor
set_option maxRecDepth 20000

def pmP (q : Bt) (p : Pr) : Pr := (q ++ p.1, p.2)
theorem pm_drop (q a : Bt) (n : Nat) : (q ++ a).drop (q.length + n) = a.drop n := by
  rw [List.drop_append, List.drop_eq_nil_of_le (by omega), List.nil_append]; congr 1; omega
theorem pm_headK (q : Bt) {l : List Pr} (h : l ≠ []) : headK (l.map (pmP q)) = q ++ headK l := by
  cases l with
  | nil => exact absurd rfl h
  | cons p r => rfl
theorem pm_lastL (q : Bt) {l : List Pr} (h : l ≠ []) : lastL (l.map (pmP q)) = q ++ lastL l := by
  unfold lastL
  rw [List.getLast?_map, List.getLast?_eq_some_getLast h]; rfl
theorem pm_comG (q : Bt) (l : List Pr) (n : Nat) : comG (l.map (pmP q)) (q.length + n) = comG l n := by
  by_cases h : l = []
  · subst h
    unfold comG
    simp [headK, lastL, comN]
  · unfold comG
    rw [pm_headK q h, pm_lastL q h, pm_drop, pm_drop]
theorem pm_ends (q : Bt) (l : List Pr) (n : Nat) : endsB (l.map (pmP q)) (q.length + n) = endsB l n := by
  cases l with
  | nil => rfl
  | cons p r =>
    show decide ((q ++ p.1).length = q.length + n) = decide (p.1.length = n)
    rw [List.length_append, Bool.eq_iff_iff, decide_eq_true_eq, decide_eq_true_eq]; omega
theorem pm_rest (q : Bt) (l : List Pr) (n : Nat) : restL (l.map (pmP q)) (q.length + n) = (restL l n).map (pmP q) := by
  unfold restL
  rw [pm_ends]
  split
  · rw [List.map_tail]
  · rfl
theorem pm_nib (q : Bt) (p : Pr) (n : Nat) : nib (pmP q p) (q.length + n) = nib p n := by
  unfold nib pmP
  rw [List.getD_eq_getElem?_getD, List.getD_eq_getElem?_getD, List.getElem?_append_right (by omega), show q.length + n - q.length = n by omega]
theorem pm_grp (q : Bt) (l : List Pr) (n h : Nat) : grp (l.map (pmP q)) (q.length + n) h = (grp l n h).map (pmP q) := by
  unfold grp
  rw [List.filter_map]
  congr 1
  apply List.filter_congr
  intro p _
  show (nib (pmP q p) (q.length + n) == h) = _
  rw [pm_nib]
theorem kidsW_same (G G' : List Pr → Nat → List NP) (gs gs' : Nat → List Pr) (hg : ∀ h, gs h = [] ↔ gs' h = []) (hG : ∀ h b b', (G (gs h) b).length = (G' (gs' h) b').length) (b b' : Nat) : ∀ h, (kidsW G gs b h).2.length = (kidsW G' gs' b' h).2.length
  | 0 => rfl
  | h + 1 => by
    have ih := kidsW_same G G' gs gs' hg hG b b' h
    show (if gs h = [] then _ else _ : List Int × List NP).2.length = (if gs' h = [] then _ else _ : List Int × List NP).2.length
    by_cases e : gs h = []
    · rw [if_pos e, if_pos ((hg h).1 e)]; exact ih
    · rw [if_neg e, if_neg (fun e' => e ((hg h).2 e'))]
      simp only [List.length_append, ih]
      rw [hG h _ (b' + (kidsW G' gs' b' h).2.length)]
theorem fork_same (q : Bt) (f : Nat) (ih : ∀ (l : List Pr) (n b b' : Nat), (grow f (l.map (pmP q)) (q.length + n) b).length = (grow f l n b').length) (l : List Pr) (n b b' : Nat) :
    (forkW (fun g => grow f g (q.length + n + 1)) (l.map (pmP q)) (q.length + n) b).length = (forkW (fun g => grow f g (n + 1)) l n b').length := by
  unfold forkW
  simp only [List.length_cons]
  congr 1
  have e : (fun h => grp (restL (l.map (pmP q)) (q.length + n)) (q.length + n) h) = fun h => (grp (restL l n) n h).map (pmP q) := by
    funext h; rw [pm_rest, pm_grp]
  rw [e]
  exact kidsW_same _ _ _ _ (fun h => by rw [List.map_eq_nil_iff]) (fun h c c' => by rw [Nat.add_assoc]; exact ih _ _ _ _) _ _ 16
theorem grow_same (q : Bt) : ∀ (f : Nat) (l : List Pr) (n b b' : Nat), (grow f (l.map (pmP q)) (q.length + n) b).length = (grow f l n b').length
  | 0, _, _, _, _ => rfl
  | f + 1, l, n, b, b' => by
    unfold grow
    rw [List.length_map, pm_comG]
    by_cases h0 : l.length = 0
    · rw [if_pos h0, if_pos h0]
    rw [if_neg h0, if_neg h0]
    by_cases h1 : l.length = 1
    · rw [if_pos h1, if_pos h1]; rfl
    rw [if_neg h1, if_neg h1]
    by_cases hc : comG l n = 0
    · rw [if_pos hc, if_pos hc]
      exact fork_same q f (grow_same q f) l n b b'
    · rw [if_neg hc, if_neg hc]
      simp only [List.length_cons]
      congr 1
      rw [Nat.add_assoc q.length]
      exact fork_same q f (grow_same q f) l (n + comG l n) (b + 1) (b' + 1)
theorem comN_append (q a b : Bt) : comN (q ++ a) (q ++ b) = q.length + comN a b := by
  induction q with
  | nil => simp
  | cons x q ih =>
    show (if x = x then comN (q ++ a) (q ++ b) + 1 else 0) = _
    rw [if_pos rfl, ih]; simp only [List.length_cons]; omega
/-- A pair with a byte ahead of its key. -/
def byP (y : UInt8) (p : Pr) : Pr := (y :: p.1, p.2)
theorem byP_half (y : UInt8) (l : List Pr) : (l.map (byP y)).map halfP = (l.map halfP).map (pmP [hi y, lo y]) := by
  rw [List.map_map, List.map_map]; rfl
theorem by_ok (y : UInt8) (p : Pr) (h : okP p = true) (h8 : p.1.length < 8) : okP (byP y p) = true := by
  have hk := okP_key p h
  unfold okP byP
  simp only [List.length_cons, Bool.and_eq_true, decide_eq_true_eq]; omega
theorem by_may (y : UInt8) : ∀ {l : List Pr}, mayB l = true → (∀ p ∈ l, p.1.length < 8) → mayB (l.map (byP y)) = true
  | [], _, _ => rfl
  | [p], h, h7 => by
    have h1 : okP p = true := by simpa [mayB] using h
    have := by_ok y p h1 (h7 p (by simp))
    simpa [mayB] using this
  | p :: q :: r, h, h7 => by
    have h : (okP p && (upB p.1 q.1 && mayB (q :: r))) = true := h
    rw [Bool.and_eq_true, Bool.and_eq_true] at h
    obtain ⟨h1, h2, h3⟩ := h
    have ih := by_may y h3 (fun p hp => h7 p (List.mem_cons_of_mem _ hp))
    show (okP (byP y p) && (upB (y :: p.1) (y :: q.1) && mayB ((q :: r).map (byP y)))) = true
    rw [Bool.and_eq_true, Bool.and_eq_true]
    refine ⟨by_ok y p h1 (h7 p (by simp)), ?_, ih⟩
    unfold upB at h2 ⊢
    rw [less_cons, h2]; simp
/-- What a prefix does to a trie. -/
def PreSays (q : Bt) (t u : List Nd) : Prop := ∃ t0 u0 tr ur, t = t0 :: tr ∧ u = u0 :: ur ∧
  ((t0.kind = 3 ∧ ur.length = tr.length + 1 ∧ u0.kind = 2 ∧ u0.path = q ∧ ∃ u1 us, ur = u1 :: us ∧ u1.kind = 3) ∨ (t0.kind ≠ 3 ∧ ur.length = tr.length ∧ u0.kind = t0.kind ∧ u0.path = q ++ t0.path))
theorem pre_says {l : List Pr} (y : UInt8) (hne : l ≠ []) : PreSays [hi y, lo y] (buildN l) (buildN (l.map (byP y))) := by
  have hln : l.map halfP ≠ [] := by simpa using hne
  unfold buildN trieL
  rw [byP_half]
  generalize l.map halfP = k at hln
  have h0 : k.length ≠ 0 := fun e => hln (List.length_eq_zero_iff.1 e)
  generalize hq : ([hi y, lo y] : Bt) = q
  have hql : q.length = 2 := by rw [← hq]; rfl
  unfold grow
  rw [List.length_map, if_neg h0, if_neg h0]
  by_cases h1 : k.length = 1
  · rw [if_pos h1, if_pos h1]
    refine ⟨_, _, [], [], rfl, rfl, .inr ⟨by show (1 : Int) ≠ 3; decide, rfl, rfl, ?_⟩⟩
    show (headK (k.map (pmP q))).drop 0 = q ++ (headK k).drop 0
    rw [pm_headK q hln]; rfl
  rw [if_neg h1, if_neg h1]
  have hcg : comG (k.map (pmP q)) 0 = q.length + comG k 0 := by
    unfold comG
    rw [pm_headK q hln, pm_lastL q hln]
    exact comN_append q (headK k) (lastL k)
  have hpos : comG (k.map (pmP q)) 0 ≠ 0 := by rw [hcg, hql]; omega
  rw [if_neg hpos, hcg]
  simp only [Nat.zero_add]
  have hfs := fork_same q 16 (grow_same q 16) k (comG k 0)
  by_cases hc : comG k 0 = 0
  · rw [if_pos hc]
    have hfs1 := hfs 1 0
    rw [hc] at hfs1
    simp only [Nat.add_zero, Nat.zero_add] at hfs1
    simp only [hc, Nat.add_zero]
    refine ⟨_, _, _, _, rfl, rfl, .inl ⟨rfl, ?_, rfl, ?_, _, _, rfl, rfl⟩⟩
    · rw [List.length_map]
      show (forkW (fun g => grow 16 g (q.length + 1)) (k.map (pmP q)) q.length 1).length = _
      rw [hfs1]
      unfold forkW; simp
    · show ((headK (k.map (pmP q))).drop 0).take q.length = q
      rw [pm_headK q hln, List.drop_zero, List.take_left]
  · rw [if_neg hc]
    refine ⟨_, _, _, _, rfl, rfl, .inr ⟨by show (2 : Int) ≠ 3; decide, ?_, rfl, ?_⟩⟩
    · rw [List.length_map, List.length_map]
      exact hfs 1 1
    · show ((headK (k.map (pmP q))).drop 0).take (q.length + comG k 0) = q ++ ((headK k).drop 0).take (comG k 0)
      rw [pm_headK q hln, List.drop_zero, List.drop_zero, List.take_append]
      congr 1
      · rw [List.take_of_length_le (by omega)]
      · congr 1; omega

end Go.Proofs.YtjpjcojabjkaaaaDoor
namespace Go.Proofs.YtjpjcojabjkaaaaDoor
open Go.RowKit
set_option maxRecDepth 20000

/-- The worlds in which two cells of a block have these values. -/
structure CellsW (g o : Nat) (x y : Value) where
  v : World
  h0 : v.cell? ⟨g, o, none⟩ = some x
  h1 : v.cell? ⟨g, o + 1, none⟩ = some y
def HasC (g o : Nat) (x y : Value) (w : World) : Prop := ∃ q : CellsW g o x y, w = q.v
theorem HasC.of {g o : Nat} {x y : Value} {w : World} (h : w.cell? ⟨g, o, none⟩ = some x) (k : w.cell? ⟨g, o + 1, none⟩ = some y) : HasC g o x y w := ⟨⟨w, h, k⟩, rfl⟩
theorem HasC.new {g o : Nat} {x y : Value} {w w' : World} (h : HasC g o x y w) (hb : g < w.heap.size) (n : New w w') : HasC g o x y w' := by
  obtain ⟨⟨_, h0, h1⟩, rfl⟩ := h
  exact HasC.of ((n.cell hb).trans h0) ((n.cell hb).trans h1)
section
variable {P : Program} {o : Oper} {a : Act} {w : World}
theorem exec_convert {s t : TypeId} {x : Operand} {u v : Value} (ho : o.op = .convert s t x) (hx : a.eval x = u) (hr : (convert s t u).run P w = .ok v w) : (execOp a.eval o).run P w = .ok (.value v) w := by
  unfold execOp
  simp only [ho, hx, Sem.run_bind, hr, Result.andThen_ok, Sem.run_pure]
end
theorem info5' : (Tryd.prog.info? 5).map (fun i => (i.zero, i.size, i.bytes)) = some (some (.int .u8 0), 1, 1) := info5

end Go.Proofs.YtjpjcojabjkaaaaDoor
namespace Go.Proofs.YtjpjcojabjkaaaaDoor
open Go.RowKit
set_option maxRecDepth 20000

/-- Whatever lies below B, but for M, is as it was. -/
structure Thru (B M : Nat) (w w' : World) : Prop where
  os : w'.os = w.os
  tape : w'.tape = w.tape
  output : w'.output = w.output
  size : w.heap.size ≤ w'.heap.size
  block : ∀ k, k < B → k ≠ M → w'.heap[k]? = w.heap[k]?
section
variable {B M : Nat} {w w' w'' : World}
theorem Thru.refl (w : World) : Thru B M w w := ⟨rfl, rfl, rfl, Nat.le_refl _, fun _ _ _ => rfl⟩
theorem Thru.trans (h : Thru B M w w') (k : Thru B M w' w'') : Thru B M w w'' := ⟨k.os.trans h.os, k.tape.trans h.tape, k.output.trans h.output, Nat.le_trans h.size k.size, fun i hi hn => (k.block i hi hn).trans (h.block i hi hn)⟩
theorem Thru.new (n : New w w') (hB : B ≤ w.heap.size) : Thru B M w w' := ⟨n.os, n.tape, n.output, n.size, fun k hk _ => n.block k (by omega)⟩
theorem Thru.setM (w : World) (o : Nat) (v : Value) : Thru B M w (w.setCell ⟨M, o, none⟩ v) := ⟨rfl, rfl, rfl, by simp [World.setCell], fun k _ hn => Below.heap_setCell _ _ _ _ hn⟩
theorem Thru.setCell (w : World) {a : Addr} (hb : B ≤ a.block) (v : Value) : Thru B M w (w.setCell a v) := ⟨rfl, rfl, rfl, by simp [World.setCell], fun k hk _ => Below.heap_setCell _ _ _ _ (by omega)⟩
theorem Thru.setCells (w : World) {b : Nat} (hb : B ≤ b) (o : Nat) (vs : List Value) : Thru B M w (w.setCells b o vs) := by
  obtain ⟨h1, h2, h3⟩ := setCells_rest b vs o w
  exact ⟨h1, h2, h3, by rw [setCells_size]; exact Nat.le_refl _, fun k hk _ => setCells_other b vs o w k (by omega)⟩
theorem Thru.but {g : Nat} (h : But g w w') (hb : B ≤ g) : Thru B M w w' := ⟨h.os, h.tape, h.output, by rw [h.size]; exact Nat.le_refl _, fun k hk _ => h.block k (by omega)⟩
theorem Thru.grown {row : Option Nat} (hg : w.grownBy w' row) (hB : B ≤ w.heap.size) (hr : ∀ k, row = some k → B ≤ k) : Thru B M w w' := ⟨hg.os, hg.tape, hg.output, hg.size, fun k hk _ => hg.block k (by omega) (fun e => by have := hr k e.symm; omega)⟩
theorem Thru.cell (h : Thru B M w w') {g o : Nat} (hb : g < B) (hn : g ≠ M) : w'.cell? ⟨g, o, none⟩ = w.cell? ⟨g, o, none⟩ := by
  unfold World.cell?
  rw [h.block g hb hn]
/-- For what is behind it. -/
theorem Thru.toNew {w0 : World} (h : Thru B M w w') (k : New w0 w) (hB : w0.heap.size ≤ B) (hM : w0.heap.size ≤ M) : New w0 w' := ⟨h.os.trans k.os, h.tape.trans k.tape, h.output.trans k.output, Nat.le_trans k.size h.size, fun i hi => (h.block i (by omega) (by omega)).trans (k.block i hi)⟩
end

/-- The worlds in which cells have these values. -/
structure CsW (cs : List (Nat × Nat × Value)) where
  v : World
  h : ∀ x ∈ cs, v.cell? ⟨x.1, x.2.1, none⟩ = some x.2.2
def HasL (cs : List (Nat × Nat × Value)) (w : World) : Prop := ∃ q : CsW cs, w = q.v
theorem HasL.of {cs : List (Nat × Nat × Value)} {w : World} (h : ∀ x ∈ cs, w.cell? ⟨x.1, x.2.1, none⟩ = some x.2.2) : HasL cs w := ⟨⟨w, h⟩, rfl⟩
theorem HasL.tell {cs : List (Nat × Nat × Value)} {w : World} (h : HasL cs w) : ∀ x ∈ cs, w.cell? ⟨x.1, x.2.1, none⟩ = some x.2.2 := by
  obtain ⟨q, rfl⟩ := h; exact q.h
theorem HasL.new {cs : List (Nat × Nat × Value)} {w w' : World} (h : HasL cs w) (n : New w w') : HasL cs w' := HasL.of fun x hx => (n.cell (World.block_lt_of_cell? w _ (h.tell x hx))).trans (h.tell x hx)
theorem HasL.grown {cs : List (Nat × Nat × Value)} {w w' : World} {row : Option Nat} (h : HasL cs w) (G : w.grownBy w' row) (hne : ∀ x ∈ cs, some x.1 ≠ row) : HasL cs w' := HasL.of fun x hx => G.cell (h.tell x hx) (hne x hx)
theorem HasL.set {cs : List (Nat × Nat × Value)} {w : World} (h : HasL cs w) {a : Addr} (v : Value) (hne : ∀ x ∈ cs, x.1 ≠ a.block) : HasL cs (w.setCell a v) := HasL.of fun x hx => by
  have := h.tell x hx
  unfold World.cell? at this ⊢
  rw [Below.heap_setCell _ _ _ _ (hne x hx)]; exact this

theorem exec_store_bool {o : Oper} {a : Act} {w : World} {x y : Operand} {g off : Nat} {b : Bool} {u : Value} (ho : o.op = .store 4 x y) (hx : a.eval x = .pointer (some ⟨g, off, none⟩)) (hy : a.eval y = .bool b) (hc : w.cell? ⟨g, off, none⟩ = some u) (hf : w.frozen? ⟨g, off, none⟩ = false) :
    (execOp a.eval o).run Tryd.prog w = .ok .skip (w.setCell ⟨g, off, none⟩ (.bool b)) := by
  unfold execOp
  simp only [ho, hx, hy]
  simp [hc, hf, go_sem]
section
variable {P : Program} {ops : Array Oper} {Q : Exit → Act → World → Prop} {S : World → Prop} {rest : List Oper} {ks : List Nat} {k : Nat} {o : Oper} {a : Act} {w : World}
theorem wpPre_skip (d : Option Tmp) (w' : World) (ho : ops[k]? = some o) (hd : o.dst = d) (hw : Region.wanted o (yielded ops a.tmps) = true) (hrun : (execOp a.eval o).run P w = .ok .skip w') (hS : S w')
    (h : wpPre P ops Q S rest ks (a.put d undef) w') : wpPre P ops Q S rest (k :: ks) a w := by
  refine wpOp_wp ho hw ?_
  subst hd
  unfold Oper.wp
  rw [hrun]
  exact ⟨hS, h⟩
end
end Go.Proofs.YtjpjcojabjkaaaaDoor
namespace Go.Proofs.YtjpjcojabjkaaaaDoor
open Go.RowKit
set_option maxRecDepth 20000

def nd0 : Nd := ⟨0, [], false, [], no16⟩
theorem built49_0 : Tryd.prog.built 55 [] = some (ndA nd0) := by kernel_rfl
theorem built49_x (p : Bt) : Tryd.prog.built 55 [(0, .int .i64 2), (1, .string (bs p))] = some (ndA ⟨2, p, false, [], no16⟩) := by kernel_rfl
/-- The maker in memory: its pairs and their nibbles, the nodes and the paths so far. -/
def Mk (B M : Nat) (vl vn : Value) (ts : List Nd) (ps : List Bt) (w : World) : Prop := M < B ∧ B ≤ w.heap.size ∧ ∃ (vt vp : Value) (Ft Fp : Nat → Prop),
  Row w M #[vl, vn, vt, vp] 68 ∧ Pl w Ft 55 20 vt (ts.map ndC) ∧ Pl w Fp 9 1 vp (ps.map txC) ∧ (∀ b, Ft b → B ≤ b) ∧ (∀ b, Fp b → B ≤ b) ∧ (∀ b, Ft b → ¬ Fp b)
/-- Keys and values where they lie. -/
def Rd (gl ol gn : Nat) (L : List Pr) (w : World) : Prop := ∀ i p, L[i]? = some p → w.cell? ⟨gn, i, none⟩ = some (.string (bs p.1)) ∧ w.cell? ⟨gl, ol + i * 2 + 1, none⟩ = some (.string (bs p.2))
theorem Rd.thru {gl ol gn B M : Nat} {L : List Pr} {w w' : World} (h : Rd gl ol gn L w) (t : Thru B M w w') (hg : gl < B ∧ gl ≠ M ∧ gn < B ∧ gn ≠ M) : Rd gl ol gn L w' := fun i p hp =>
  ⟨(t.cell hg.2.2.1 hg.2.2.2).trans (h i p hp).1, (t.cell hg.1 hg.2.1).trans (h i p hp).2⟩
/-- Two footprints, apart, all new since B. -/
structure Apart (B : Nat) (Ft Fp : Nat → Prop) : Prop where
  t : ∀ b, Ft b → B ≤ b
  p : ∀ b, Fp b → B ≤ b
  d : ∀ b, Ft b → ¬ Fp b
def nds (G : List NP) : List Nd := G.map (·.1)
def pths (G : List NP) : List Bt := G.map (·.2)
theorem Mk.new {B M : Nat} {vl vn : Value} {ts : List Nd} {ps : List Bt} {w w' : World} (h : Mk B M vl vn ts ps w) (n : New w w') : Mk B M vl vn ts ps w' := by
  obtain ⟨a, b, vt, vp, Ft, Fp, R, Q, P, h⟩ := h
  exact ⟨a, Nat.le_trans b n.size, vt, vp, Ft, Fp, R.after n, Q.after n, P.after n, h⟩
theorem Mk.row {B M : Nat} {vl vn : Value} {ts : List Nd} {ps : List Bt} {w : World} (h : Mk B M vl vn ts ps w) : w.cell? ⟨M, 1, none⟩ = some vn ∧ w.cell? ⟨M, 0, none⟩ = some vl := by
  obtain ⟨_, _, vt, vp, Ft, Fp, R, _⟩ := h
  exact ⟨R.has 1 rfl, R.has 0 rfl⟩
theorem set_kid {E : Bool} {V : Bt} {ks : List Int} {h : Nat} (x : Int) : (ndC (brN E V ks)).set (4 + h) (.int .i64 x) = ndC (brN E V (ks.set h x)) := by
  unfold ndC brN
  rw [show 4 + h = h + 1 + 1 + 1 + 1 by omega]
  simp only [List.set_cons_succ, List.map_set]
theorem get_kid {E : Bool} {V : Bt} {ks : List Int} {h : Nat} {x : Int} (hk : ks[h]? = some x) : (ndC (brN E V ks))[4 + h]? = some (.int .i64 x) := by
  unfold ndC brN
  rw [show 4 + h = h + 1 + 1 + 1 + 1 by omega]
  simp only [List.getElem?_cons_succ, List.getElem?_map, hk, Option.map_some]
theorem set_mid' {α : Type} (a : List α) (x y : α) (c d : List α) : (a ++ [x] ++ c ++ d).set a.length y = a ++ [y] ++ (c ++ d) := by
  rw [List.append_assoc, List.append_assoc, List.set_append_right _ _ (Nat.le_refl _), Nat.sub_self, List.append_assoc]; rfl
theorem get_mid' {α : Type} (a : List α) (x : α) (c d : List α) : (a ++ [x] ++ c ++ d)[a.length]? = some x := by
  rw [List.append_assoc, List.append_assoc, List.getElem?_append_right (Nat.le_refl _), Nat.sub_self]; rfl
theorem set_mid {α : Type} (a : List α) (x y : α) (c : List α) : (a ++ [x] ++ c).set a.length y = a ++ y :: c := by
  rw [List.append_assoc, List.set_append_right _ _ (Nat.le_refl _), Nat.sub_self]; rfl
theorem get_mid {α : Type} (a : List α) (x : α) (c : List α) : (a ++ [x] ++ c)[a.length]? = some x := by
  rw [List.append_assoc, List.getElem?_append_right (Nat.le_refl _), Nat.sub_self]; rfl
def AddOk (f : Nat) : Prop := ∀ {w : World} {B M gl ol cl gn cn : Nat} {L : List Pr} {ts : List Nd} {ps : List Bt} {i e n : Nat}, 17 ≤ n + f → n ≤ 16 → i < e → e ≤ L.length → L.length ≤ 10000 → Fit (seg L i e) n →
  ts.length + 3 * (e - i) + 2 * f ≤ 40000 → ps.length = ts.length → L.length ≤ cl → L.length ≤ cn → (gl < B ∧ gl ≠ M ∧ gn < B ∧ gn ≠ M) →
  Mk B M (.slice (some ⟨gl, ol, none⟩) L.length cl) (.slice (some ⟨gn, 0, none⟩) L.length cn) ts ps w → Rd gl ol gn L w →
  Calls Tryd.prog 31 #[.pointer (some ⟨M, 0, none⟩), .int .i64 (i : Int), .int .i64 (e : Int), .int .i64 (n : Int)] w fun x w' => x = .returned (.int .i64 (ts.length : Int)) ∧
    Mk B M (.slice (some ⟨gl, ol, none⟩) L.length cl) (.slice (some ⟨gn, 0, none⟩) L.length cn) (ts ++ nds (grow f (seg L i e) n ts.length)) (ps ++ pths (grow f (seg L i e) n ts.length)) w' ∧ Thru B M w w'

end Go.Proofs.YtjpjcojabjkaaaaDoor
namespace Go.Proofs.YtjpjcojabjkaaaaDoor
open Go.RowKit
set_option maxRecDepth 20000

theorem run_copy_ls {w w1 : World} (T t ty : TypeId) (k : Nat) (z : Value) (bytes : Nat) (hT : Tryd.prog.underlying T = some (.slice t)) (hi : (Tryd.prog.info? t).map (fun i => (i.zero, i.size, i.bytes)) = some (some z, k, bytes)) (hz : z.cells.size = k) (hk : 0 < k) (hb : bytes ≤ 1000)
    {v : Value} {es : List (List Value)} (P : Ls w k v es) (he : ∀ e ∈ es, e.length = k) (hone : ∀ e ∈ es, ∀ u ∈ e, u.oneCell' = true) (h0 : 0 < es.length) (hn : es.length ≤ 1000000)
    {g0 : Nat} (R : Row w1 g0 #[] t) (N : New w w1) (hg0 : w.heap.size ≤ g0) :
    ∃ v' w', (Builtin.append_ #[T, T] ty #[.slice (some ⟨g0, 0, none⟩) 0 0, v]).run Tryd.prog w1 = .ok v' w' ∧ Pl w' (Fresh w) t k v' es ∧ New w w' ∧ w1.grownBy w' (some g0) := by
  obtain ⟨i0, hi0, hz0, hz1, hz2⟩ := info_parts hi
  have ho : w1.ownsRow w.heap.size t k (.slice (some ⟨g0, 0, none⟩) 0 0) 0 [] :=
    ⟨by simp, .inr ⟨g0, 0, #[], rfl, hg0, R, Nat.le_refl _, by unfold maxLen; omega, by simp, by simp⟩⟩
  obtain ⟨g, o, c, rfl, hc, hg, hr⟩ := P.full h0
  have hnews : ∀ j u, es.flatten[j]? = some u → w1.cell? ((⟨g, o, none⟩ : Addr).add j) = some u := fun j u hu => by
    have hj := (List.getElem?_eq_some_iff.1 hu).1
    rw [flat_length he] at hj
    have hi : j / k < es.length := Nat.div_lt_of_lt_mul (by rw [Nat.mul_comm]; exact hj)
    have hm : j % k < k := Nat.mod_lt _ hk
    have hjj : j / k * k + j % k = j := by rw [Nat.mul_comm]; exact Nat.div_add_mod j k
    rw [← hjj, flat_cell he hi hm] at hu
    have := hr (j / k) hi (j % k) u hu
    rw [Addr.add_mid]
    rw [Nat.add_assoc, hjj] at this
    exact (N.cell hg).trans this
  obtain ⟨v', w', hr2, h2, h3, _, h5⟩ := run_append_own_at (P := Tryd.prog) w1 w.heap.size T ty t i0 _ k bytes hT hi0 hz0 hz1 hz2 hz hk _ 0 [] ho ⟨g, o, none⟩ es.length c es.flatten (flat_length he) hnews
    (fun u hu => by obtain ⟨e, he', hu'⟩ := List.mem_flatten.1 hu; exact hone e he' u hu') (by unfold maxLen; omega) (by rw [Nat.zero_add]; exact Nat.le_trans (Nat.mul_le_mul hn hb) (by decide)) N.size
  have hfr : ∀ b, v'.ownBlock = some b → w.heap.size ≤ b := fun b hb => (h2.lt b hb).1
  refine ⟨v', w', hr2, ⟨he, ?_, hfr⟩, N.grown h3 (fun b hb => by cases hb; exact hg0), h3⟩
  rw [Nat.zero_add, List.nil_append] at h2
  exact ⟨h2.1, h2.2.imp id fun ⟨g, c, cur, hv, _, r⟩ => ⟨g, c, cur, hv, Nat.zero_le _, r⟩⟩
theorem run_buildNone (w : World) (T t : TypeId) (z : Value) (b n : Nat) (hu : Tryd.prog.underlying T = some (.slice t)) (hi : (Tryd.prog.info? t).map (fun i => (i.zero, i.size, i.bytes)) = some (some z, n, b)) :
    (Instr.buildSlice T 0 #[]).run Tryd.prog w = .ok (.slice (some ⟨w.heap.size, 0, none⟩) 0 0) (w.alloc (.cells #[] t)) := by
  obtain ⟨i0, hi0, hz0, hz1, hz2⟩ := info_parts hi
  simp [Instr.buildSlice, run_underlying hu, sizeOf, typeInfo, hi0, newRow, Instr.fill]
  exact congrArg (fun z => w.alloc (.cells z t)) (Array.ext' (by simp))
section
variable {P : Program} {o : Oper} {a : Act} {w : World}
theorem exec_buildNone {T : TypeId} {v : Value} {w' : World} (ho : o.op = .buildSlice T 0 #[]) (hr : (Instr.buildSlice T 0 #[]).run P w = .ok v w') : (execOp a.eval o).run P w = .ok (.value v) w' := by
  unfold execOp
  simp only [ho, List.map_toArray, List.map_nil, Sem.run_bind, hr, Result.andThen_ok, Sem.run_pure]
theorem exec_load {ty : TypeId} {x : Operand} (ho : o.op = .load ty x) (g off : Nat) (hx : a.eval x = .pointer (some ⟨g, off, none⟩)) (cs : List Value) (hr : w.rangeAt g off cs) (d : TypeDesc)
    (hu : P.underlying ty = some d) (hd : d.isRow = true) (hi : (P.info? ty).map (·.size) = some cs.length) : (execOp a.eval o).run P w = .ok (.value (.agg cs.toArray)) w := by
  have h1 := run_loadVar_mid w g off ty cs d hr hu hd hi
  unfold execOp
  simp only [ho, hx, Instr.loadAt, Instr.sureAddr, Sem.run_bind, Sem.run_pure, Result.andThen_ok, h1]
end
theorem HasC.pair {g o : Nat} {p : Pr} {w : World} (h : HasC g o (.string (bs p.1)) (.string (bs p.2)) w) : w.rangeAt g o (prC p) := fun j u hu => by
  obtain ⟨⟨W, h0, h1⟩, rfl⟩ := h
  match j, hu with
  | 0, hu => obtain rfl := Option.some.inj hu; exact h0
  | 1, hu => obtain rfl := Option.some.inj hu; exact h1
end Go.Proofs.YtjpjcojabjkaaaaDoor
