/-
  Nodes gone through once, the pairs that they would make and what leads to each; of pairs' nodes these are the pairs, and what leads there. Plain mathematics.
-/
import Derived.Test.YtelaiblhnhbgiaaDoorTrGrow
namespace Go.Proofs.YtelaiblhnhbgiaaDoor
set_option maxRecDepth 20000

def noNd : Nd := ⟨0, [], false, [], no16⟩
/-- What leads to a node's children up to a half; nothing, if one does not stand behind it. -/
def kidsG (len i : Nat) (kind : Int) (e : Bt) (ks : List Int) (ps : List Bt) : Nat → Option (List Bt)
  | 0 => some ps
  | c + 1 => match kidsG len i kind e ks ps c with
    | none => none
    | some q => if ks.getD c 0 = 0 then some q else if ks.getD c 0 ≤ (i : Int) ∨ (len : Int) ≤ ks.getD c 0 then none else some (q.set (ks.getD c 0).toNat (kidP kind e c))
/-- A node more. -/
def gatS (t : List Nd) (i : Nat) (s : List Pr × List Bt) : Option (List Pr × List Bt) :=
  if goodB (s.2.getD i [] ++ (t.getD i noNd).path) = false then none
  else if ((t.getD i noNd).has && !keyB (s.2.getD i [] ++ (t.getD i noNd).path)) = true then none
  else match kidsG t.length i (t.getD i noNd).kind (s.2.getD i [] ++ (t.getD i noNd).path) (t.getD i noNd).kids s.2 16 with
    | none => none
    | some ps => some (if (t.getD i noNd).has then s.1 ++ [(joinL (s.2.getD i [] ++ (t.getD i noNd).path), (t.getD i noNd).val)] else s.1, ps)
def gatN (t : List Nd) : Nat → Option (List Pr × List Bt)
  | 0 => some ([], List.replicate t.length [])
  | i + 1 => match gatN t i with
    | none => none
    | some s => gatS t i s
theorem gatN_none {t : List Nd} {i : Nat} (h : gatN t i = none) : ∀ j, gatN t (i + j) = none
  | 0 => h
  | j + 1 => by
    show (match gatN t (i + j) with | none => none | some s => gatS t (i + j) s) = none
    rw [gatN_none h j]
theorem kidsG_none {len i : Nat} {kind : Int} {e : Bt} {ks : List Int} {ps : List Bt} {c : Nat} (h : kidsG len i kind e ks ps c = none) : ∀ j, kidsG len i kind e ks ps (c + j) = none
  | 0 => h
  | j + 1 => by
    show (match kidsG len i kind e ks ps (c + j) with | none => none | some q => _) = none
    rw [kidsG_none h j]
theorem kidsG_length {len i : Nat} {kind : Int} {e : Bt} {ks : List Int} {ps : List Bt} : ∀ {c : Nat} {q : List Bt}, kidsG len i kind e ks ps c = some q → q.length = ps.length
  | 0, q, h => by rw [← Option.some.inj h]
  | c + 1, q, h => by
    have h : (match kidsG len i kind e ks ps c with | none => none | some q => if ks.getD c 0 = 0 then some q else if ks.getD c 0 ≤ (i : Int) ∨ (len : Int) ≤ ks.getD c 0 then none else some (q.set (ks.getD c 0).toNat (kidP kind e c))) = some q := h
    cases hq : kidsG len i kind e ks ps c with
    | none => rw [hq] at h; cases h
    | some q' =>
      rw [hq] at h
      have := kidsG_length hq
      simp only at h
      split at h
      · rw [← Option.some.inj h]; exact this
      · split at h
        · cases h
        · rw [← Option.some.inj h, List.length_set]; exact this

/-- The nodes' trie, read: the pairs whose trie it is, what leads to each node. -/
def readF (t : List Nd) : Option (List Pr × List Bt) := match gatN t t.length with
  | none => none
  | some s => if mayB s.1 && decide (buildN s.1 = t) then some s else none

section
variable {l : List Pr} {T : List NP}
theorem blk_halves {P : List Pr} (F : Fit P 0) (B : Blk P 0 0 T) {m : NP} (hm : m ∈ T) : goodB (m.2 ++ m.1.path) = true := by
  obtain ⟨p, hp, r, hr⟩ := B.key m hm
  have h1 := (F.len p hp).2
  have h2 := F.half p hp
  unfold goodB
  rw [Bool.and_eq_true, decide_eq_true_eq]
  constructor
  · rw [← hr, List.length_append] at h1; omega
  · refine halvesB_good fun k c hc => h2 c ?_
    rw [← hr]
    exact List.mem_append_left _ (List.mem_of_getElem? hc)
theorem get_map1 {i : Nat} {m : NP} (h : T[i]? = some m) : (T.map (·.1)).getD i noNd = m.1 := by
  rw [List.getD_eq_getElem?_getD, List.getElem?_map, h]; rfl
theorem links_mem {k : Int} : k ∈ linksOf T ↔ ∃ (j : Nat) (m : NP), T[j]? = some m ∧ ∃ c : Nat, m.1.kids[c]? = some k ∧ k ≠ 0 := by
  unfold linksOf nz
  rw [List.mem_flatMap]
  constructor
  · rintro ⟨m, hm, hk⟩
    obtain ⟨j, hj⟩ := List.getElem?_of_mem hm
    rw [List.mem_filter] at hk
    obtain ⟨c, hc⟩ := List.getElem?_of_mem hk.1
    exact ⟨j, m, hj, c, hc, by simpa using hk.2⟩
  · rintro ⟨j, m, hj, c, hc, hk⟩
    exact ⟨m, List.mem_of_getElem? hj, List.mem_filter.2 ⟨List.mem_of_getElem? hc, by simpa using hk⟩⟩
theorem nums_mem {b n : Nat} {k : Int} : k ∈ nums b n ↔ ∃ j : Nat, k = (j : Int) ∧ b ≤ j ∧ j < b + n := by
  unfold nums
  rw [List.mem_map]
  constructor
  · rintro ⟨j, hj, rfl⟩
    rw [List.mem_range'_1] at hj
    exact ⟨j, rfl, hj.1, hj.2⟩
  · rintro ⟨j, rfl, h1, h2⟩
    exact ⟨j, List.mem_range'_1.2 ⟨h1, h2⟩, rfl⟩
/-- Each node but the first has one that leads to it, ahead of it. -/
theorem blk_parent {P : List Pr} (B : Blk P 0 0 T) {k : Nat} (h0 : 0 < k) (hk : k < T.length) : ∃ (j : Nat) (m : NP) (c : Nat), j < k ∧ T[j]? = some m ∧ m.1.kids[c]? = some (k : Int) := by
  have : (k : Int) ∈ linksOf T := B.links.mem_iff.2 (nums_mem.2 ⟨k, rfl, by omega, by omega⟩)
  obtain ⟨j, m, hj, c, hc, hne⟩ := links_mem.1 this
  obtain ⟨j', _, e, hlt, _⟩ := B.kid j m hj c _ hc hne
  exact ⟨j, m, c, by omega, hj, hc⟩
theorem blk_kid {P : List Pr} (B : Blk P 0 0 T) {i : Nat} {m : NP} (hm : T[i]? = some m) {c : Nat} {k : Int} (hk : m.1.kids[c]? = some k) (h0 : k ≠ 0) :
    ∃ (j : Nat) (m' : NP), k = (j : Int) ∧ i < j ∧ j < T.length ∧ T[j]? = some m' ∧ m'.2 = kidP m.1.kind (m.2 ++ m.1.path) c := by
  obtain ⟨j, m', e, hlt, hm', hp, _⟩ := B.kid i m hm c k hk h0
  refine ⟨j, m', by rw [e, Nat.zero_add], hlt, (List.getElem?_eq_some_iff.1 hm').1, hm', ?_⟩
  rw [hp]
  unfold childP kidP
  rcases B.shape m (List.mem_of_getElem? hm) with ⟨_, _, h3⟩ | ⟨h1, _⟩ | ⟨h1, _⟩
  · rw [h3] at hk
    unfold no16 at hk; rw [List.getElem?_replicate] at hk
    split at hk
    · exact absurd (Option.some.inj hk).symm h0
    · cases hk
  · rw [h1]; rfl
  · rw [h1]; rfl
theorem blk_kids16 {P : List Pr} (B : Blk P 0 0 T) {m : NP} (hm : m ∈ T) : m.1.kids.length = 16 := by
  rcases B.shape m hm with ⟨_, _, h3⟩ | ⟨_, _, _, _, k, _, h⟩ | ⟨_, _, h, _⟩
  · rw [h3]; rfl
  · rw [h]; rfl
  · exact h
/-- What leads to each node so far. -/
def Led (T : List NP) (ps : List Bt) (D : Nat → Prop) : Prop := ps.length = T.length ∧ ∀ k m, T[k]? = some m → D k → ps[k]? = some m.2
theorem led_kids {P : List Pr} (B : Blk P 0 0 T) {i : Nat} {m : NP} (hm : T[i]? = some m) {ps : List Bt} {D : Nat → Prop} (h : Led T ps D) :
    ∀ c, c ≤ 16 → ∃ q, kidsG T.length i m.1.kind (m.2 ++ m.1.path) m.1.kids ps c = some q ∧ Led T q (fun k => D k ∨ ∃ c' : Nat, c' < c ∧ m.1.kids[c']? = some (k : Int) ∧ k ≠ 0)
  | 0, _ => ⟨ps, rfl, h.1, fun k m' hk hD => h.2 k m' hk (hD.elim id (fun ⟨c', h', _⟩ => absurd h' (by omega)))⟩
  | c + 1, hc => by
    obtain ⟨q, hq, hl, hled⟩ := led_kids B hm h c (by omega)
    have hlen := blk_kids16 B (List.mem_of_getElem? hm)
    obtain ⟨x, hx⟩ : ∃ x, m.1.kids[c]? = some x := ⟨m.1.kids[c]'(by omega), List.getElem?_eq_getElem (by omega)⟩
    have hxD : m.1.kids.getD c 0 = x := by rw [List.getD_eq_getElem?_getD, hx]; rfl
    have e : kidsG T.length i m.1.kind (m.2 ++ m.1.path) m.1.kids ps (c + 1) = if x = 0 then some q else if x ≤ (i : Int) ∨ (T.length : Int) ≤ x then none else some (q.set x.toNat (kidP m.1.kind (m.2 ++ m.1.path) c)) := by
      show (match kidsG T.length i m.1.kind (m.2 ++ m.1.path) m.1.kids ps c with | none => none | some q => _) = _
      rw [hq]
      simp only [hxD]
    rw [e]
    by_cases hx0 : x = 0
    · rw [if_pos hx0]
      refine ⟨q, rfl, hl, fun k m' hk hD => hled k m' hk ?_⟩
      rcases hD with hD | ⟨c', h1, h2, h3⟩
      · exact .inl hD
      · by_cases ec : c' = c
        · subst ec
          rw [hx] at h2
          have := Option.some.inj h2
          omega
        · exact .inr ⟨c', by omega, h2, h3⟩
    · rw [if_neg hx0]
      obtain ⟨j, m', ej, hij, hjl, hm', hp⟩ := blk_kid B hm hx hx0
      rw [if_neg (by omega)]
      refine ⟨_, rfl, by rw [List.length_set]; exact hl, fun k mk hk hD => ?_⟩
      rw [ej, Int.toNat_natCast]
      by_cases ek : j = k
      · subst ek
        rw [List.getElem?_set_self (by omega), ← hp]
        rw [hm'] at hk
        rw [Option.some.inj hk]
      · rw [List.getElem?_set_ne ek]
        refine hled k mk hk ?_
        rcases hD with hD | ⟨c', h1, h2, h3⟩
        · exact .inl hD
        · by_cases ec : c' = c
          · subst ec
            rw [hx] at h2
            have := Option.some.inj h2
            omega
          · exact .inr ⟨c', by omega, h2, h3⟩
def joinP (p : Pr) : Pr := (joinL p.1, p.2)
theorem join_half (p : Pr) : joinP (halfP p) = p := by unfold joinP halfP; rw [join_of]
def done (T : List NP) (i : Nat) : Nat → Prop := fun k => k = 0 ∨ ∃ (j : Nat) (m : NP) (c : Nat), j < i ∧ T[j]? = some m ∧ m.1.kids[c]? = some (k : Int) ∧ k ≠ 0
theorem filterMap_take {α β : Type} (f : α → Option β) (t : List α) (i : Nat) (m : α) (h : t[i]? = some m) : (t.take (i + 1)).filterMap f = (t.take i).filterMap f ++ (f m).toList := by
  rw [List.take_add_one, h, List.filterMap_append]
  cases hf : f m <;> simp [hf]
theorem gat_blk (F : Fit (l.map halfP) 0) (B : Blk (l.map halfP) 0 0 T) : ∀ i, i ≤ T.length → ∃ ps, gatN (T.map (·.1)) i = some (((T.take i).filterMap valOf).map joinP, ps) ∧ Led T ps (done T i)
  | 0, _ => by
    refine ⟨List.replicate T.length [], ?_, by simp, fun k m hk hD => ?_⟩
    · show some ([], List.replicate (T.map (·.1)).length []) = _
      rw [List.length_map]; rfl
    · rcases hD with rfl | ⟨j, _, _, hj, _⟩
      · obtain ⟨m0, r0, e, h0⟩ := B.head
        subst e
        obtain rfl := Option.some.inj hk
        rw [h0]; rfl
      · exact absurd hj (by omega)
  | i + 1, hi => by
    obtain ⟨ps, hg, hL⟩ := gat_blk F B i (by omega)
    obtain ⟨m, hm⟩ : ∃ m, T[i]? = some m := ⟨T[i]'(by omega), List.getElem?_eq_getElem (by omega)⟩
    have hD : done T i i := by
      rcases Nat.eq_zero_or_pos i with h0 | h0
      · exact .inl h0
      · obtain ⟨j, mj, c, hj, hmj, hc⟩ := blk_parent B h0 (by omega)
        exact .inr ⟨j, mj, c, hj, hmj, hc, by omega⟩
    have hpi : ps.getD i [] = m.2 := by rw [List.getD_eq_getElem?_getD, hL.2 i m hm hD]; rfl
    have hgood := blk_halves F B (List.mem_of_getElem? hm)
    obtain ⟨q, hq, hLq⟩ := led_kids B hm hL 16 (Nat.le_refl _)
    refine ⟨q, ?_, hLq.1, fun k mk hk hDk => hLq.2 k mk hk ?_⟩
    · show (match gatN (T.map fun m : NP => m.1) i with | none => none | some s => gatS (T.map fun m : NP => m.1) i s) = _
      rw [hg]
      show gatS (T.map fun m : NP => m.1) i _ = _
      unfold gatS
      simp only [get_map1 hm, hpi, hgood, List.length_map, hq, filterMap_take _ _ _ _ hm]
      rw [if_neg (by simp)]
      cases hh : m.1.has
      · rw [if_neg (by simp)]
        simp [valOf, hh]
      · have hmem : (m.2 ++ m.1.path, m.1.val) ∈ l.map halfP := by
          rw [← B.vals]
          exact List.mem_filterMap.2 ⟨m, List.mem_of_getElem? hm, by unfold valOf; rw [if_pos hh]⟩
        obtain ⟨p, hp, he⟩ := List.mem_map.1 hmem
        have hk : keyB (m.2 ++ m.1.path) = true := by
          have e1 : m.2 ++ m.1.path = ofL p.1 := (congrArg Prod.fst he).symm
          rw [e1]
          unfold keyB
          rw [halvesB_of, ofL_length, Bool.and_true]
          unfold oddB
          rw [decide_eq_false (by omega)]; rfl
        rw [if_neg (by rw [hk]; simp)]
        simp [valOf, hh, joinP]
    · rcases hDk with h0 | ⟨j, mj, c, hj, hmj, hc, h0⟩
      · exact .inl (.inl h0)
      · by_cases ej : j = i
        · subst ej
          rw [hm] at hmj
          obtain rfl := Option.some.inj hmj
          have hlen := blk_kids16 B (List.mem_of_getElem? hm)
          exact .inr ⟨c, by have := (List.getElem?_eq_some_iff.1 hc).1; omega, hc, h0⟩
        · exact .inl (.inr ⟨j, mj, c, by omega, hmj, hc, h0⟩)
end
theorem trie_blk {l : List Pr} (h : mayB l = true) (hne : l ≠ []) : Blk (l.map halfP) 0 0 (trieL l) := grow_blk 17 _ 0 0 (by omega) (may_fit h) (by simpa using hne)
theorem trie_nil : trieL [] = [] := grow_none 17 0 0
/-- Of pairs' nodes the pairs are these, and what leads to each is what led there. -/
theorem gat_trie {l : List Pr} (h : mayB l = true) : gatN (buildN l) (buildN l).length = some (l, (trieL l).map (·.2)) := by
  by_cases hne : l = []
  · subst hne
    unfold buildN; rw [trie_nil]; rfl
  · have B := trie_blk h hne
    obtain ⟨ps, hg, hl, hled⟩ := gat_blk (may_fit h) B _ (Nat.le_refl _)
    unfold buildN
    rw [List.length_map, hg, List.take_length, B.vals, List.map_map]
    have e1 : l.map (joinP ∘ halfP) = l := by
      conv => rhs; rw [← List.map_id l]
      exact List.map_congr_left fun p _ => join_half p
    have e2 : ps = (trieL l).map (·.2) := by
      apply List.ext_getElem?
      intro k
      by_cases hk : k < (trieL l).length
      · have hm := List.getElem?_eq_getElem hk
        rw [List.getElem?_map, hm]
        refine hled k _ hm ?_
        rcases Nat.eq_zero_or_pos k with h0 | h0
        · exact .inl h0
        · obtain ⟨j, mj, c, hj, hmj, hc⟩ := blk_parent B h0 hk
          exact .inr ⟨j, mj, c, by omega, hmj, hc, by omega⟩
      · rw [List.getElem?_eq_none (by omega), List.getElem?_eq_none (by rw [List.length_map]; omega)]
    rw [e1, e2]
/-- What is read of nodes: the pairs whose nodes they are. -/
theorem readF_iff {t : List Nd} {l : List Pr} {ps : List Bt} : readF t = some (l, ps) ↔ mayB l = true ∧ t = buildN l ∧ ps = (trieL l).map (·.2) := by
  constructor
  · intro h
    unfold readF at h
    cases hg : gatN t t.length with
    | none => rw [hg] at h; cases h
    | some s =>
      rw [hg] at h
      simp only at h
      split at h
      · next hb =>
        obtain rfl := Option.some.inj h
        rw [Bool.and_eq_true, decide_eq_true_eq] at hb
        obtain ⟨h1, h2⟩ := hb
        have := gat_trie h1
        simp only at h1 h2 this
        rw [h2, hg] at this
        exact ⟨h1, h2.symm, (Prod.mk.inj (Option.some.inj this)).2⟩
      · cases h
  · rintro ⟨h1, rfl, rfl⟩
    unfold readF
    rw [gat_trie h1]
    simp [h1]
theorem build_inj {l m : List Pr} (hl : mayB l = true) (hm : mayB m = true) (h : buildN l = buildN m) : l = m := by
  have h1 := gat_trie hl
  rw [h, gat_trie hm] at h1
  exact (Prod.mk.inj (Option.some.inj h1)).1.symm

end Go.Proofs.YtelaiblhnhbgiaaDoor
