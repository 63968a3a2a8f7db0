/-
  The document's own Pairs, said of lists: nodes gone through once, what leads to each and whether it was met; of pairs' nodes these are the pairs. Plain mathematics.
-/
import Derived.Test.YtelaiblhnhbgiaaDoorShpM
namespace Go.Proofs.YtelaiblhnhbgiaaDoor
set_option maxRecDepth 20000

def rkid (len i : Nat) (kind : Int) (e : Bt) (ks : List Int) (to : List Bt) (met : List Bool) : Nat → Option (List Bt × List Bool)
  | 0 => some (to, met)
  | c + 1 => match rkid len i kind e ks to met c with
    | none => none
    | some s => if ks.getD c 0 = 0 then some s else if ks.getD c 0 ≤ (i : Int) ∨ (len : Int) ≤ ks.getD c 0 ∨ s.2.getD (ks.getD c 0).toNat false = true then none
      else some (s.1.set (ks.getD c 0).toNat (childP kind e c), s.2.set (ks.getD c 0).toNat true)
def rnode (t : List Nd) (i : Nat) (s : List Pr × List Bt × List Bool) : Option (List Pr × List Bt × List Bool) :=
  if 0 < i ∧ s.2.2.getD i false = false then none
  else if 16 < (t.getD i noNd).path.length ∨ 16 < (s.2.1.getD i [] ++ (t.getD i noNd).path).length then none
  else if (t.getD i noNd).has = true ∧ keyB (s.2.1.getD i [] ++ (t.getD i noNd).path) = false then none
  else match rkid t.length i (t.getD i noNd).kind (s.2.1.getD i [] ++ (t.getD i noNd).path) (t.getD i noNd).kids s.2.1 s.2.2 16 with
    | none => none
    | some q => some (if (t.getD i noNd).has then s.1 ++ [(joinL (s.2.1.getD i [] ++ (t.getD i noNd).path), (t.getD i noNd).val)] else s.1, q.1, q.2)
def rN (t : List Nd) : Nat → Option (List Pr × List Bt × List Bool)
  | 0 => some ([], List.replicate t.length [], List.replicate t.length false)
  | i + 1 => match rN t i with
    | none => none
    | some s => rnode t i s
theorem rN_none {t : List Nd} {i : Nat} (h : rN t i = none) : ∀ j, rN t (i + j) = none
  | 0 => h
  | j + 1 => by
    show (match rN t (i + j) with | none => none | some s => rnode t (i + j) s) = none
    rw [rN_none h j]
theorem rkid_none {len i : Nat} {kind : Int} {e : Bt} {ks : List Int} {to : List Bt} {met : List Bool} {c : Nat} (h : rkid len i kind e ks to met c = none) : ∀ j, rkid len i kind e ks to met (c + j) = none
  | 0 => h
  | j + 1 => by
    show (match rkid len i kind e ks to met (c + j) with | none => none | some s => _) = none
    rw [rkid_none h j]
theorem rkid_succ {len i : Nat} {kind : Int} {e : Bt} {ks : List Int} {to : List Bt} {met : List Bool} {c : Nat} {s : List Bt × List Bool} (h : rkid len i kind e ks to met c = some s) : rkid len i kind e ks to met (c + 1) =
    if ks.getD c 0 = 0 then some s else if ks.getD c 0 ≤ (i : Int) ∨ (len : Int) ≤ ks.getD c 0 ∨ s.2.getD (ks.getD c 0).toNat false = true then none
      else some (s.1.set (ks.getD c 0).toNat (childP kind e c), s.2.set (ks.getD c 0).toNat true) := by
  show (match rkid len i kind e ks to met c with | none => none | some s => _) = _
  rw [h]
theorem rN_succ {t : List Nd} {i : Nat} {s : List Pr × List Bt × List Bool} (h : rN t i = some s) : rN t (i + 1) = rnode t i s := by
  show (match rN t i with | none => none | some s => rnode t i s) = _
  rw [h]
/-- Sizes of what was gathered so far. -/
structure RkOk (t : List Nd) (i : Nat) (s : List Pr × List Bt × List Bool) : Prop where
  to : s.2.1.length = t.length
  met : s.2.2.length = t.length
  few : s.1.length ≤ i
  path : ∀ p ∈ s.2.1, p.length ≤ 17
  pair : ∀ p ∈ s.1, p.1.length ≤ 16 ∧ p.2.length ≤ 4000
theorem childP_len (kind : Int) (e : Bt) (c : Nat) : (childP kind e c).length ≤ e.length + 1 := by
  unfold childP; split
  · rw [List.length_append]; exact Nat.le_refl _
  · exact Nat.le_succ _
theorem rkid_ok {t : List Nd} {i : Nat} {kind : Int} {e : Bt} {ks : List Int} {to : List Bt} {met : List Bool} (he : e.length ≤ 16) (h1 : to.length = t.length) (h2 : met.length = t.length) (h3 : ∀ p ∈ to, p.length ≤ 17) :
    ∀ {c : Nat} {s : List Bt × List Bool}, rkid t.length i kind e ks to met c = some s → s.1.length = t.length ∧ s.2.length = t.length ∧ ∀ p ∈ s.1, p.length ≤ 17
  | 0, s, h => by
    obtain rfl := Option.some.inj h
    exact ⟨h1, h2, h3⟩
  | c + 1, s, h => by
    cases hq : rkid t.length i kind e ks to met c with
    | none =>
      have := rkid_none hq 1
      rw [this] at h; cases h
    | some q =>
      obtain ⟨a1, a2, a3⟩ := rkid_ok he h1 h2 h3 hq
      rw [rkid_succ hq] at h
      split at h
      · obtain rfl := Option.some.inj h
        exact ⟨a1, a2, a3⟩
      · split at h
        · cases h
        · obtain rfl := Option.some.inj h
          refine ⟨by rw [List.length_set]; exact a1, by rw [List.length_set]; exact a2, fun p hp => ?_⟩
          rcases List.mem_or_eq_of_mem_set hp with hp | rfl
          · exact a3 p hp
          · have := childP_len kind e c; omega
theorem rk_ok {t : List Nd} (hv : ∀ m ∈ t, m.val.length ≤ 4000) : ∀ {i : Nat} {s : List Pr × List Bt × List Bool}, i ≤ t.length → rN t i = some s → RkOk t i s
  | 0, s, _, h => by
    obtain rfl := Option.some.inj h
    exact ⟨by simp, by simp, Nat.le_refl _, fun p hp => by rw [List.eq_of_mem_replicate hp]; exact Nat.zero_le _, fun p hp => by simp at hp⟩
  | i + 1, s, hi, h => by
    cases hq : rN t i with
    | none =>
      have := rN_none hq 1
      rw [this] at h; cases h
    | some q =>
      have K := rk_ok hv (by omega) hq
      rw [rN_succ hq] at h
      unfold rnode at h
      split at h
      · cases h
      split at h
      · cases h
      split at h
      · cases h
      next h1 h2 h3 =>
        have he : (q.2.1.getD i [] ++ (t.getD i noNd).path).length ≤ 16 := by omega
        cases hk : rkid t.length i (t.getD i noNd).kind (q.2.1.getD i [] ++ (t.getD i noNd).path) (t.getD i noNd).kids q.2.1 q.2.2 16 with
        | none => rw [hk] at h; cases h
        | some r =>
          rw [hk] at h
          obtain rfl := Option.some.inj h
          obtain ⟨a1, a2, a3⟩ := rkid_ok he K.to K.met K.path hk
          refine ⟨a1, a2, ?_, a3, ?_⟩
          · show (if _ then _ else _ : List Pr).length ≤ i + 1
            split
            · rw [List.length_append]; have := K.few; simp; omega
            · have := K.few; omega
          · intro p hp
            have hp : p ∈ (if (t.getD i noNd).has = true then q.1 ++ [(joinL (q.2.1.getD i [] ++ (t.getD i noNd).path), (t.getD i noNd).val)] else q.1) := hp
            split at hp
            · rcases List.mem_append.1 hp with hp | hp
              · exact K.pair p hp
              · obtain rfl := List.mem_singleton.1 hp
                refine ⟨?_, ?_⟩
                · have := joinL_length (q.2.1.getD i [] ++ (t.getD i noNd).path)
                  show (joinL _).length ≤ 16
                  omega
                · exact hv _ (getD_mem (by omega))
            · exact K.pair p hp

section
variable {l : List Pr} {T : List NP}
/-- Which nodes were met: those that are in a list. -/
def Met (N : Nat) (met : List Bool) (L : List Int) : Prop := met.length = N ∧ ∀ k, k < N → met[k]? = some (decide ((k : Int) ∈ L))
theorem Met.set {N : Nat} {met : List Bool} {L : List Int} (h : Met N met L) {j : Nat} (hj : j < N) : Met N (met.set j true) (L ++ [(j : Int)]) := by
  refine ⟨by rw [List.length_set]; exact h.1, fun k hk => ?_⟩
  by_cases e : j = k
  · subst e
    rw [List.getElem?_set_self (by rw [h.1]; exact hj)]
    rw [decide_eq_true (by simp)]
  · rw [List.getElem?_set_ne e, h.2 k hk]
    congr 1
    have : ((k : Int) ∈ L ++ [(j : Int)]) ↔ (k : Int) ∈ L := by
      rw [List.mem_append, List.mem_singleton]
      exact ⟨fun h => h.elim id (fun h => by omega), .inl⟩
    exact decide_eq_decide.2 this.symm
theorem fresh_link (B : Sh T) {i : Nat} {m : NP} (hm : T[i]? = some m) {c j : Nat} (hx : m.1.kids[c]? = some (j : Int)) (h0 : (j : Int) ≠ 0) (hj : j < T.length) : ¬ (j : Int) ∈ linksOf (T.take i) ++ nz (m.1.kids.take c) := by
  have h1 : linksOf T = linksOf (T.take (i + 1)) ++ linksOf (T.drop (i + 1)) := by rw [← linksOf_append, List.take_append_drop]
  rw [links_more hm, nz_split m.1.kids (c + 1), nz_take_more hx h0] at h1
  have h2 := links_all B hj
  rw [h1] at h2
  simp only [List.count_append] at h2
  intro hmem
  have h3 : 0 < List.count (j : Int) (linksOf (T.take i) ++ nz (m.1.kids.take c)) := List.count_pos_iff.2 hmem
  rw [List.count_append] at h3
  have h4 : List.count (j : Int) [(j : Int)] = 1 := by simp
  rw [h4] at h2
  split at h2 <;> omega
theorem rled {P : List Pr} (B : Blk P 0 0 T) (S : Sh T) {i : Nat} {m : NP} (hm : T[i]? = some m) {to : List Bt} {met : List Bool} {D : Nat → Prop} (h : Led T to D) (hM : Met T.length met (linksOf (T.take i))) :
    ∀ c, c ≤ 16 → ∃ q, rkid T.length i m.1.kind (m.2 ++ m.1.path) m.1.kids to met c = some q ∧ Led T q.1 (fun k => D k ∨ ∃ c' : Nat, c' < c ∧ m.1.kids[c']? = some (k : Int) ∧ k ≠ 0) ∧ Met T.length q.2 (linksOf (T.take i) ++ nz (m.1.kids.take c))
  | 0, _ => ⟨(to, met), rfl, ⟨h.1, fun k m' hk hD => h.2 k m' hk (hD.elim id (fun ⟨c', h', _⟩ => absurd h' (by omega)))⟩, by rw [show nz (m.1.kids.take 0) = [] from rfl, List.append_nil]; exact hM⟩
  | c + 1, hc => by
    obtain ⟨q, hq, ⟨hl, hled⟩, hmt⟩ := rled B S hm h hM c (by omega)
    have hlen := blk_kids16 B (List.mem_of_getElem? hm)
    obtain ⟨x, hx⟩ : ∃ x, m.1.kids[c]? = some x := ⟨m.1.kids[c]'(by omega), List.getElem?_eq_getElem (by omega)⟩
    have hxD : m.1.kids.getD c 0 = x := by rw [List.getD_eq_getElem?_getD, hx]; rfl
    rw [rkid_succ hq, hxD]
    by_cases hx0 : x = 0
    · rw [if_pos hx0]
      subst hx0
      refine ⟨q, rfl, ⟨hl, fun k m' hk hD => hled k m' hk ?_⟩, by rw [nz_take_zero hx]; exact hmt⟩
      rcases hD with hD | ⟨c', h1, h2, h3⟩
      · exact .inl hD
      · by_cases ec : c' = c
        · subst ec
          rw [hx] at h2
          have := Option.some.inj h2
          omega
        · exact .inr ⟨c', by omega, h2, h3⟩
    · rw [if_neg hx0]
      obtain ⟨j, m', ej, hij, hjl, hm', hp⟩ := sh_kid S hm hx hx0
      have hfresh := fresh_link S hm (ej ▸ hx) (ej ▸ hx0) hjl
      have hmj : q.2.getD x.toNat false = false := by
        rw [ej, Int.toNat_natCast, List.getD_eq_getElem?_getD, hmt.2 j hjl, decide_eq_false hfresh]; rfl
      have hcp : childP m.1.kind (m.2 ++ m.1.path) c = m'.2 := by
        rcases hp with ⟨k2, _, _, k4⟩ | ⟨k3, k4⟩
        · rw [k2, k4]; rfl
        · rw [k3, k4]; rfl
      rw [if_neg (by rw [hmj]; simp; omega)]
      refine ⟨_, rfl, ⟨by rw [List.length_set]; exact hl, fun k mk hk hD => ?_⟩, by rw [nz_take_more hx hx0, ej, Int.toNat_natCast, ← List.append_assoc]; exact hmt.set hjl⟩
      show (q.1.set x.toNat _)[k]? = _
      rw [ej, Int.toNat_natCast]
      by_cases ek : j = k
      · subst ek
        rw [List.getElem?_set_self (by omega), hcp]
        rw [hm'] at hk
        rw [Option.some.inj hk]
      · rw [List.getElem?_set_ne ek]
        refine hled k mk hk ?_
        rcases hD with hD | ⟨c', h1, h2, h3⟩
        · exact .inl hD
        · by_cases ec : c' = c
          · subst ec
            rw [hx] at h2
            have := Option.some.inj h2
            omega
          · exact .inr ⟨c', by omega, h2, h3⟩
theorem rk_blk (F : Fit (l.map halfP) 0) (B : Blk (l.map halfP) 0 0 T) (S : Sh T) : ∀ i, i ≤ T.length → ∃ to met, rN (T.map (·.1)) i = some (((T.take i).filterMap valOf).map joinP, to, met) ∧ Led T to (done T i) ∧ Met T.length met (linksOf (T.take i))
  | 0, _ => by
    refine ⟨List.replicate T.length [], List.replicate T.length false, ?_, ⟨by simp, fun k m hk hD => ?_⟩, by simp, fun k hk => ?_⟩
    · show some ([], List.replicate (T.map (·.1)).length [], List.replicate (T.map (·.1)).length false) = _
      rw [List.length_map]; rfl
    · rcases hD with rfl | ⟨j, _, _, hj, _⟩
      · obtain ⟨m0, r0, e, h0⟩ := B.head
        subst e
        obtain rfl := Option.some.inj hk
        rw [h0]; rfl
      · exact absurd hj (by omega)
    · rw [List.getElem?_replicate, if_pos hk, decide_eq_false (by show ¬ _ ∈ ([] : List Int); simp)]
  | i + 1, hi => by
    obtain ⟨to, met, hg, hL, hM⟩ := rk_blk F B S i (by omega)
    obtain ⟨m, hm⟩ : ∃ m, T[i]? = some m := ⟨T[i]'(by omega), List.getElem?_eq_getElem (by omega)⟩
    have hD : done T i i ∧ (0 < i → (i : Int) ∈ linksOf (T.take i)) := by
      rcases Nat.eq_zero_or_pos i with h0 | h0
      · exact ⟨.inl h0, fun h => by omega⟩
      · obtain ⟨j, mj, c, hj, hmj, hc⟩ := blk_parent B h0 (by omega)
        refine ⟨.inr ⟨j, mj, c, hj, hmj, hc, by omega⟩, fun _ => links_mem.2 ⟨j, mj, ?_, c, hc, by omega⟩⟩
        rw [List.getElem?_take, if_pos hj]; exact hmj
    have hpi : to.getD i [] = m.2 := by rw [List.getD_eq_getElem?_getD, hL.2 i m hm hD.1]; rfl
    obtain ⟨q, hq, hLq, hMq⟩ := rled B S hm hL hM 16 (Nat.le_refl _)
    have hlen16 := S.len m (List.mem_of_getElem? hm)
    have hkl := blk_kids16 B (List.mem_of_getElem? hm)
    refine ⟨q.1, q.2, ?_, ⟨hLq.1, fun k mk hk hDk => hLq.2 k mk hk ?_⟩, by rw [links_more hm]; rw [show m.1.kids.take 16 = m.1.kids from List.take_of_length_le (by omega)] at hMq; exact hMq⟩
    · rw [rN_succ hg]
      unfold rnode
      simp only [get_map1 hm, hpi, List.length_map, hq, filterMap_take _ _ _ _ hm]
      have hmt : ¬ (0 < i ∧ met.getD i false = false) := fun ⟨h1, h2⟩ => by
        rw [List.getD_eq_getElem?_getD, hM.2 i (by omega), decide_eq_true (hD.2 h1)] at h2
        cases h2
      rw [if_neg hmt, if_neg (by rw [List.length_append] at hlen16 ⊢; omega)]
      cases hh : m.1.has
      · rw [if_neg (by simp)]
        simp [valOf, hh]
      · have hmem : (m.2 ++ m.1.path, m.1.val) ∈ l.map halfP := by
          rw [← B.vals]
          exact List.mem_filterMap.2 ⟨m, List.mem_of_getElem? hm, by unfold valOf; rw [if_pos hh]⟩
        obtain ⟨p, hp, he⟩ := List.mem_map.1 hmem
        have hk : keyB (m.2 ++ m.1.path) = true := by
          have e1 : m.2 ++ m.1.path = ofL p.1 := (congrArg Prod.fst he).symm
          rw [e1]
          unfold keyB
          rw [halvesB_of, ofL_length, Bool.and_true]
          unfold oddB
          rw [decide_eq_false (by omega)]; rfl
        rw [if_neg (by rw [hk]; simp)]
        simp [valOf, hh, joinP]
    · rcases hDk with h0 | ⟨j, mj, c, hj, hmj, hc, h0⟩
      · exact .inl (.inl h0)
      · by_cases ej : j = i
        · subst ej
          rw [hm] at hmj
          obtain rfl := Option.some.inj hmj
          exact .inr ⟨c, by have := (List.getElem?_eq_some_iff.1 hc).1; omega, hc, h0⟩
        · exact .inl (.inr ⟨j, mj, c, by omega, hmj, hc, h0⟩)
end
theorem rN_trie {l : List Pr} (h : mayB l = true) : ∃ to met, rN (buildN l) (buildN l).length = some (l, to, met) := by
  by_cases hne : l = []
  · subst hne
    unfold buildN; rw [trie_nil]; exact ⟨_, _, rfl⟩
  · have B := trie_blk h hne
    obtain ⟨to, met, hg, _, _⟩ := rk_blk (may_fit h) B (sh_of h).1 _ (Nat.le_refl _)
    refine ⟨to, met, ?_⟩
    unfold buildN
    rw [List.length_map, hg, List.take_length, B.vals, List.map_map]
    have e1 : l.map (joinP ∘ halfP) = l := by
      conv => rhs; rw [← List.map_id l]
      exact List.map_congr_left fun p _ => join_half p
    rw [e1]
/-- The document's own answer is what is read. -/
theorem rN_read {t : List Nd} : (∀ s, readF t = some s → ∃ to met, rN t t.length = some (s.1, to, met)) ∧ (∀ l to met, rN t t.length = some (l, to, met) → mayB l = true → buildN l = t → ∃ s, readF t = some s ∧ s.1 = l) := by
  refine ⟨fun s h => ?_, fun l to met _ hm hb => ⟨(l, (trieL l).map (·.2)), readF_iff.2 ⟨hm, hb.symm, rfl⟩, rfl⟩⟩
  obtain ⟨h1, h2, _⟩ := readF_iff.1 (show readF t = some (s.1, s.2) from h)
  rw [h2]
  exact rN_trie h1

end Go.Proofs.YtelaiblhnhbgiaaDoor
