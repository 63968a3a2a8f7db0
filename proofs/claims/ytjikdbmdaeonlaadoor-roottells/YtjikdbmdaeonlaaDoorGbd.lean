/-
  RootContents's and RootValue's mathematics: equal hashes of equal Items go down to the values; a trie's form hangs on the keys alone. Plain mathematics.
-/
import Derived.Test.YtjikdbmdaeonlaaDoorGaw
namespace Go.Proofs.YtjikdbmdaeonlaaDoor
set_option maxRecDepth 20000

theorem rl_of {l : List Pr} {t : List Nd} (h : mayB l = true) (ht : t = buildN l) : readF t = some (l, (trieL l).map (·.2)) := readF_iff.2 ⟨h, ht, rfl⟩
/-- Who is a node's parent. -/
theorem parent_of {T : List NP} (S : Sh T) {i : Nat} (h0 : 0 < i) (hi : i < T.length) : ∃ (p c : Nat) (M : NP), T[p]? = some M ∧ p < i ∧ M.1.kids[c]? = some (i : Int) := by
  have hmem : (i : Int) ∈ linksOf T := by
    rw [S.links.mem_iff]
    unfold nums
    exact List.mem_map.2 ⟨i, List.mem_range'_1.2 ⟨by omega, by omega⟩, rfl⟩
  unfold linksOf at hmem
  obtain ⟨M, hM, hx⟩ := List.mem_flatMap.1 hmem
  obtain ⟨p, hp⟩ := List.getElem?_of_mem hM
  obtain ⟨c, hc⟩ := List.getElem?_of_mem (mem_nz.1 hx).1
  obtain ⟨j, _, e, hj, _⟩ := sh_kid S hp hc (by omega)
  exact ⟨p, c, M, hp, by omega, hc⟩
theorem node_of {T : List NP} {i : Nat} {M : NP} (h : T[i]? = some M) : (T.map (·.1))[i]? = some M.1 := by rw [List.getElem?_map, h]; rfl
theorem kids_same {ks js : List Int} (hm : maskT ks 16 = maskT js 16) {c : Nat} (hc : c < 16) : (ks.getD c 0 ≠ 0 ↔ js.getD c 0 ≠ 0) := by
  have h1 := maskT_bit ks c 16
  have h2 := maskT_bit js c 16
  rw [hm, h2] at h1
  by_cases a : ks.getD c 0 = 0 <;> by_cases b : js.getD c 0 = 0
  · exact ⟨fun h => absurd a h, fun h => absurd b h⟩
  · rw [if_pos ⟨hc, b⟩, if_neg (fun h => h.2 a)] at h1; cases h1
  · rw [if_neg (fun h => h.2 b), if_pos ⟨hc, a⟩] at h1; cases h1
  · exact ⟨fun _ => b, fun _ => a⟩
theorem nz_take_len {ks js : List Int} (hk : ks.length = 16) (hj : js.length = 16) (hm : maskT ks 16 = maskT js 16) : ∀ c, c ≤ 16 → (nz (ks.take c)).length = (nz (js.take c)).length
  | 0, _ => rfl
  | c + 1, hc => by
    have ih := nz_take_len hk hj hm c (by omega)
    have hs := kids_same hm (c := c) (by omega)
    obtain ⟨x, hx⟩ : ∃ x, ks[c]? = some x := ⟨ks[c]'(by omega), List.getElem?_eq_getElem (by omega)⟩
    obtain ⟨y, hy⟩ : ∃ y, js[c]? = some y := ⟨js[c]'(by omega), List.getElem?_eq_getElem (by omega)⟩
    rw [getD_some hx, getD_some hy] at hs
    by_cases h0 : x = 0
    · have h1 : y = 0 := by
        by_cases h1 : y = 0
        · exact h1
        · exact absurd h0 (hs.2 h1)
      subst h0 h1
      rw [nz_take_zero hx, nz_take_zero hy, ih]
    · rw [nz_take_more hx h0, nz_take_more hy (hs.1 h0), List.length_append, List.length_append, ih]; rfl
theorem kid_hash {ks : List Int} {hs : List Bt} {c : Nat} {x : Int} (hx : ks[c]? = some x) (h0 : x ≠ 0) : (kidH hs ks)[(nz (ks.take c)).length]? = some (hs.getD x.toNat []) := by
  unfold kidH
  rw [List.getElem?_map, nz_split ks (c + 1), nz_take_more hx h0, List.append_assoc, List.getElem?_append_right (Nat.le_refl _), Nat.sub_self]
  rfl
/-- Rising lists with the same members are one. -/
theorem rise_same : ∀ {l m : List Pr}, l.Pairwise (fun p q => ltL p.1 q.1) → m.Pairwise (fun p q => ltL p.1 q.1) → (∀ p, p ∈ l → p ∈ m) → (∀ p, p ∈ m → p ∈ l) → l = m
  | [], [], _, _, _, _ => rfl
  | [], q :: m, _, _, _, h => absurd (h q List.mem_cons_self) List.not_mem_nil
  | p :: l, [], _, _, h, _ => absurd (h p List.mem_cons_self) List.not_mem_nil
  | p :: l, q :: m, hl, hm, h1, h2 => by
    have hl' := List.pairwise_cons.1 hl
    have hm' := List.pairwise_cons.1 hm
    have e : p = q := by
      rcases List.mem_cons.1 (h1 p List.mem_cons_self) with e | e
      · exact e
      · rcases List.mem_cons.1 (h2 q List.mem_cons_self) with e' | e'
        · exact e'.symm
        · exact absurd (ltL_trans (hl'.1 q e') (hm'.1 p e)) (ltL_irrefl _)
    subst e
    congr 1
    refine rise_same hl'.2 hm'.2 (fun x hx => ?_) (fun x hx => ?_)
    · rcases List.mem_cons.1 (h1 x (List.mem_cons_of_mem _ hx)) with e | e
      · subst e; exact absurd (hl'.1 x hx) (ltL_irrefl _)
      · exact e
    · rcases List.mem_cons.1 (h2 x (List.mem_cons_of_mem _ hx)) with e | e
      · subst e; exact absurd (hm'.1 x hx) (ltL_irrefl _)
      · exact e
theorem root_path {l : List Pr} (h : mayB l = true) (hne : l ≠ []) : ∃ M, (trieL l)[0]? = some M ∧ M.2 = [] := by
  obtain ⟨m, r, e, hm⟩ := (trie_blk h hne).head
  exact ⟨m, by rw [e]; rfl, by rw [hm, List.take_zero]⟩
/-- Where equal hashes are of equal texts, what is in one trie is in the other. -/
theorem goes_down {l m : List Pr} (hl : mayB l = true) (hm : mayB m = true) (hln : l ≠ []) (hmn : m ≠ []) (h0 : (HL (buildN l)).getD 0 [] = (HL (buildN m)).getD 0 [])
    (H : ∀ (i k : Nat) a b, (buildN l)[i]? = some a → (buildN m)[k]? = some b → (HL (buildN l)).getD i [] = (HL (buildN m)).getD k [] → No.encL (itW a (HL (buildN l))) = No.encL (itW b (HL (buildN m)))) :
    ∀ (n i : Nat) (M : NP), i ≤ n → (trieL l)[i]? = some M → ∃ (k : Nat) (M' : NP), (trieL m)[k]? = some M' ∧ M'.2 = M.2 ∧ itW M.1 (HL (buildN l)) = itW M'.1 (HL (buildN m)) := by
  have Rl := rt_of hl
  have Rm := rt_of hm
  have Sl := (sh_of hl).1
  have Sm := (sh_of hm).1
  have step : ∀ (i k : Nat) M M', (trieL l)[i]? = some M → (trieL m)[k]? = some M' → (HL (buildN l)).getD i [] = (HL (buildN m)).getD k [] → itW M.1 (HL (buildN l)) = itW M'.1 (HL (buildN m)) := fun i k M M' h1 h2 e =>
    No.enc_inj (Rl.good (node_of h1)) (Rm.good (node_of h2)) (H i k _ _ (node_of h1) (node_of h2) e)
  intro n
  induction n with
  | zero =>
    intro i M hi hM
    obtain rfl : i = 0 := by omega
    obtain ⟨Ml, h1, h2⟩ := root_path hl hln
    obtain ⟨Mm, h3, h4⟩ := root_path hm hmn
    rw [h1] at hM
    obtain rfl : Ml = M := Option.some.inj hM
    exact ⟨0, Mm, h3, by rw [h4, h2], step 0 0 _ _ h1 h3 h0⟩
  | succ n ih =>
    intro i M hi hM
    rcases Nat.lt_or_ge i (n + 1) with hlt | hge
    · exact ih i M (by omega) hM
    obtain rfl : i = n + 1 := by omega
    obtain ⟨p, c, Mp, hMp, hp, hc⟩ := parent_of Sl (by omega) (List.getElem?_eq_some_iff.1 hM).1
    obtain ⟨k, Mk, hMk, hpath, hitem⟩ := ih p Mp (by omega) hMp
    have hk1 := Sl.k16 Mp (List.mem_of_getElem? hMp)
    have hk2 := Sm.k16 Mk (List.mem_of_getElem? hMk)
    have hc16 : c < 16 := by have := (List.getElem?_eq_some_iff.1 hc).1; omega
    have hmask : maskT Mp.1.kids 16 = maskT Mk.1.kids 16 := by
      have : ((maskT Mp.1.kids 16 : Nat) : Int) = (maskT Mk.1.kids 16 : Nat) := congrArg No.It.m hitem
      omega
    have hkind : Mp.1.kind = Mk.1.kind := congrArg No.It.k hitem
    have hpp : Mp.1.path = Mk.1.path := congrArg No.It.p hitem
    have hhs : kidH (HL (buildN l)) Mp.1.kids = kidH (HL (buildN m)) Mk.1.kids := congrArg No.It.hs hitem
    obtain ⟨y, hy⟩ : ∃ y, Mk.1.kids[c]? = some y := ⟨Mk.1.kids[c]'(by omega), List.getElem?_eq_getElem (by omega)⟩
    have hy0 : y ≠ 0 := by
      have := (kids_same hmask hc16).1 (by rw [getD_some hc]; omega)
      rwa [getD_some hy] at this
    have e1 := kid_hash (hs := HL (buildN l)) hc (by omega)
    have e2 := kid_hash (hs := HL (buildN m)) hy hy0
    rw [hhs, nz_take_len hk1 hk2 hmask c (by omega), e2] at e1
    obtain ⟨j, M1, ej, _, _, hM1, hw1⟩ := sh_kid Sl hMp hc (by omega)
    obtain ⟨j2, M2, ej2, _, _, hM2, hw2⟩ := sh_kid Sm hMk hy hy0
    obtain rfl : j = n + 1 := by omega
    rw [hM] at hM1
    obtain rfl : M = M1 := Option.some.inj hM1
    subst ej2
    have e3 : (HL (buildN l)).getD (n + 1) [] = (HL (buildN m)).getD j2 [] := by
      have := (Option.some.inj e1).symm
      rwa [Int.toNat_natCast, Int.toNat_natCast] at this
    refine ⟨j2, M2, hM2, ?_, step _ _ _ _ hM hM2 e3⟩
    rcases hw1 with ⟨k2, _, _, w1⟩ | ⟨k3, w1⟩
    · rcases hw2 with ⟨_, _, _, w2⟩ | ⟨k3', _⟩
      · rw [w1, w2, hpath, hpp]
      · rw [← hkind, k2] at k3'; exact absurd k3' (by decide)
    · rcases hw2 with ⟨k2', _, _, _⟩ | ⟨_, w2⟩
      · rw [← hkind, k3] at k2'; exact absurd k2' (by decide)
      · rw [w1, w2, hpath, hpp]
theorem pairs_in {l m : List Pr} (hl : mayB l = true) (hm : mayB m = true) (hln : l ≠ []) (hmn : m ≠ []) (h0 : (HL (buildN l)).getD 0 [] = (HL (buildN m)).getD 0 [])
    (H : ∀ (i k : Nat) a b, (buildN l)[i]? = some a → (buildN m)[k]? = some b → (HL (buildN l)).getD i [] = (HL (buildN m)).getD k [] → No.encL (itW a (HL (buildN l))) = No.encL (itW b (HL (buildN m)))) :
    ∀ p, p ∈ l.map halfP → p ∈ m.map halfP := by
  intro p hp
  have Bl := trie_blk hl hln
  have Bm := trie_blk hm hmn
  rw [← Bl.vals] at hp
  obtain ⟨M, hM, hv⟩ := List.mem_filterMap.1 hp
  obtain ⟨i, hi⟩ := List.getElem?_of_mem hM
  obtain ⟨k, M', hM', hpath, hitem⟩ := goes_down hl hm hln hmn h0 H i i M (Nat.le_refl _) hi
  rw [← Bm.vals]
  refine List.mem_filterMap.2 ⟨M', List.mem_of_getElem? hM', ?_⟩
  have e1 : M.1.has = M'.1.has := congrArg No.It.has hitem
  have e2 : M.1.path = M'.1.path := congrArg No.It.p hitem
  have e3 : M.1.val = M'.1.val := congrArg No.It.v hitem
  unfold valOf at hv ⊢
  rw [← e1, hpath, ← e2, ← e3]; exact hv
/-- Pairs whose tries have one root are one, or two unlike texts have one digest. -/
theorem contents {l m : List Pr} (hl : mayB l = true) (hm : mayB m = true) (hln : l ≠ []) (hmn : m ≠ []) (h0 : (HL (buildN l)).getD 0 [] = (HL (buildN m)).getD 0 [])
    (H : ∀ (i k : Nat) a b, (buildN l)[i]? = some a → (buildN m)[k]? = some b → (HL (buildN l)).getD i [] = (HL (buildN m)).getD k [] → No.encL (itW a (HL (buildN l))) = No.encL (itW b (HL (buildN m)))) : l = m := by
  have e := rise_same (may_fit hl).rise (may_fit hm).rise (pairs_in hl hm hln hmn h0 H) (pairs_in hm hl hmn hln h0.symm fun i k a b h1 h2 e => (H k i b a h2 h1 e.symm).symm)
  have hj : ∀ x : List Pr, (x.map halfP).map joinP = x := fun x => by
    rw [List.map_map]
    conv => rhs; rw [← List.map_id x]
    exact List.map_congr_left fun p _ => join_half p
  rw [← hj l, ← hj m, e]

/-- Pairs without values. -/
def er (l : List Pr) : List Pr := l.map fun p => (p.1, [])
def zN (m : NP) : NP := ({ m.1 with val := [] }, m.2)
theorem er_nil {l : List Pr} : er l = [] ↔ l = [] := by unfold er; rw [List.map_eq_nil_iff]
theorem er_headK (l : List Pr) : headK (er l) = headK l := by cases l <;> rfl
theorem er_headVal (l : List Pr) : headVal (er l) = [] := by cases l <;> rfl
theorem er_lastL (l : List Pr) : lastL (er l) = lastL l := by
  unfold lastL er
  rw [List.getLast?_map]
  cases l.getLast? <;> rfl
theorem er_comG (l : List Pr) (n : Nat) : comG (er l) n = comG l n := by unfold comG; rw [er_headK, er_lastL]
theorem er_ends (l : List Pr) (n : Nat) : endsB (er l) n = endsB l n := by cases l <;> rfl
theorem er_rest (l : List Pr) (n : Nat) : restL (er l) n = er (restL l n) := by
  unfold restL; rw [er_ends]
  split
  · cases l <;> rfl
  · rfl
theorem er_headV (l : List Pr) (n : Nat) : headV (er l) n = [] := by
  unfold headV
  split
  · cases l <;> rfl
  · rfl
theorem er_headP (l : List Pr) (n : Nat) : headP (er l) n = headP l n := by cases l <;> rfl
theorem er_grp (l : List Pr) (n h : Nat) : grp (er l) n h = er (grp l n h) := by
  unfold grp er
  rw [List.filter_map]
  rfl
theorem er_kids (G G' : List Pr → Nat → List NP) (hG : ∀ g b, G' (er g) b = (G g b).map zN) (gs : Nat → List Pr) (b : Nat) : ∀ h, kidsW G' (fun c => er (gs c)) b h = ((kidsW G gs b h).1, (kidsW G gs b h).2.map zN)
  | 0 => rfl
  | h + 1 => by
    have ih := er_kids G G' hG gs b h
    show (if er (gs h) = [] then kidsW G' (fun c => er (gs c)) b h else _) = ((if gs h = [] then kidsW G gs b h else _).1, (if gs h = [] then kidsW G gs b h else _).2.map zN)
    by_cases h0 : gs h = []
    · rw [if_pos (er_nil.2 h0), if_pos h0, ih]
    · rw [if_neg (fun e => h0 (er_nil.1 e)), if_neg h0, ih]
      show (_, _) = (_, _)
      rw [List.length_map, hG, List.map_append]
theorem er_fork (G G' : List Pr → Nat → List NP) (hG : ∀ g b, G' (er g) b = (G g b).map zN) (l : List Pr) (n b : Nat) : forkW G' (er l) n b = (forkW G l n b).map zN := by
  unfold forkW
  have e : (fun h => grp (restL (er l) n) n h) = fun h => er (grp (restL l n) n h) := funext fun h => by rw [er_rest, er_grp]
  rw [e, er_kids G G' hG, er_ends, er_headV, er_headP]
  rfl
theorem er_grow : ∀ (f : Nat) (l : List Pr) (n b : Nat), grow f (er l) n b = (grow f l n b).map zN
  | 0, _, _, _ => rfl
  | f + 1, l, n, b => by
    have hlen : (er l).length = l.length := List.length_map _
    unfold grow
    rw [hlen, er_headK, er_headVal, er_comG]
    by_cases h0 : l.length = 0
    · rw [if_pos h0, if_pos h0]; rfl
    rw [if_neg h0, if_neg h0]
    by_cases h1 : l.length = 1
    · rw [if_pos h1, if_pos h1]; rfl
    rw [if_neg h1, if_neg h1]
    by_cases hc : comG l n = 0
    · rw [if_pos hc, if_pos hc]
      exact er_fork _ _ (fun g b => er_grow f g _ b) l n b
    · rw [if_neg hc, if_neg hc, List.map_cons]
      congr 1
      exact er_fork _ _ (fun g b => er_grow f g _ b) l _ _
/-- Tries of pairs with the same keys have one form. -/
structure Alike (t u : List Nd) : Prop where
  len : t.length = u.length
  at_ : ∀ (i : Nat) a b, t[i]? = some a → u[i]? = some b → a.kind = b.kind ∧ a.path = b.path ∧ a.has = b.has ∧ a.kids = b.kids
theorem alike {l m : List Pr} (h : l.map (·.1) = m.map (·.1)) : Alike (buildN l) (buildN m) := by
  have e : er (l.map halfP) = er (m.map halfP) := by
    have : ∀ x : List Pr, er (x.map halfP) = (x.map (·.1)).map fun k => (ofL k, []) := fun x => by
      unfold er
      rw [List.map_map, List.map_map]; rfl
    rw [this, this, h]
  have e2 : (trieL l).map zN = (trieL m).map zN := by
    unfold trieL
    rw [← er_grow, ← er_grow, e]
  have hlen : (trieL l).length = (trieL m).length := by
    have := congrArg List.length e2
    rwa [List.length_map, List.length_map] at this
  refine ⟨by unfold buildN; rw [List.length_map, List.length_map]; exact hlen, fun i a b ha hb => ?_⟩
  unfold buildN at ha hb
  rw [List.getElem?_map] at ha hb
  obtain ⟨A, hA, rfl⟩ := Option.map_eq_some_iff.1 ha
  obtain ⟨B, hB, rfl⟩ := Option.map_eq_some_iff.1 hb
  have e3 : (((trieL l).map zN)[i]?) = (((trieL m).map zN)[i]?) := by rw [e2]
  rw [List.getElem?_map, List.getElem?_map, hA, hB] at e3
  have e4 : ({ A.1 with val := [] } : Nd) = { B.1 with val := [] } := congrArg Prod.fst (Option.some.inj e3)
  have f1 := congrArg Nd.kind e4
  have f2 := congrArg Nd.path e4
  have f3 := congrArg Nd.has e4
  have f4 := congrArg Nd.kids e4
  exact ⟨f1, f2, f3, f4⟩
/-- Where equal hashes are of equal Items, tries of one form and one root are one. -/
theorem same_down {l m : List Pr} (hl : mayB l = true) (hm : mayB m = true) (hk : l.map (·.1) = m.map (·.1)) (h0 : (HL (buildN l)).getD 0 [] = (HL (buildN m)).getD 0 [])
    (H : ∀ (i : Nat) a b, (buildN l)[i]? = some a → (buildN m)[i]? = some b → (HL (buildN l)).getD i [] = (HL (buildN m)).getD i [] → itW a (HL (buildN l)) = itW b (HL (buildN m))) : l = m := by
  have A := alike hk
  have Sl := (sh_of hl).1
  have hT : (trieL l).length = (buildN l).length := (List.length_map _).symm
  have key : ∀ (n i : Nat) a b, i ≤ n → (buildN l)[i]? = some a → (buildN m)[i]? = some b → itW a (HL (buildN l)) = itW b (HL (buildN m)) := by
    intro n
    induction n with
    | zero =>
      intro i a b hi ha hb
      obtain rfl : i = 0 := by omega
      exact H 0 a b ha hb h0
    | succ n ih =>
      intro i a b hi ha hb
      rcases Nat.lt_or_ge i (n + 1) with hlt | hge
      · exact ih i a b (by omega) ha hb
      obtain rfl : i = n + 1 := by omega
      obtain ⟨p, c, Mp, hMp, hp, hc⟩ := parent_of Sl (i := n + 1) (by omega) (by rw [hT]; exact (List.getElem?_eq_some_iff.1 ha).1)
      have hpl : p < (buildN m).length := by rw [← A.len, ← hT]; exact (List.getElem?_eq_some_iff.1 hMp).1
      have hbp := List.getElem?_eq_getElem hpl
      have hit := ih p Mp.1 _ (by omega) (node_of hMp) hbp
      have hkids := (A.at_ p _ _ (node_of hMp) hbp).2.2.2
      have hhs : kidH (HL (buildN l)) Mp.1.kids = kidH (HL (buildN m)) Mp.1.kids := by
        have := congrArg No.It.hs hit
        have e2 : kidH (HL (buildN l)) Mp.1.kids = kidH (HL (buildN m)) ((buildN m)[p]).kids := this
        rwa [← hkids] at e2
      unfold kidH at hhs
      have hx : ((n + 1 : Nat) : Int) ∈ nz Mp.1.kids := mem_nz.2 ⟨List.mem_of_getElem? hc, by omega⟩
      have := List.map_inj_left.1 hhs _ hx
      rw [Int.toNat_natCast] at this
      exact H _ a b ha hb this
  refine build_inj hl hm ?_
  apply List.ext_getElem?
  intro i
  by_cases hi : i < (buildN l).length
  · have ha := List.getElem?_eq_getElem hi
    have hb := List.getElem?_eq_getElem (show i < (buildN m).length by rw [← A.len]; exact hi)
    have hit := key i i _ _ (Nat.le_refl _) ha hb
    obtain ⟨e1, e2, e3, e4⟩ := A.at_ i _ _ ha hb
    have e5 : ((buildN l)[i]).val = ((buildN m)[i]'(by rw [← A.len]; exact hi)).val := congrArg No.It.v hit
    rw [ha, hb]
    congr 1
    revert e1 e2 e3 e4 e5
    generalize (buildN l)[i] = a
    generalize (buildN m)[i]'(by rw [← A.len]; exact hi) = b
    intro e1 e2 e3 e4 e5
    cases a; cases b
    simp only at *
    subst e1 e2 e3 e4 e5
    rfl
  · rw [List.getElem?_eq_none (by omega), List.getElem?_eq_none (by rw [← A.len]; omega)]

end Go.Proofs.YtjikdbmdaeonlaaDoor
