/-
  read, Pairs, Paths, Good: of nodes the pairs whose nodes they are. TrieShape's mathematics: how often each node is a child of the nodes so far, how many children and values there are. Plain mathematics. How many bits of a mask are set: OnesCount64, OnesCount, childrenOf, and the document's own Bits. OnesCount, childrenOf. An Item in memory; whether it may be: goodValue, goodHashes, goodLeaf, goodExt, goodBranch, Good. Whether an Item may be: goodLeaf, goodExt, goodBranch, Good. A text's pieces in memory; what text returns: the pieces behind one another. Pairs: the pairs whose nodes nodes are, their values cloned.
-/
import Derived.Test.YtjikdbmdaeonlaaDoorGao
import Derived.Test.YtjikdbmdaeonlaaDoorGam
import Derived.Laws.Bits128
namespace Go.Proofs.YtjikdbmdaeonlaaDoor
open Go.RowKit
set_option maxRecDepth 20000

theorem build_k16 {l : List Pr} (h : mayB l = true) : ∀ x ∈ buildN l, x.kids.length = 16 := by
  by_cases hne : l = []
  · subst hne
    unfold buildN; rw [trie_nil]; intro x hx; simp at hx
  · intro x hx
    obtain ⟨m, hm, rfl⟩ := List.mem_map.1 hx
    exact blk_kids16 (trie_blk h hne) hm
theorem build_few {l : List Pr} (h : mayB l = true) : (buildN l).length ≤ 3 * l.length := by
  by_cases hne : l = []
  · subst hne
    unfold buildN; rw [trie_nil]; simp
  · have := (trie_blk h hne).few
    unfold buildN
    rw [List.length_map]
    rw [List.length_map] at this
    omega
/-- What read says of nodes. -/
def ReadSays (t : List Nd) (w : World) (e : Ending) (w' : World) : Prop := New w w' ∧
  ((readF t = none ∧ e = .returned (.tuple #[.slice none 0 0, .slice none 0 0, .bool false])) ∨
   (∃ s v1 v2, readF t = some s ∧ e = .returned (.tuple #[v1, v2, .bool true]) ∧ Pl w' (Fresh w) 58 2 v1 (s.1.map prC) ∧ Pl w' (Fresh w) 9 1 v2 (s.2.map txC)))
structure TOk (t : List Nd) : Prop where
  k16 : ∀ x ∈ t, x.kids.length = 16
  few : t.length ≤ 10000
  len : ∀ x ∈ t, x.path.length ≤ 4000 ∧ x.val.length ≤ 4000

set_option maxHeartbeats 2000000 in
theorem read_any {w : World} {v : Value} {t : List Nd} (P : Ls w 20 v (t.map ndC)) (K : TOk t) (hT : Tab w) :
    Calls Tryd.prog 49 #[v] w (ReadSays t w) := by
  have hg := gather_any P K.k16 K.few K.len hT
  have HP : Hid (Ls w 20 v (t.map ndC)) := P
  have hk := K.k16
  have hf := K.few
  have hvl := fun m hm => (K.len m hm).2
  clear P K
  go_enter Tryd.func49, Tryd.ntmps49
  go_wp2_with fail
  refine Calls.mono hg ?_
  rintro _ w1 ⟨N1, ⟨hn, rfl⟩ | ⟨s, v1, v2, hs, rfl, Q1, Q2⟩⟩
  · have HN : Hid (readF t = none) := by
      show _ = _
      unfold readF; rw [hn]
    clear hg hn hk hvl
    go_wp2_with fail
    go_ret3
    exact ⟨N1, .inl ⟨HN.out, rfl⟩⟩
  · have hok := gat_ok hvl (Nat.le_refl _) hs
    have hl4 : s.1.length ≤ 10000 := Nat.le_trans hok.few hf
    have hkl : ∀ p ∈ s.1, p.1.length ≤ 4000 ∧ p.2.length ≤ 4000 := fun p hp => ⟨by have := (hok.pair p hp).1; omega, (hok.pair p hp).2⟩
    have HQ1 : Hid (Pl w1 (Fresh w) 58 2 v1 (s.1.map prC)) := Q1
    have HQ2 : Hid (Pl w1 (Fresh w) 9 1 v2 (s.2.map txC)) := Q2
    have HS : Hid (gatN t t.length = some s) := hs
    obtain ⟨mb, hmb⟩ : ∃ b, mayB s.1 = b := ⟨_, rfl⟩
    cases mb
    · have hb := build_no Q1.ls hl4 hkl hmb
      have HN : Hid (readF t = none) := by
        show _ = _
        unfold readF; rw [hs]
        simp [hmb]
      clear hg hs hk hvl hmb Q1 Q2 hok hkl
      go_wp2_with fail
      refine Calls.mono hb ?_
      rintro _ w2 ⟨rfl, N2⟩
      clear hb
      go_wp2_with fail
      go_ret3
      exact ⟨N1.trans N2, .inl ⟨HN.out, rfl⟩⟩
    · have hb := build_yes Q1.ls hl4 hkl hmb
      have hb16 := build_k16 hmb
      have hbf := build_few hmb
      have HM : Hid (mayB s.1 = true) := hmb
      have hsame := fun {w2 : World} {u : Value} (N : New w w2) (P2 : Ls w2 20 u ((buildN s.1).map ndC)) => same_any (HP.out.after N) P2 hk hb16 (by omega) (by omega)
      clear hg hs hvl hmb Q1 Q2 hok hkl hb16 hk
      go_wp2_with fail
      refine Calls.mono hb ?_
      rintro _ w2 ⟨v3, rfl, Q3, N2⟩
      have hsm := hsame (N1.trans N2) Q3.ls
      clear hb hsame Q3
      obtain ⟨db, hdb⟩ : ∃ b, decide (t = buildN s.1) = b := ⟨_, rfl⟩
      rw [hdb] at hsm
      have HDB : Hid (decide (t = buildN s.1) = db) := hdb
      clear hdb
      cases db
      all_goals
        go_wp2_with (first
          | (go_at_call 72; refine Calls.mono hsm ?_; rintro _ w3 ⟨rfl, N3⟩))
        go_ret3
      · refine ⟨(N1.trans N2).trans N3, .inl ⟨?_, rfl⟩⟩
        unfold readF; rw [HS.out]
        have := of_decide_eq_false HDB.out
        simp only [HM.out, Bool.true_and]
        rw [if_neg]
        intro h
        exact this (of_decide_eq_true h).symm
      · refine ⟨(N1.trans N2).trans N3, .inr ⟨s, v1, v2, ?_, rfl, (HQ1.out.after N2).after N3, (HQ2.out.after N2).after N3⟩⟩
        unfold readF; rw [HS.out]
        have := of_decide_eq_true HDB.out
        simp only [HM.out, Bool.true_and]
        rw [if_pos]
        exact decide_eq_true this.symm

set_option maxHeartbeats 1000000 in
theorem good_trie {w : World} {v : Value} {t : List Nd} (P : Ls w 20 v (t.map ndC)) (K : TOk t) (hT : Tab w) :
    Calls Tryd.prog 29 #[v] w fun e w' => e = .returned (.bool (readF t).isSome) ∧ New w w' := by
  have hr := read_any P K hT
  clear P K
  go_enter Tryd.func29, Tryd.ntmps29
  go_wp2_with fail
  refine Calls.mono hr ?_
  rintro _ w1 ⟨N1, ⟨hn, rfl⟩ | ⟨s, v1, v2, hs, rfl, Q1, Q2⟩⟩
  · have HN : Hid (readF t = none) := hn
    clear hr hn
    go_wp2_with fail
    go_ret
    exact ⟨ret_bool (by rw [HN.out]; rfl), N1⟩
  · have HN : Hid (readF t = some s) := hs
    clear hr hs Q1 Q2
    go_wp2_with fail
    go_ret
    exact ⟨ret_bool (by rw [HN.out]; rfl), N1⟩

end Go.Proofs.YtjikdbmdaeonlaaDoor
namespace Go.Proofs.YtjikdbmdaeonlaaDoor
set_option maxRecDepth 20000

def inC (z : Int) : List Value := [.int .i64 z]
/-- How often each of the first N numbers is in a list. -/
def cntL (N : Nat) (L : List Int) : List Int := (List.range N).map fun k : Nat => ((L.count (k : Int) : Nat) : Int)
theorem cntL_len (N : Nat) (L : List Int) : (cntL N L).length = N := by unfold cntL; rw [List.length_map, List.length_range]
theorem cntL_get {N j : Nat} (L : List Int) (hj : j < N) : (cntL N L)[j]? = some ((L.count (j : Int) : Nat) : Int) := by
  unfold cntL; rw [List.getElem?_map, List.getElem?_range hj]; rfl
theorem cntL_nil (N : Nat) : cntL N [] = List.replicate N 0 := by
  apply List.ext_getElem?
  intro j
  rw [List.getElem?_replicate]
  by_cases hj : j < N
  · rw [cntL_get _ hj, if_pos hj]; rfl
  · rw [if_neg hj, List.getElem?_eq_none (by rw [cntL_len]; omega)]
theorem cntL_put {N j : Nat} (L : List Int) (hj : j < N) : (cntL N L).set j (((L.count (j : Int) : Nat) : Int) + 1) = cntL N (L ++ [(j : Int)]) := by
  apply List.ext_getElem?
  intro i
  by_cases hi : i < N
  · rw [cntL_get _ hi, List.count_append]
    by_cases h : j = i
    · subst h
      rw [List.getElem?_set_self (by rw [cntL_len]; exact hj)]
      simp
    · rw [List.getElem?_set_ne h, cntL_get _ hi]
      have : ([(j : Int)] : List Int).count (i : Int) = 0 := List.count_eq_zero.2 (by simp; omega)
      rw [this, Nat.add_zero]
  · rw [List.getElem?_eq_none (by rw [List.length_set, cntL_len]; omega), List.getElem?_eq_none (by rw [cntL_len]; omega)]
theorem count_nums (j : Nat) : ∀ (n b : Nat), (nums b n).count (j : Int) = if b ≤ j ∧ j < b + n then 1 else 0
  | 0, b => by rw [if_neg (by omega)]; rfl
  | n + 1, b => by
    rw [nums_cons, List.count_cons, count_nums j n (b + 1)]
    by_cases h : b = j
    · subst h
      rw [if_neg (by omega), if_pos (by simp), if_pos (by omega)]
    · rw [if_neg (show ¬ (((b : Int) == (j : Int)) = true) by rw [beq_iff_eq]; omega), Nat.add_zero]
      by_cases h2 : b ≤ j ∧ j < b + (n + 1)
      · rw [if_pos h2, if_pos (by omega)]
      · rw [if_neg h2, if_neg (by omega)]
theorem nz_take_zero {ks : List Int} {c : Nat} (h : ks[c]? = some 0) : nz (ks.take (c + 1)) = nz (ks.take c) := by
  rw [List.take_add_one, h]; unfold nz; rw [List.filter_append]; simp
theorem nz_take_more {ks : List Int} {c : Nat} {x : Int} (h : ks[c]? = some x) (h0 : x ≠ 0) : nz (ks.take (c + 1)) = nz (ks.take c) ++ [x] := by
  rw [List.take_add_one, h]; unfold nz; rw [List.filter_append]; simp [h0]

/-- What the walk asks of the nodes of pairs. -/
structure Sh (T : List NP) : Prop where
  kid : Kid 0 T
  links : (linksOf T).Perm (nums 1 (T.length - 1))
  shape : ∀ m ∈ T, Shape m.1
  rise : T.Pairwise (fun a c => ltL a.2 c.2)
  k16 : ∀ m ∈ T, m.1.kids.length = 16
  len : ∀ m ∈ T, (m.2 ++ m.1.path).length ≤ 16
theorem sh_of {l : List Pr} (h : mayB l = true) : Sh (trieL l) ∧ ((trieL l).filterMap valOf).length = l.length ∧ ((trieL l).length = 0 ∨ (trieL l).length + 2 ≤ 3 * l.length) := by
  by_cases hne : l = []
  · subst hne
    rw [trie_nil]
    exact ⟨⟨fun i m hm => by simp at hm, List.Perm.refl _, fun m hm => by simp at hm, List.Pairwise.nil, fun m hm => by simp at hm, fun m hm => by simp at hm⟩, rfl, .inl rfl⟩
  · have B := trie_blk h hne
    have hf := may_fit h
    refine ⟨⟨B.kid, by simpa using B.links, B.shape, B.rise, fun m hm => blk_kids16 B hm, fun m hm => ?_⟩, by rw [B.vals, List.length_map], .inr (by have := B.few; rwa [List.length_map] at this)⟩
    obtain ⟨p, hp, hpre⟩ := B.key m hm
    exact Nat.le_trans hpre.length_le (hf.len p hp).2
variable {T : List NP}
theorem sh_kid (h : Sh T) {i : Nat} {m : NP} (hm : T[i]? = some m) {c : Nat} {x : Int} (hx : m.1.kids[c]? = some x) (h0 : x ≠ 0) :
    ∃ (j : Nat) (m' : NP), x = (j : Int) ∧ i < j ∧ j < T.length ∧ T[j]? = some m' ∧ ((m.1.kind = 2 ∧ c = 0 ∧ m'.1.kind = 3 ∧ m'.2 = m.2 ++ m.1.path) ∨ (m.1.kind = 3 ∧ m'.2 = (m.2 ++ m.1.path) ++ [UInt8.ofNat c])) := by
  obtain ⟨j, m', e, hlt, hm', hp, hk⟩ := h.kid i m hm c x hx h0
  refine ⟨j, m', by rw [e, Nat.zero_add], hlt, (List.getElem?_eq_some_iff.1 hm').1, hm', ?_⟩
  rcases h.shape m (List.mem_of_getElem? hm) with ⟨_, _, h3⟩ | ⟨h2, _⟩ | ⟨h3, _⟩
  · rw [h3] at hx
    unfold no16 at hx
    rw [List.getElem?_replicate] at hx
    split at hx
    · exact absurd (Option.some.inj hx).symm h0
    · cases hx
  · left
    obtain ⟨hc, hk3⟩ := hk h2
    refine ⟨h2, hc, hk3, ?_⟩
    rw [hp, h2]
    rfl
  · right
    refine ⟨h3, ?_⟩
    rw [hp, h3]
    rfl
theorem sh_ways (h : Sh T) {m : NP} (hm : m ∈ T) : (m.1.kind = 1 ∧ m.1.has = true ∧ (nz m.1.kids).length = 0) ∨ (m.1.kind = 2 ∧ m.1.has = false ∧ m.1.path ≠ [] ∧ (nz m.1.kids).length = 1) ∨
    (m.1.kind = 3 ∧ m.1.path = [] ∧ 2 ≤ (nz m.1.kids).length + (if m.1.has then 1 else 0)) := by
  rcases h.shape m hm with ⟨h1, h2, h3⟩ | ⟨h1, h2, _, h4, k, hk, h5⟩ | ⟨h1, h2, _, h4, _⟩
  · exact .inl ⟨h1, h2, by rw [h3]; rfl⟩
  · refine .inr (.inl ⟨h1, h2, h4, ?_⟩)
    rw [h5]
    show (List.filter (fun k : Int => k != 0) (k :: List.replicate 15 0)).length = 1
    rw [List.filter_cons_of_pos (by rw [bne_iff_ne]; exact hk)]
    rfl
  · exact .inr (.inr ⟨h1, h2, h4⟩)
theorem nz_le (ks : List Int) : (nz ks).length ≤ ks.length := List.length_filter_le _ _
theorem links_more {i : Nat} {m : NP} (hm : T[i]? = some m) : linksOf (T.take (i + 1)) = linksOf (T.take i) ++ nz m.1.kids := by
  rw [List.take_add_one, hm, linksOf_append]
  show _ ++ (nz m.1.kids ++ []) = _
  rw [List.append_nil]
theorem nz_split (ks : List Int) (c : Nat) : nz ks = nz (ks.take c) ++ nz (ks.drop c) := by unfold nz; rw [← List.filter_append, List.take_append_drop]
theorem links_few (h : Sh T) {i : Nat} {m : NP} (hm : T[i]? = some m) (c : Nat) (x : Int) : (linksOf (T.take i) ++ nz (m.1.kids.take c)).count x ≤ T.length := by
  refine Nat.le_trans List.count_le_length ?_
  have h1 : linksOf T = linksOf (T.take (i + 1)) ++ linksOf (T.drop (i + 1)) := by rw [← linksOf_append, List.take_append_drop]
  have h2 := h.links.length_eq
  rw [h1, links_more hm, nz_split m.1.kids c] at h2
  simp only [List.length_append, nums, List.length_map, List.length_range'] at h2
  rw [List.length_append]; omega
theorem links_all (h : Sh T) {j : Nat} (hj : j < T.length) : (linksOf T).count (j : Int) = if 0 < j then 1 else 0 := by
  rw [h.links.count_eq, count_nums]
  by_cases h0 : 0 < j
  · rw [if_pos h0, if_pos (by omega)]
  · rw [if_neg h0, if_neg (by omega)]
theorem vals_more {i : Nat} {m : NP} (hm : T[i]? = some m) : ((T.take (i + 1)).filterMap valOf).length = ((T.take i).filterMap valOf).length + (if m.1.has then 1 else 0) := by
  rw [List.take_add_one, hm, List.filterMap_append, List.length_append]
  congr 1
  show (List.filterMap valOf [m]).length = _
  rw [List.filterMap_cons]
  unfold valOf
  cases h : m.1.has <;> simp
theorem vals_few (i : Nat) : ((T.take i).filterMap valOf).length ≤ T.length :=
  Nat.le_trans (List.length_filterMap_le _ _) (by rw [List.length_take]; omega)
theorem sh_rise (h : Sh T) {i : Nat} {a b : NP} (ha : T[i]? = some a) (hb : T[i + 1]? = some b) : ltL a.2 b.2 := by
  obtain ⟨h1, rfl⟩ := List.getElem?_eq_some_iff.1 ha
  obtain ⟨h2, rfl⟩ := List.getElem?_eq_some_iff.1 hb
  exact List.pairwise_iff_getElem.1 h.rise i (i + 1) h1 h2 (by omega)

end Go.Proofs.YtjikdbmdaeonlaaDoor
namespace Go.Proofs.YtjikdbmdaeonlaaDoor.No
open Go.RowKit
set_option maxRecDepth 20000
set_option linter.unusedVariables false

def an6 (a b : Nat) : Nat := (a % 18446744073709551616) &&& (b % 18446744073709551616)
def ad6 (a b : Nat) : Nat := (a + b) % 18446744073709551616
def dv6 (a b : Nat) : Nat := a / b
theorem an6_lt (a b : Nat) : an6 a b < 18446744073709551616 := Nat.and_lt_two_pow (n := 64) _ (Nat.mod_lt _ (by decide))
theorem toNat_long (a : Nat) : (BitVec.ofInt 64 (a : Int)).toNat = a % 18446744073709551616 := by
  rw [BitVec.ofInt_natCast, BitVec.toNat_ofNat]
theorem wrap_long (n : Nat) (h : n < 18446744073709551616) : IntKind.u64.wrap (n : Int) = (n : Int) := by rw [IntKind.wrap_u64]; omega
theorem an_u64 (a b : Nat) : bits .and .u64 (a : Int) (b : Int) = ((an6 a b : Nat) : Int) := by
  show IntKind.u64.wrap ((BitVec.ofInt 64 (a : Int) &&& BitVec.ofInt 64 (b : Int)).toNat : Int) = _
  rw [BitVec.toNat_and, toNat_long, toNat_long]
  exact wrap_long _ (an6_lt a b)
theorem ad_u64 (a b : Nat) : IntKind.u64.wrap ((a : Int) + (b : Int)) = ((ad6 a b : Nat) : Int) := by
  rw [IntKind.wrap_u64]; unfold ad6; omega
def oc1 (x : Nat) : Nat := ad6 (an6 (dv6 x 2) 6148914691236517205) (an6 x 6148914691236517205)
def oc2 (x : Nat) : Nat := ad6 (an6 (dv6 x 4) 3689348814741910323) (an6 x 3689348814741910323)
def oc3 (x : Nat) : Nat := an6 (ad6 (dv6 x 16) x) 1085102592571150095
def oc4 (x : Nat) : Nat := ad6 x (dv6 x 256)
def oc5 (x : Nat) : Nat := ad6 x (dv6 x 65536)
def oc6 (x : Nat) : Nat := ad6 x (dv6 x 4294967296)
def ocN (x : Nat) : Nat := oc6 (oc5 (oc4 (oc3 (oc2 (oc1 x)))))
/-- By bytes. -/
theorem land_split (x y : Nat) : x &&& y = 256 * (x / 256 &&& y / 256) + (x % 256 &&& y % 256) := by
  have h1 : (x &&& y) / 2 ^ 8 = x / 2 ^ 8 &&& y / 2 ^ 8 := Nat.and_div_two_pow
  have h2 : (x &&& y) % 2 ^ 8 = x % 2 ^ 8 &&& y % 2 ^ 8 := Nat.and_mod_two_pow
  have h3 := Nat.div_add_mod (x &&& y) 256
  rw [show (256 : Nat) = 2 ^ 8 from rfl] at h3 ⊢
  rw [← h1, ← h2]
  exact h3.symm
theorem land_le (x y : Nat) : x &&& y ≤ y := Nat.and_le_right
theorem an6_small (x m : Nat) (hx : x < 18446744073709551616) (hm : m < 18446744073709551616) : an6 x m = x &&& m := by unfold an6; rw [Nat.mod_eq_of_lt hx, Nat.mod_eq_of_lt hm]
theorem mask_low (a m : Nat) (h : a < 256) : a &&& m = a &&& (m % 256) := by
  have h1 := land_split a m
  rw [Nat.div_eq_of_lt h, Nat.zero_and, Nat.mod_eq_of_lt h] at h1
  omega
/-- Two bytes and a mask. -/
theorem mask_two (a b m k : Nat) (ha : a < 256) (hb : b < 256) (hm : m < 18446744073709551616) (h1 : m % 256 = k) (h2 : m / 256 % 256 = k) : an6 (256 * a + b) m = 256 * (a &&& k) + (b &&& k) := by
  rw [an6_small _ _ (by omega) hm, land_split, show (256 * a + b) / 256 = a by omega, show (256 * a + b) % 256 = b by omega, mask_low a _ ha, h1, h2]
def s1 (c : Nat) : Nat := (c / 2 &&& 85) + (c &&& 85)
def s2 (c : Nat) : Nat := (c / 4 &&& 51) + (c &&& 51)
def s3 (c : Nat) : Nat := (c / 16 + c) &&& 15
theorem low85 : ∀ c, c < 128 → (128 + c) &&& 85 = c &&& 85 := by decide +kernel
theorem low51 : ∀ p, p < 4 → ∀ c, c < 64 → (64 * p + c) &&& 51 = c &&& 51 := by decide +kernel
theorem low15 : ∀ p, p < 16 → ∀ c, c < 128 → (16 * p + c) &&& 15 = c &&& 15 := by decide +kernel
theorem byte_all : ∀ a, a < 256 → s3 (s2 (s1 a)) = popT a 8 ∧ s2 (s1 a) % 16 ≤ 4 ∧ s2 (s1 a) ≤ 68 ∧ s1 a ≤ 170 := by decide +kernel
theorem oc1_two (a b : Nat) (ha : a < 256) (hb : b < 256) : oc1 (256 * a + b) = 256 * s1 a + s1 b := by
  have h := (byte_all a ha).2.2.2
  have h' := (byte_all b hb).2.2.2
  unfold oc1 dv6
  rw [show (256 * a + b) / 2 = 256 * (a / 2) + (128 * (a % 2) + b / 2) by omega, mask_two (a / 2) _ _ 85 (by omega) (by omega) (by decide) (by decide) (by decide), mask_two a b _ 85 ha hb (by decide) (by decide) (by decide)]
  have e : (128 * (a % 2) + b / 2) &&& 85 = b / 2 &&& 85 := by
    have h0 : a % 2 = 0 ∨ a % 2 = 1 := by omega
    rcases h0 with h0 | h0
    · rw [h0, Nat.mul_zero, Nat.zero_add]
    · rw [h0, Nat.mul_one]; exact low85 _ (by omega)
  rw [e]
  unfold s1 at h h' ⊢
  unfold ad6
  omega
theorem oc2_two (a b : Nat) (ha : a ≤ 170) (hb : b ≤ 170) : oc2 (256 * a + b) = 256 * s2 a + s2 b := by
  unfold oc2 dv6
  rw [show (256 * a + b) / 4 = 256 * (a / 4) + (64 * (a % 4) + b / 4) by omega, mask_two (a / 4) _ _ 51 (by omega) (by omega) (by decide) (by decide) (by decide), mask_two a b _ 51 (by omega) (by omega) (by decide) (by decide) (by decide), low51 _ (by omega) _ (by omega)]
  have h1 := land_le (a / 4) 51
  have h2 := land_le a 51
  have h3 := land_le (b / 4) 51
  have h4 := land_le b 51
  unfold s2 ad6
  omega
theorem oc3_two (a b : Nat) (ha : a ≤ 68) (hb : b ≤ 68) (h16 : a % 16 ≤ 4) : oc3 (256 * a + b) = 256 * s3 a + s3 b := by
  unfold oc3 dv6 ad6
  rw [show ((256 * a + b) / 16 + (256 * a + b)) % 18446744073709551616 = 256 * (a / 16 + a) + (16 * (a % 16) + (b / 16 + b)) by omega, mask_two _ _ _ 15 (by omega) (by omega) (by decide) (by decide) (by decide), low15 _ (by omega) _ (by omega)]
  rfl
theorem popT_low (a b : Nat) (hb : b < 256) : ∀ k, k ≤ 8 → popT (256 * a + b) k = popT b k
  | 0, _ => rfl
  | k + 1, hk => by
    have ih := popT_low a b hb k (by omega)
    show popT (256 * a + b) k + (256 * a + b) / 2 ^ k % 2 = popT b k + b / 2 ^ k % 2
    rw [ih]
    have h8 : k = 0 ∨ k = 1 ∨ k = 2 ∨ k = 3 ∨ k = 4 ∨ k = 5 ∨ k = 6 ∨ k = 7 := by omega
    rcases h8 with rfl | rfl | rfl | rfl | rfl | rfl | rfl | rfl <;> omega
theorem popT_high (a b : Nat) (hb : b < 256) : ∀ k, popT (256 * a + b) (8 + k) = popT b 8 + popT a k
  | 0 => popT_low a b hb 8 (Nat.le_refl _)
  | k + 1 => by
    have ih := popT_high a b hb k
    show popT (256 * a + b) (8 + k) + (256 * a + b) / 2 ^ (8 + k) % 2 = popT b 8 + (popT a k + a / 2 ^ k % 2)
    have e : (256 * a + b) / 2 ^ (8 + k) = a / 2 ^ k := by
      rw [Nat.pow_add, ← Nat.div_div_eq_div_mul, show (256 * a + b) / 2 ^ 8 = a by omega]
    rw [ih, e]; omega
theorem oc_eq (x : Nat) (h : x < 65536) : ocN x % 128 = popN x ∧ ocN x < 9223372036854775808 := by
  obtain ⟨a, b, ha, hb, rfl⟩ : ∃ a b, a < 256 ∧ b < 256 ∧ x = 256 * a + b := ⟨x / 256, x % 256, by omega, by omega, by omega⟩
  obtain ⟨p1, p2, p3, p4⟩ := byte_all a ha
  obtain ⟨q1, q2, q3, q4⟩ := byte_all b hb
  have hp := popT_high a b hb 8
  have l1 := popT_le a 8
  have l2 := popT_le b 8
  unfold ocN
  rw [oc1_two a b ha hb, oc2_two _ _ p4 q4, oc3_two _ _ p3 q3 p2, p1, q1]
  unfold popN
  rw [show (16 : Nat) = 8 + 8 from rfl, hp]
  obtain ⟨A, hA⟩ : ∃ A, popT a 8 = A := ⟨_, rfl⟩
  obtain ⟨B, hB⟩ : ∃ B, popT b 8 = B := ⟨_, rfl⟩
  rw [hA] at l1 ⊢
  rw [hB] at l2 ⊢
  clear p1 p2 p3 p4 q1 q2 q3 q4 hp h
  have e4 : oc4 (256 * A + B) = 257 * A + B := by unfold oc4 ad6 dv6; omega
  have e5 : oc5 (257 * A + B) = 257 * A + B := by unfold oc5 ad6 dv6; rw [Nat.div_eq_of_lt (by omega)]; omega
  have e6 : oc6 (257 * A + B) = 257 * A + B := by unfold oc6 ad6 dv6; rw [Nat.div_eq_of_lt (by omega)]; omega
  rw [e4, e5, e6]
  omega

set_option maxHeartbeats 1600000 in
theorem ones64_any (x : Nat) (h : x < 65536) (w : World) :
    Calls Tryd.prog 99 #[.int .u64 (x : Int)] w fun e w' => e = .returned (.int .i64 (popN x : Nat)) ∧ w' = w := by
  have a1 : ∀ a : Nat, bits .and .u64 (a : Int) 6148914691236517205 = ((an6 a 6148914691236517205 : Nat) : Int) := fun a => an_u64 a 6148914691236517205
  have a2 : ∀ a : Nat, bits .and .u64 (a : Int) 3689348814741910323 = ((an6 a 3689348814741910323 : Nat) : Int) := fun a => an_u64 a 3689348814741910323
  have a3 : ∀ a : Nat, bits .and .u64 (a : Int) 1085102592571150095 = ((an6 a 1085102592571150095 : Nat) : Int) := fun a => an_u64 a 1085102592571150095
  have ad := ad_u64
  have d1 : ∀ a : Nat, (a : Int) / 2 = ((dv6 a 2 : Nat) : Int) := fun a => by unfold dv6; omega
  have d2 : ∀ a : Nat, (a : Int) / 4 = ((dv6 a 4 : Nat) : Int) := fun a => by unfold dv6; omega
  have d3 : ∀ a : Nat, (a : Int) / 16 = ((dv6 a 16 : Nat) : Int) := fun a => by unfold dv6; omega
  have d4 : ∀ a : Nat, (a : Int) / 256 = ((dv6 a 256 : Nat) : Int) := fun a => by unfold dv6; omega
  have d5 : ∀ a : Nat, (a : Int) / 65536 = ((dv6 a 65536 : Nat) : Int) := fun a => by unfold dv6; omega
  have d6 : ∀ a : Nat, (a : Int) / 4294967296 = ((dv6 a 4294967296 : Nat) : Int) := fun a => by unfold dv6; omega
  obtain ⟨z, hz⟩ : ∃ z, ocN x = z := ⟨_, rfl⟩
  obtain ⟨hoc, hlt⟩ := oc_eq x h
  rw [hz] at hoc hlt
  have HP : Hid (z % 128 = popN x) := hoc
  unfold ocN oc6 oc5 oc4 oc3 oc2 oc1 at hz
  have hmod : (z : Int) % 128 = ((popN x : Nat) : Int) := by omega
  have hand : bits .and .i64 (z : Int) 127 = (z : Int) % 128 := i64_and127 _
  clear hoc
  go_enter Tryd.func99, Tryd.ntmps99
  go_wp2_with fail
  go_ret
  exact ⟨rfl, rfl⟩

end Go.Proofs.YtjikdbmdaeonlaaDoor.No
namespace Go.Proofs.YtjikdbmdaeonlaaDoor.No
open Go.RowKit
set_option maxRecDepth 20000
set_option linter.unusedVariables false

set_option maxHeartbeats 400000 in
theorem ones_any (x : Nat) (h : x < 65536) (w : World) :
    Calls Tryd.prog 85 #[.int .u64 (x : Int)] w fun e w' => e = .returned (.int .i64 (popN x : Nat)) ∧ w' = w := by
  have HC := ones64_any x h
  go_enter Tryd.func85, Tryd.ntmps85
  go_wp2_with fail
  refine (HC _).mono ?_
  rintro e w1 ⟨rfl, rfl⟩
  go_wp2_with fail
  go_ret
  exact ⟨rfl, rfl⟩
set_option maxHeartbeats 400000 in
theorem children_any (x : Nat) (h : x < 65536) (w : World) :
    Calls Tryd.prog 68 #[.int .i64 (x : Int)] w fun e w' => e = .returned (.int .i64 (popN x : Nat)) ∧ w' = w := by
  have HC := ones_any x h
  have hm : (x : Int) % 18446744073709551616 = (x : Int) := by omega
  go_enter Tryd.func68, Tryd.ntmps68
  go_wp2_with fail
  refine (HC _).mono ?_
  rintro e w1 ⟨rfl, rfl⟩
  go_wp2_with fail
  go_ret
  exact ⟨rfl, rfl⟩

theorem i64_and1 (n : Int) : bits .and .i64 n 1 = n % 2 := by
  have h1 : (BitVec.ofInt 64 1).toNat = 2 ^ 1 - 1 := by decide
  have key : (BitVec.ofInt 64 n &&& BitVec.ofInt 64 1).toNat = (n % ((2 ^ 64 : Nat) : Int)).toNat % 2 ^ 1 := by
    rw [BitVec.toNat_and, BitVec.toNat_ofInt, h1, Nat.and_two_pow_sub_one_eq_mod]
  show IntKind.i64.wrap ((BitVec.ofInt 64 n &&& BitVec.ofInt 64 1).toNat : Nat) = n % 2
  rw [key, IntKind.wrap_i64]
  omega
set_option maxHeartbeats 400000 in
theorem bits_any (x : Nat) (h : x < 65536) (w : World) :
    Calls Tryd.prog 79 #[.int .i64 (x : Int)] w fun e w' => e = .returned (.int .i64 (popN x : Nat)) ∧ w' = w := by
  go_enter Tryd.func79, Tryd.ntmps79
  go_wp2_with fail
  go_loop [3, 4] (fun n i => ∃ k : Nat, k ≤ 16 ∧ i = .int .i64 (k : Int) ∧ n = .int .i64 ((popT x k : Nat) : Int)) (fun _ i => (16 - intOf i).toNat)
  case atStart => exact ⟨0, by omega, rfl, rfl⟩
  case round =>
    obtain ⟨k, hk, rfl, rfl⟩ := hrel
    have hp := popT_le x k
    by_cases hlt : k < 16
    · have hlt' : (k : Int) < 16 := by omega
      obtain ⟨y, hy⟩ : ∃ y, x / 2 ^ k % 2 = y := ⟨_, rfl⟩
      have hy1 : y ≤ 1 := by omega
      have hb : bits .and .i64 ((x : Int) / 2 ^ k) 1 = (y : Int) := by
        rw [i64_and1, ← hy, Int.natCast_emod, Int.natCast_ediv, Int.natCast_pow]; rfl
      have HN : Hid (popT x (k + 1) = popT x k + y) := by rw [← hy]; rfl
      clear hy
      generalize popT x k = t at hp HN ⊢
      go_wp2_with fail
      exact ⟨⟨k + 1, by omega, by go_num, by rw [HN.out]; go_num⟩, by simp [intOf]; omega⟩
    · obtain rfl : k = 16 := by omega
      go_wp2_with fail
      go_ret
      exact ⟨rfl, rfl⟩
end Go.Proofs.YtjikdbmdaeonlaaDoor.No
namespace Go.Proofs.YtjikdbmdaeonlaaDoor.No
open Go.RowKit
set_option maxRecDepth 20000
set_option linter.unusedVariables false

/-- A list of texts that is read. -/
def Tx (w : World) (a : Option Addr) (hs : List (List UInt8)) : Prop := 0 < hs.length → ∃ x, a = some x ∧ ∀ (i : Nat) h, hs[i]? = some h → w.cell? (x.add i) = some (.string (bs h))
theorem Tx.nil (w : World) (a : Option Addr) : Tx w a [] := fun h => absurd h (by simp)
theorem Tx.of {w w' : World} {a : Option Addr} {hs : List (List UInt8)} (h : Tx w a hs) (e : ∀ x, a = some x → x.block < w.heap.size → w'.heap[x.block]? = w.heap[x.block]?) : Tx w' a hs := fun h0 => by
  obtain ⟨x, rfl, hx⟩ := h h0
  refine ⟨x, rfl, fun i y hi => ?_⟩
  have hb : (x.add i).block < w.heap.size := World.block_lt_of_cell? w _ (hx i y hi)
  have hb' : (x.add i).block = x.block := by unfold Addr.add; split <;> rfl
  rw [hb'] at hb
  rw [World.cell?_of_block (w := w) (a := x.add i) (by rw [hb']; exact e x rfl hb)]
  exact hx i y hi
theorem Tx.after {w w' : World} {a : Option Addr} {hs : List (List UInt8)} (h : Tx w a hs) (k : New w w') : Tx w' a hs := h.of fun _ _ hb => k.block _ hb

/-- An Item as a value; its cells. -/
def itC (I : It) (a : Option Addr) (c : Nat) : Array Value := #[.int .i64 I.k, .string (bs I.p), .bool I.has, .string (bs I.v), .int .i64 I.m, .slice a I.hs.length c]
abbrev itV (I : It) (a : Option Addr) (c : Nat) : Value := .agg #[.int .i64 I.k, .string (bs I.p), .bool I.has, .string (bs I.v), .int .i64 I.m, .slice a I.hs.length c]

set_option maxHeartbeats 1000000 in
theorem goodValue_any (I : It) (hv : I.v.length ≤ 4000) (a : Option Addr) (c : Nat) (w : World) :
    Calls Tryd.prog 66 #[itV I a c] w fun e w' => e = .returned (.bool (goodV I)) ∧ New w w' := by
  obtain ⟨k, p, has, v, m, hs⟩ := I
  have HG : Hid (goodV ⟨k, p, has, v, m, hs⟩ = (decide (v.length ≤ 16) && (has || emptyB v))) := rfl
  have h1 : ∃ b, decide (v.length ≤ 16) = b := ⟨_, rfl⟩
  obtain ⟨b1, hb1⟩ := h1
  obtain ⟨b2, hb2⟩ : ∃ b, emptyB v = b := ⟨_, rfl⟩
  have e1 : decide (((bs v).size : Int) ≤ 16) = b1 := by rw [← hb1, bs_size]; exact decide_eq_decide.2 (by omega)
  have e2 : (bs v).toList.isEmpty = b2 := by rw [toList_L, L_bs, ← hb2]; cases v <;> rfl
  have e3 : ((bs v).toList == []) = b2 := by rw [toList_L, L_bs, ← hb2]; cases v <;> rfl
  have hl : (bs v).size ≤ 4000 := hv
  have HB : Hid (goodV ⟨k, p, has, v, m, hs⟩ = (b1 && (has || b2))) := by show _ = _; rw [HG.out, hb1, hb2]
  rw [HB.out]
  clear HG HB hb1 hb2 hv
  show Calls Tryd.prog 66 #[.agg #[.int .i64 k, .string (bs p), .bool has, .string (bs v), .int .i64 m, .slice a hs.length c]] w _
  generalize bs v = sv at *
  generalize bs p = sp at *
  cases b1 <;> cases has <;> cases b2
  all_goals
    go_enter Tryd.func66, Tryd.ntmps66
    go_wp2_with fail
    go_ret
    exact ⟨rfl, (New.refl w).alloc _⟩

set_option maxHeartbeats 1000000 in
theorem goodHashes_any (hs : List (List UInt8)) (a : Option Addr) (c n : Nat) (hn : n ≤ 1000000) (hl : hs.length ≤ 4611686018427387904) (w : World) (hT : Tx w a hs) (h4 : ∀ h ∈ hs, h.length ≤ 4611686018427387904) :
    Calls Tryd.prog 67 #[.slice a hs.length c, .int .i64 (n : Int)] w fun e w' => e = .returned (.bool (goodH hs n)) ∧ w' = w := by
  by_cases he : hs.length = n
  · have hd : ((hs.length : Int) != (n : Int)) = false := by rw [bne_eq_false_iff_eq]; omega
    have HG : Hid (goodH hs n = hs.all fun h => decide (h.length = 32)) := by show _ = _; unfold goodH; rw [decide_eq_true he]; rfl
    have HT : Hid (Tx w a hs) := hT
    have H4 : Hid (∀ h ∈ hs, h.length ≤ 4611686018427387904) := h4
    clear hT h4
    go_enter Tryd.func67, Tryd.ntmps67
    go_wp2_with fail
    go_loop [13] (fun i => ∃ k : Nat, k ≤ hs.length ∧ i = .int .i64 (k : Int) ∧ ∀ (j : Nat) h, j < k → hs[j]? = some h → h.length = 32) (fun i => hs.length - (intOf i).toNat)
    case atStart => exact ⟨0, by omega, rfl, fun j h hj => absurd hj (by omega)⟩
    case round =>
      obtain ⟨k, hk, rfl, hall⟩ := hrel
      have HA : Hid (∀ (j : Nat) h, j < k → hs[j]? = some h → h.length = 32) := hall
      clear hall
      by_cases hlt : k < hs.length
      · have hlt' : (k : Int) < (hs.length : Int) := by omega
        obtain ⟨x, rfl, hx⟩ := HT.out (by omega)
        have hk' : hs[k]? = some hs[k] := List.getElem?_eq_getElem hlt
        have hcell := hx k _ hk'
        have hsz : (bs hs[k]).size = hs[k].length := rfl
        have hb := H4.out _ (List.getElem_mem hlt)
        have HK : Hid (hs[k]? = some hs[k]) := hk'
        clear hx hk'
        by_cases h32 : hs[k].length = 32
        · have ht : (((bs hs[k]).size : Int) != 32) = false := by rw [bne_eq_false_iff_eq, hsz]; omega
          have HE : Hid (hs[k].length = 32) := h32
          rw [hsz] at ht
          clear h32
          generalize bs hs[k] = q at *
          go_wp2_with fail
          go_round
          case rel => exact ⟨k + 1, by omega, by go_num, fun j h hj hjh => by
            by_cases e : j = k
            · subst e; rw [HK.out] at hjh; cases hjh; exact HE.out
            · exact HA.out j h (by omega) hjh⟩
          case measure => simp [intOf]; omega
        · have ht : (((bs hs[k]).size : Int) != 32) = true := by rw [bne_iff_ne, hsz]; omega
          have HF : Hid (goodH hs n = false) := by
            show _ = _
            rw [HG.out, Bool.eq_false_iff]
            intro h
            exact h32 (of_decide_eq_true (List.all_eq_true.1 h _ (List.getElem_mem hlt)))
          rw [hsz] at ht
          clear h32
          generalize bs hs[k] = q at *
          go_wp2_with fail
          go_ret
          exact ⟨ret_bool HF.out.symm, rfl⟩
      · obtain rfl : k = hs.length := by omega
        have HF : Hid (goodH hs n = true) := by
          show _ = _
          rw [HG.out, List.all_eq_true]
          intro h hh
          obtain ⟨j, hj⟩ := List.getElem?_of_mem hh
          exact decide_eq_true (HA.out j h (List.getElem?_eq_some_iff.1 hj).1 hj)
        go_wp2_with fail
        go_ret
        exact ⟨ret_bool HF.out.symm, rfl⟩
  · have hd : ((hs.length : Int) != (n : Int)) = true := by rw [bne_iff_ne]; omega
    have HG : Hid (goodH hs n = false) := by show _ = _; unfold goodH; rw [decide_eq_false he]; rfl
    go_enter Tryd.func67, Tryd.ntmps67
    go_wp2_with fail
    go_ret
    exact ⟨ret_bool HG.out.symm, rfl⟩

end Go.Proofs.YtjikdbmdaeonlaaDoor.No
namespace Go.Proofs.YtjikdbmdaeonlaaDoor.No
open Go.RowKit
set_option maxRecDepth 20000
set_option linter.unusedVariables false

theorem int_beq (m z : Int) : (m == z) = decide (m = z) := by by_cases h : m = z <;> simp [h]
theorem nat_beq (n z : Nat) : ((n : Int) == (z : Int)) = decide (n = z) := by rw [int_beq]; exact decide_eq_decide.2 (by omega)
theorem isEmpty_bs (l : List UInt8) : (bs l).toList.isEmpty = emptyB l := by rw [toList_L, L_bs]; cases l <;> rfl
theorem beq_nil_bs (l : List UInt8) : ((bs l).toList == []) = emptyB l := by rw [toList_L, L_bs]; cases l <;> rfl
theorem bne_nil_bs (l : List UInt8) : ((bs l).toList != []) = !emptyB l := by rw [toList_L, L_bs]; cases l <;> rfl

set_option maxHeartbeats 1000000 in
theorem goodLeaf_any (I : It) (hp : I.p.length ≤ 4000) (hv : I.v.length ≤ 4000) (a : Option Addr) (c : Nat) (w : World) :
    Calls Tryd.prog 43 #[itV I a c] w fun e w' => e = .returned (.bool (goodLf I)) ∧ New w w' := by
  obtain ⟨k, p, has, v, m, hs⟩ := I
  obtain ⟨b1, hb1⟩ : ∃ b, goodB p = b := ⟨_, rfl⟩
  obtain ⟨b3, hb3⟩ : ∃ b, goodV ⟨k, p, has, v, m, hs⟩ = b := ⟨_, rfl⟩
  obtain ⟨b4, hb4⟩ : ∃ b, decide (m = 0) = b := ⟨_, rfl⟩
  obtain ⟨b5, hb5⟩ : ∃ b, decide (hs.length = 0) = b := ⟨_, rfl⟩
  have HB : Hid (goodLf ⟨k, p, has, v, m, hs⟩ = (b1 && (has && (b3 && (b4 && b5))))) := by show _ = _; unfold goodLf; rw [hb1, hb3, hb4, hb5]
  rw [HB.out]
  have e4 : (m == 0) = b4 := by rw [← hb4]; exact int_beq _ _
  have e5 : ((hs.length : Int) == 0) = b5 := by rw [← hb5]; exact nat_beq hs.length 0
  have HP : ∀ w, Calls Tryd.prog 65 #[.string (bs p)] w fun e w' => e = .returned (.bool b1) ∧ w' = w := by rw [← hb1]; exact good_any (bs p) hp
  have HV : ∀ w, Calls Tryd.prog 66 #[.agg #[.int .i64 k, .string (bs p), .bool has, .string (bs v), .int .i64 m, .slice a hs.length c]] w fun e w' => e = .returned (.bool b3) ∧ New w w' := by rw [← hb3]; exact goodValue_any ⟨k, p, has, v, m, hs⟩ hv a c
  clear HB hb1 hb3 hb4 hb5 hp hv
  show Calls Tryd.prog 43 #[.agg #[.int .i64 k, .string (bs p), .bool has, .string (bs v), .int .i64 m, .slice a hs.length c]] w _
  generalize bs p = sp at *
  generalize bs v = sv at *
  have R0 := Row.new w #[.int .i64 k, .string sp, .bool has, .string sv, .int .i64 m, .slice a hs.length c] 32
  cases b1
  · go_enter Tryd.func43, Tryd.ntmps43
    go_wp2_with fail
    refine (HP _).mono ?_
    rintro e w1 ⟨rfl, rfl⟩
    go_wp2_with fail
    go_ret
    exact ⟨rfl, (New.refl w).alloc _⟩
  · cases has
    · go_enter Tryd.func43, Tryd.ntmps43
      go_wp2_with fail
      refine (HP _).mono ?_
      rintro e w1 ⟨rfl, rfl⟩
      go_wp2_with fail
      go_ret
      exact ⟨rfl, (New.refl w).alloc _⟩
    · go_enter Tryd.func43, Tryd.ntmps43
      go_wp2_with fail
      refine (HP _).mono ?_
      rintro e w1 ⟨rfl, rfl⟩
      go_wp2_with fail
      refine (HV _).mono ?_
      rintro e w1 ⟨rfl, g1⟩
      have R1 := R0.after g1
      have c4 : w1.cell? ⟨w.heap.size, 4, none⟩ = some (.int .i64 m) := R1.cell 4
      have c5 : w1.cell? ⟨w.heap.size, 5, none⟩ = some (.slice a hs.length c) := R1.cell 5
      have N1 : New w w1 := ((New.refl w).alloc _).trans g1
      clear R0 R1 g1
      cases b3 <;> cases b4 <;> cases b5
      all_goals
        go_wp2_with fail
        go_ret
        exact ⟨rfl, N1⟩

set_option maxHeartbeats 1000000 in
theorem goodExt_any (I : It) (hp : I.p.length ≤ 4000) (hv : I.v.length ≤ 4000) (a : Option Addr) (c : Nat) (hl : I.hs.length ≤ 4611686018427387904) (w : World) (hT : Tx w a I.hs) (h4 : ∀ h ∈ I.hs, h.length ≤ 4611686018427387904) :
    Calls Tryd.prog 44 #[itV I a c] w fun e w' => e = .returned (.bool (goodEx I)) ∧ New w w' := by
  obtain ⟨k, p, has, v, m, hs⟩ := I
  obtain ⟨b0, hb0⟩ : ∃ b, emptyB p = b := ⟨_, rfl⟩
  obtain ⟨b1, hb1⟩ : ∃ b, goodB p = b := ⟨_, rfl⟩
  obtain ⟨b2, hb2⟩ : ∃ b, emptyB v = b := ⟨_, rfl⟩
  obtain ⟨b3, hb3⟩ : ∃ b, decide (m = 1) = b := ⟨_, rfl⟩
  obtain ⟨b4, hb4⟩ : ∃ b, goodH hs 1 = b := ⟨_, rfl⟩
  have HB : Hid (goodEx ⟨k, p, has, v, m, hs⟩ = (!b0 && (b1 && (!has && (b2 && (b3 && b4)))))) := by show _ = _; unfold goodEx; rw [hb0, hb1, hb2, hb3, hb4]
  rw [HB.out]
  have e01 : (bs p).toList.isEmpty = b0 := by rw [← hb0]; exact isEmpty_bs p
  have e02 : ((bs p).toList == []) = b0 := by rw [← hb0]; exact beq_nil_bs p
  have e21 : (bs v).toList.isEmpty = b2 := by rw [← hb2]; exact isEmpty_bs v
  have e22 : ((bs v).toList == []) = b2 := by rw [← hb2]; exact beq_nil_bs v
  have e23 : ((bs v).toList != []) = !b2 := by rw [← hb2]; exact bne_nil_bs v
  have e3 : (m == 1) = b3 := by rw [← hb3]; exact int_beq _ _
  have HP : ∀ w, Calls Tryd.prog 65 #[.string (bs p)] w fun e w' => e = .returned (.bool b1) ∧ w' = w := by rw [← hb1]; exact good_any (bs p) hp
  have HH : ∀ w, Tx w a hs → Calls Tryd.prog 67 #[.slice a hs.length c, .int .i64 1] w fun e w' => e = .returned (.bool b4) ∧ w' = w := fun w hT => by rw [← hb4]; exact goodHashes_any hs a c 1 (by omega) hl w hT h4
  have HT : Hid (Tx w a hs) := hT
  clear HB hb0 hb1 hb2 hb3 hb4 hp hv hl h4 hT
  show Calls Tryd.prog 44 #[.agg #[.int .i64 k, .string (bs p), .bool has, .string (bs v), .int .i64 m, .slice a hs.length c]] w _
  generalize bs p = sp at *
  generalize bs v = sv at *
  cases b0
  · cases b1
    · go_enter Tryd.func44, Tryd.ntmps44
      go_wp2_with fail
      refine (HP _).mono ?_
      rintro e w1 ⟨rfl, rfl⟩
      go_wp2_with fail
      go_ret
      exact ⟨rfl, (New.refl w).alloc _⟩
    · cases has
      · cases b2
        · go_enter Tryd.func44, Tryd.ntmps44
          go_wp2_with fail
          refine (HP _).mono ?_
          rintro e w1 ⟨rfl, rfl⟩
          go_wp2_with fail
          go_ret
          exact ⟨rfl, (New.refl w).alloc _⟩
        · cases b3
          · go_enter Tryd.func44, Tryd.ntmps44
            go_wp2_with fail
            refine (HP _).mono ?_
            rintro e w1 ⟨rfl, rfl⟩
            go_wp2_with fail
            go_ret
            exact ⟨rfl, (New.refl w).alloc _⟩
          · go_enter Tryd.func44, Tryd.ntmps44
            go_wp2_with fail
            refine (HP _).mono ?_
            rintro e w1 ⟨rfl, rfl⟩
            go_wp2_with fail
            refine (HH _ (HT.out.after ((New.refl w).alloc _))).mono ?_
            rintro e w1 ⟨rfl, rfl⟩
            cases b4
            all_goals
              go_wp2_with fail
              go_ret
              exact ⟨rfl, (New.refl w).alloc _⟩
      · go_enter Tryd.func44, Tryd.ntmps44
        go_wp2_with fail
        refine (HP _).mono ?_
        rintro e w1 ⟨rfl, rfl⟩
        go_wp2_with fail
        go_ret
        exact ⟨rfl, (New.refl w).alloc _⟩
  · go_enter Tryd.func44, Tryd.ntmps44
    go_wp2_with fail
    go_ret
    exact ⟨rfl, (New.refl w).alloc _⟩

set_option maxHeartbeats 1000000 in
theorem goodBranch_any (I : It) (hp : I.p.length ≤ 4000) (hv : I.v.length ≤ 4000) (a : Option Addr) (c : Nat) (hl : I.hs.length ≤ 4611686018427387904) (w : World) (hT : Tx w a I.hs) (h4 : ∀ h ∈ I.hs, h.length ≤ 4611686018427387904) :
    Calls Tryd.prog 45 #[itV I a c] w fun e w' => e = .returned (.bool (goodBr I)) ∧ New w w' := by
  obtain ⟨k, p, has, v, m, hs⟩ := I
  obtain ⟨b0, hb0⟩ : ∃ b, emptyB p = b := ⟨_, rfl⟩
  have e01 : (bs p).toList.isEmpty = b0 := by rw [← hb0]; exact isEmpty_bs p
  have e02 : ((bs p).toList == []) = b0 := by rw [← hb0]; exact beq_nil_bs p
  have e03 : ((bs p).toList != []) = !b0 := by rw [← hb0]; exact bne_nil_bs p
  have HT : Hid (Tx w a hs) := hT
  by_cases hm1 : 0 ≤ m
  · have d1 : decide (m < 0) = false := decide_eq_false (by omega)
    by_cases hm2 : m ≤ 65535
    · have d2 : decide ((65535 : Int) < m) = false := decide_eq_false (by omega)
      obtain ⟨n, rfl⟩ : ∃ n : Nat, m = (n : Int) := ⟨m.toNat, by omega⟩
      have hn : n < 65536 := by omega
      obtain ⟨q, hq⟩ : ∃ q, popN n = q := ⟨_, rfl⟩
      have hq16 : q ≤ 16 := by rw [← hq]; exact popN_le n
      obtain ⟨b3, hb3⟩ : ∃ b, goodV ⟨k, p, has, v, (n : Int), hs⟩ = b := ⟨_, rfl⟩
      obtain ⟨b4, hb4⟩ : ∃ b, goodH hs q = b := ⟨_, rfl⟩
      have HV : ∀ w, Calls Tryd.prog 66 #[.agg #[.int .i64 k, .string (bs p), .bool has, .string (bs v), .int .i64 (n : Int), .slice a hs.length c]] w fun e w' => e = .returned (.bool b3) ∧ New w w' := by rw [← hb3]; exact goodValue_any ⟨k, p, has, v, (n : Int), hs⟩ hv a c
      have HC : ∀ w, Calls Tryd.prog 68 #[.int .i64 (n : Int)] w fun e w' => e = .returned (.int .i64 (q : Int)) ∧ w' = w := by rw [← hq]; exact children_any n hn
      have HH : ∀ w, Tx w a hs → Calls Tryd.prog 67 #[.slice a hs.length c, .int .i64 (q : Int)] w fun e w' => e = .returned (.bool b4) ∧ w' = w := fun w hT => by rw [← hb4]; exact goodHashes_any hs a c q (by omega) hl w hT h4
      obtain ⟨b5, hb5⟩ : ∃ b, decide (2 ≤ q + if has then 1 else 0) = b := ⟨_, rfl⟩
      have HB : Hid (goodBr ⟨k, p, has, v, (n : Int), hs⟩ = (b0 && (b3 && (b5 && b4)))) := by
        show _ = _
        unfold goodBr leadsN
        simp only [Int.toNat_natCast, hb0, hb3, hq, hb5, hb4, decide_eq_true (show (0 : Int) ≤ (n : Int) by omega), decide_eq_true hm2, Bool.true_and]
      rw [HB.out]
      clear HB hb0 hb3 hb4 hq hp hv hl h4 hT hm1 hm2
      show Calls Tryd.prog 45 #[.agg #[.int .i64 k, .string (bs p), .bool has, .string (bs v), .int .i64 (n : Int), .slice a hs.length c]] w _
      generalize bs p = sp at *
      generalize bs v = sv at *
      have R0 := Row.new w #[.int .i64 k, .string sp, .bool has, .string sv, .int .i64 (n : Int), .slice a hs.length c] 32
      have N0 : New w (w.alloc (.cells #[.int .i64 k, .string sp, .bool has, .string sv, .int .i64 (n : Int), .slice a hs.length c] 32)) := (New.refl w).alloc _
      cases b0
      · clear R0
        go_enter Tryd.func45, Tryd.ntmps45
        go_wp2_with fail
        go_ret
        exact ⟨rfl, N0⟩
      · go_enter Tryd.func45, Tryd.ntmps45
        go_wp2_with fail
        refine (HV _).mono ?_
        rintro e w1 ⟨rfl, g1⟩
        have R1 := R0.after g1
        have c2 : w1.cell? ⟨w.heap.size, 2, none⟩ = some (.bool has) := R1.cell 2
        have c4 : w1.cell? ⟨w.heap.size, 4, none⟩ = some (.int .i64 (n : Int)) := R1.cell 4
        have c5 : w1.cell? ⟨w.heap.size, 5, none⟩ = some (.slice a hs.length c) := R1.cell 5
        have N1 : New w w1 := N0.trans g1
        clear R0 R1 g1 N0
        cases b3
        · go_wp2_with fail
          go_ret
          exact ⟨rfl, N1⟩
        · go_wp2_with fail
          refine (HC _).mono ?_
          rintro e w2 ⟨rfl, rfl⟩
          cases has
          · have d5 : decide (2 ≤ (q : Int)) = b5 := by rw [← hb5]; exact decide_eq_decide.2 (by simp; omega)
            clear hb5
            cases b5
            · go_wp2_with fail
              go_ret
              exact ⟨rfl, N1⟩
            · go_wp2_with fail
              refine (HH _ (HT.out.after N1)).mono ?_
              rintro e w3 ⟨rfl, rfl⟩
              cases b4
              all_goals
                go_wp2_with fail
                go_ret
                exact ⟨rfl, N1⟩
          · have d5 : decide (2 ≤ (q : Int) + 1) = b5 := by rw [← hb5]; exact decide_eq_decide.2 (by simp; omega)
            clear hb5
            cases b5
            · go_wp2_with fail
              go_ret
              exact ⟨rfl, N1⟩
            · go_wp2_with fail
              refine (HH _ (HT.out.after N1)).mono ?_
              rintro e w3 ⟨rfl, rfl⟩
              cases b4
              all_goals
                go_wp2_with fail
                go_ret
                exact ⟨rfl, N1⟩
    · have d2 : decide ((65535 : Int) < m) = true := decide_eq_true (by omega)
      have HB : Hid (goodBr ⟨k, p, has, v, m, hs⟩ = false) := by
        show _ = _
        unfold goodBr
        simp only [decide_eq_false hm2, Bool.false_and, Bool.and_false]
      rw [HB.out]
      clear HB hb0 hp hv hl h4 hT hm1 hm2
      show Calls Tryd.prog 45 #[.agg #[.int .i64 k, .string (bs p), .bool has, .string (bs v), .int .i64 m, .slice a hs.length c]] w _
      generalize bs p = sp at *
      generalize bs v = sv at *
      cases b0
      all_goals
        go_enter Tryd.func45, Tryd.ntmps45
        go_wp2_with fail
        go_ret
        exact ⟨rfl, (New.refl w).alloc _⟩
  · have d1 : decide (m < 0) = true := decide_eq_true (by omega)
    have HB : Hid (goodBr ⟨k, p, has, v, m, hs⟩ = false) := by
      show _ = _
      unfold goodBr
      simp only [decide_eq_false hm1, Bool.false_and, Bool.and_false]
    rw [HB.out]
    clear HB hb0 hp hv hl h4 hT hm1
    show Calls Tryd.prog 45 #[.agg #[.int .i64 k, .string (bs p), .bool has, .string (bs v), .int .i64 m, .slice a hs.length c]] w _
    generalize bs p = sp at *
    generalize bs v = sv at *
    cases b0
    all_goals
      go_enter Tryd.func45, Tryd.ntmps45
      go_wp2_with fail
      go_ret
      exact ⟨rfl, (New.refl w).alloc _⟩

/-- An Item that is read: small enough, its hashes in memory. -/
structure Small (I : It) : Prop where
  p : I.p.length ≤ 4000
  v : I.v.length ≤ 4000
  n : I.hs.length ≤ 4611686018427387904
  h : ∀ h ∈ I.hs, h.length ≤ 4611686018427387904

set_option maxHeartbeats 1000000 in
theorem Good_any (I : It) (hS : Small I) (a : Option Addr) (c : Nat) (w : World) (hT : Tx w a I.hs) :
    Calls Tryd.prog 26 #[itV I a c] w fun e w' => e = .returned (.bool (goodI I)) ∧ New w w' := by
  have H1 := goodLeaf_any I hS.p hS.v a c
  have H2 := fun w hT => goodExt_any I hS.p hS.v a c hS.n w hT hS.h
  have H3 := fun w hT => goodBranch_any I hS.p hS.v a c hS.n w hT hS.h
  obtain ⟨k, p, has, v, m, hs⟩ := I
  have HT : Hid (Tx w a hs) := hT
  have N0 : New w (w.alloc (.cells #[.int .i64 k, .string (bs p), .bool has, .string (bs v), .int .i64 m, .slice a hs.length c] 32)) := (New.refl w).alloc _
  have HG : Hid (goodI ⟨k, p, has, v, m, hs⟩ = if k = 1 then goodLf ⟨k, p, has, v, m, hs⟩ else if k = 2 then goodEx ⟨k, p, has, v, m, hs⟩ else if k = 3 then goodBr ⟨k, p, has, v, m, hs⟩ else false) := rfl
  rw [HG.out]
  clear HG hT hS
  generalize goodLf ⟨k, p, has, v, m, hs⟩ = b1 at *
  generalize goodEx ⟨k, p, has, v, m, hs⟩ = b2 at *
  generalize goodBr ⟨k, p, has, v, m, hs⟩ = b3 at *
  show Calls Tryd.prog 26 #[.agg #[.int .i64 k, .string (bs p), .bool has, .string (bs v), .int .i64 m, .slice a hs.length c]] w _
  replace H1 : ∀ w, Calls Tryd.prog 43 #[.agg #[.int .i64 k, .string (bs p), .bool has, .string (bs v), .int .i64 m, .slice a hs.length c]] w _ := H1
  replace H2 : ∀ w, Tx w a hs → Calls Tryd.prog 44 #[.agg #[.int .i64 k, .string (bs p), .bool has, .string (bs v), .int .i64 m, .slice a hs.length c]] w _ := H2
  replace H3 : ∀ w, Tx w a hs → Calls Tryd.prog 45 #[.agg #[.int .i64 k, .string (bs p), .bool has, .string (bs v), .int .i64 m, .slice a hs.length c]] w _ := H3
  generalize bs p = sp at *
  generalize bs v = sv at *
  by_cases k1 : k = 1
  · rw [if_pos k1]
    have d1 : (k == 1) = true := by rw [int_beq]; exact decide_eq_true k1
    have HK : Hid (k = 1) := k1
    clear k1 H2 H3
    go_enter Tryd.func26, Tryd.ntmps26
    go_wp2_with fail
    refine (H1 _).mono ?_
    rintro e w1 ⟨rfl, g1⟩
    go_wp2_with fail
    go_ret
    exact ⟨rfl, N0.trans g1⟩
  · rw [if_neg k1]
    have d1 : (k == 1) = false := by rw [int_beq]; exact decide_eq_false k1
    by_cases k2 : k = 2
    · rw [if_pos k2]
      have d2 : (k == 2) = true := by rw [int_beq]; exact decide_eq_true k2
      clear k1 k2 H1 H3
      go_enter Tryd.func26, Tryd.ntmps26
      go_wp2_with fail
      refine (H2 _ (HT.out.after N0)).mono ?_
      rintro e w1 ⟨rfl, g1⟩
      go_wp2_with fail
      go_ret
      exact ⟨rfl, N0.trans g1⟩
    · rw [if_neg k2]
      have d2 : (k == 2) = false := by rw [int_beq]; exact decide_eq_false k2
      by_cases k3 : k = 3
      · rw [if_pos k3]
        have d3 : (k == 3) = true := by rw [int_beq]; exact decide_eq_true k3
        clear k1 k2 k3 H1 H2
        go_enter Tryd.func26, Tryd.ntmps26
        go_wp2_with fail
        refine (H3 _ (HT.out.after N0)).mono ?_
        rintro e w1 ⟨rfl, g1⟩
        go_wp2_with fail
        go_ret
        exact ⟨rfl, N0.trans g1⟩
      · rw [if_neg k3]
        have d3 : (k == 3) = false := by rw [int_beq]; exact decide_eq_false k3
        clear k1 k2 k3 H1 H2 H3
        go_enter Tryd.func26, Tryd.ntmps26
        go_wp2_with fail
        go_ret
        exact ⟨rfl, N0⟩

end Go.Proofs.YtjikdbmdaeonlaaDoor.No
namespace Go.Proofs.YtjikdbmdaeonlaaDoor.No
open Go.RowKit
set_option maxRecDepth 20000
set_option linter.unusedVariables false

def ptL (P : Pt) : List Value := .string (bs P.kind) :: .string (bs P.path) :: .string (bs P.mask) :: .string (bs P.has) :: .string (bs P.size) :: .string (bs P.value) :: (P.hs.map (fun h => Value.string (bs h)) ++ [.string (bs P.rest)])
def ptC (P : Pt) : Array Value := (ptL P).toArray
def ptZ : Pt := ⟨[], [], [], [], [], [], List.replicate 16 [], []⟩
theorem ptL_length {P : Pt} (h : P.hs.length = 16) : (ptL P).length = 23 := by unfold ptL; simp [h]
theorem ptC_size {P : Pt} (h : P.hs.length = 16) : (ptC P).size = 23 := by unfold ptC; rw [List.size_toArray, ptL_length h]
theorem ptC_one (P : Pt) : (ptC P).all (·.oneCell') = true := by
  unfold ptC
  rw [List.all_toArray, List.all_eq_true]
  intro v hv
  unfold ptL at hv
  simp only [List.mem_cons, List.mem_append, List.mem_map, List.not_mem_nil, or_false] at hv
  rcases hv with rfl | rfl | rfl | rfl | rfl | rfl | ⟨h, _, rfl⟩ | rfl <;> rfl
theorem i44 : (Tryd.prog.info? 79).map (·.size) = some 23 := by kernel_rfl
theorem s44 {P : Pt} (h : P.hs.length = 16) : (Tryd.prog.info? 79).map (·.size) = some (ptC P).size := by rw [ptC_size h]; exact i44
theorem info44 : (Tryd.prog.info? 79).map (fun i => (i.zero, i.size, i.bytes)) = some (some (.agg (ptC ptZ)), 23, 368) := by kernel_rfl
theorem built44_none : Tryd.prog.built 79 [] = some (ptC ptZ) := by kernel_rfl
theorem built44_kind (l : List UInt8) : Tryd.prog.built 79 [(0, .string (bs l))] = some (ptC { ptZ with kind := l }) := by kernel_rfl
theorem ptC_hs {P : Pt} {j : Nat} {h : List UInt8} (hj : P.hs[j]? = some h) : (ptC P)[6 + j]? = some (.string (bs h)) := by
  unfold ptC
  have hlt := (List.getElem?_eq_some_iff.1 hj).1
  rw [List.getElem?_toArray]
  unfold ptL
  rw [show 6 + j = j + 1 + 1 + 1 + 1 + 1 + 1 by omega]
  simp only [List.getElem?_cons_succ]
  rw [List.getElem?_append_left (by rw [List.length_map]; exact hlt), List.getElem?_map, hj]; rfl
theorem set_kind (P : Pt) (x : List UInt8) : (ptC P).setIfInBounds 0 (.string (bs x)) = ptC { P with kind := x } := by unfold ptC; rw [List.setIfInBounds_toArray]; rfl
theorem set_path (P : Pt) (x : List UInt8) : (ptC P).setIfInBounds 1 (.string (bs x)) = ptC { P with path := x } := by unfold ptC; rw [List.setIfInBounds_toArray]; rfl
theorem set_mask (P : Pt) (x : List UInt8) : (ptC P).setIfInBounds 2 (.string (bs x)) = ptC { P with mask := x } := by unfold ptC; rw [List.setIfInBounds_toArray]; rfl
theorem set_has (P : Pt) (x : List UInt8) : (ptC P).setIfInBounds 3 (.string (bs x)) = ptC { P with has := x } := by unfold ptC; rw [List.setIfInBounds_toArray]; rfl
theorem set_size (P : Pt) (x : List UInt8) : (ptC P).setIfInBounds 4 (.string (bs x)) = ptC { P with size := x } := by unfold ptC; rw [List.setIfInBounds_toArray]; rfl
theorem set_value (P : Pt) (x : List UInt8) : (ptC P).setIfInBounds 5 (.string (bs x)) = ptC { P with value := x } := by unfold ptC; rw [List.setIfInBounds_toArray]; rfl
theorem set_hash (P : Pt) (j : Nat) (hj : j < P.hs.length) (x : List UInt8) : (ptC P).setIfInBounds (6 + j) (.string (bs x)) = ptC { P with hs := P.hs.set j x } := by
  unfold ptC
  rw [List.setIfInBounds_toArray]
  congr 1
  unfold ptL
  rw [show 6 + j = j + 1 + 1 + 1 + 1 + 1 + 1 by omega]
  simp only [List.set_cons_succ]
  rw [List.set_append_left _ _ (by rw [List.length_map]; exact hj), List.map_set]
theorem set_rest (P : Pt) (h : P.hs.length = 16) (x : List UInt8) : (ptC P).setIfInBounds 22 (.string (bs x)) = ptC { P with rest := x } := by
  unfold ptC
  rw [List.setIfInBounds_toArray]
  congr 1
  unfold ptL
  rw [show 22 = 16 + 1 + 1 + 1 + 1 + 1 + 1 by rfl]
  simp only [List.set_cons_succ]
  rw [List.set_append_right _ _ (by rw [List.length_map]; omega), List.length_map, h]; rfl
theorem get_rest (P : Pt) (h : P.hs.length = 16) : (ptC P)[22]? = some (.string (bs P.rest)) := by
  unfold ptC
  rw [List.getElem?_toArray]
  unfold ptL
  rw [show 22 = 16 + 1 + 1 + 1 + 1 + 1 + 1 by rfl]
  simp only [List.getElem?_cons_succ]
  rw [List.getElem?_append_right (by rw [List.length_map]; omega), List.length_map, h]; rfl

theorem join_flat (xs : List (List UInt8)) : Lib.join xs [] = xs.flatten := by
  cases xs with
  | nil => rfl
  | cons x r =>
    rw [Lib.join_cons]
    unfold Lib.joinTail
    rw [List.flatten_cons]
    congr 2
    rw [List.map_congr_left (g := id) (fun a _ => by simp)]
    simp
theorem joined_any (P : Pt) (h16 : P.hs.length = 16) (hl : P.hs.flatten.length ≤ 4000) (g : Nat) (W : World) (R : Row W g (ptC P) 79) :
    Calls Tryd.prog 64 #[.slice (some ⟨g, 6, none⟩) 16 16, .string ⟨#[]⟩] W fun e w' => e = .returned (.string (bs P.hs.flatten)) ∧ New W w' := by
  have hm : ((P.hs.map bs).map (·.data.toList)) = P.hs := by
    rw [List.map_map]
    exact (List.map_congr_left (fun a _ => rfl)).trans (List.map_id _)
  have e0 : (⟨#[]⟩ : ByteArray).data.toList = [] := rfl
  have h := Tryd.strings_Join g 6 16 (P.hs.map bs) ⟨#[]⟩ W (fun j x hx => by
      rw [List.getElem?_map] at hx
      cases hh : P.hs[j]? with
      | none => rw [hh] at hx; cases hx
      | some y =>
        rw [hh] at hx
        cases hx
        rw [R.cell]
        exact ptC_hs hh) R.lt (by rw [List.length_map, h16]; decide) (by rw [List.length_map, h16]; decide) (by rw [hm, e0, join_flat]; omega)
  rw [List.length_map, h16, hm, e0, join_flat] at h
  exact h

set_option maxHeartbeats 1000000 in
theorem text_any (P : Pt) (h16 : P.hs.length = 16) (hl : P.text.length ≤ 4000) (w : World) :
    Calls Tryd.prog 42 #[.agg (ptC P)] w fun e w' => e = .returned (.string (bs P.text)) ∧ New w w' := by
  have hx := hl
  unfold Pt.text at hx
  simp only [List.length_append] at hx
  have HJ := fun g W R => joined_any P h16 (by omega) g W R
  have HT : Hid (bs P.kind ++ bs P.path ++ bs P.mask ++ bs P.has ++ bs P.size ++ bs P.value ++ bs P.hs.flatten = bs P.text) := by
    show _ = _
    refine eq_of_L ?_
    simp only [L_append, L_bs, List.append_assoc]
    rfl
  have z0 : (bs P.kind).size ≤ 4000 := by rw [bs_size]; omega
  have z1 : (bs P.path).size ≤ 4000 := by rw [bs_size]; omega
  have z2 : (bs P.mask).size ≤ 4000 := by rw [bs_size]; omega
  have z3 : (bs P.has).size ≤ 4000 := by rw [bs_size]; omega
  have z4 : (bs P.size).size ≤ 4000 := by rw [bs_size]; omega
  have z5 : (bs P.value).size ≤ 4000 := by rw [bs_size]; omega
  have z6 : (bs P.hs.flatten).size ≤ 4000 := by rw [bs_size]; omega
  have R0 := Row.new w (ptC P) 79
  have N0 : New w (w.alloc (.cells (ptC P) 79)) := (New.refl w).alloc _
  have c0 := R0.has 0 (v := .string (bs P.kind)) rfl
  have c1 := R0.has 1 (v := .string (bs P.path)) rfl
  have c2 := R0.has 2 (v := .string (bs P.mask)) rfl
  have c3 := R0.has 3 (v := .string (bs P.has)) rfl
  have c4 := R0.has 4 (v := .string (bs P.size)) rfl
  have c5 := R0.has 5 (v := .string (bs P.value)) rfl
  clear hl hx h16
  generalize bs P.kind = s0 at *
  generalize bs P.path = s1 at *
  generalize bs P.mask = s2 at *
  generalize bs P.has = s3 at *
  generalize bs P.size = s4 at *
  generalize bs P.value = s5 at *
  generalize bs P.hs.flatten = s6 at *
  generalize ptC P = cs at *
  go_enter Tryd.func42, Tryd.ntmps42
  go_wp2_with fail
  generalize w.alloc (.cells cs 79) = W at *
  have hne := NewW.ne W
  have d0 := NewW.cell c0
  have d1 := NewW.cell c1
  have d2 := NewW.cell c2
  have d3 := NewW.cell c3
  have d4 := NewW.cell c4
  have d5 := NewW.cell c5
  refine region_new W (New.refl W) (by kernel_rfl) (by kernel_rfl) ?_
  repeat (go_big_quiet_step (first | (go_at_call 64; exact Calls.neww (HJ _ _ (R0.after (NewW.h _))))))
  refine wpQuiet_nil ?_
  rintro w5 ⟨⟨_, k5⟩, rfl⟩
  go_wp2_with fail
  go_ret
  exact ⟨ret_str HT.out, N0.trans k5⟩

end Go.Proofs.YtjikdbmdaeonlaaDoor.No
namespace Go.Proofs.YtjikdbmdaeonlaaDoor
open Go.RowKit
set_option maxRecDepth 20000

theorem set_same {α : Type} {l : List α} {i : Nat} {x : α} (h : l[i]? = some x) : l.set i x = l := by
  obtain ⟨hi, rfl⟩ := List.getElem?_eq_some_iff.1 h
  exact List.set_getElem_self hi
theorem readF_ok {t : List Nd} {s : List Pr × List Bt} (h : readF t = some s) : mayB s.1 = true ∧ t = buildN s.1 ∧ s.2 = (trieL s.1).map (·.2) := readF_iff.1 (by rw [h])

theorem readF_gat {t : List Nd} {s : List Pr × List Bt} (h : readF t = some s) : gatN t t.length = some s := by
  unfold readF at h
  cases hg : gatN t t.length with
  | none => rw [hg] at h; cases h
  | some x =>
    rw [hg] at h
    simp only at h
    split at h
    · exact h
    · cases h
theorem readF_few {t : List Nd} (K : TOk t) {s : List Pr × List Bt} (h : readF t = some s) : s.1.length ≤ 10000 :=
  Nat.le_trans (gat_ok (fun m hm => (K.len m hm).2) (Nat.le_refl _) (readF_gat h)).few K.few

end Go.Proofs.YtjikdbmdaeonlaaDoor
