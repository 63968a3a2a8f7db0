/-
  What holds of the nodes of pairs: each child stands behind its node, and is one's alone; what leads to each; the pairs are theirs; what they look like. Plain mathematics. What Unpack returns, for every text. The order of halves, and of packed halves of one length: plain mathematics; and NibbleOrder's walk: whatever two texts, the call returns true, where the table of upper halves lies as its initialiser lays it. Packed halves unpack to themselves, whatever stands behind; what unpacks is the Pack of that: plain mathematics. Items, their texts in pieces, and back again, said of lists of bytes: plain mathematics. What the document's own Of, Common and Good return, for every text: the same. What the document's own Pack returns, for every text: the same as Pack, as a struct. What the document's own Unpack returns, for every text: the same as Unpack, as a struct.
-/
import Derived.Test.YtjikdbmdaeonlaaDoorGag
import Derived.Test.YtjikdbmdaeonlaaDoorGae
namespace Go.Proofs.YtjikdbmdaeonlaaDoor
set_option maxRecDepth 20000

def nz (ks : List Int) : List Int := ks.filter fun k => k != 0
def linksOf (t : List NP) : List Int := t.flatMap fun m => nz m.1.kids
def valOf (m : NP) : Option Pr := if m.1.has then some (m.2 ++ m.1.path, m.1.val) else none
def nums (b n : Nat) : List Int := (List.range' b n).map fun k : Nat => (k : Int)
def childP (kind : Int) (e : Bt) (c : Nat) : Bt := if kind = 3 then e ++ [UInt8.ofNat c] else e
def Kid (b : Nat) (t : List NP) : Prop := ∀ i m, t[i]? = some m → ∀ c k, m.1.kids[c]? = some k → k ≠ 0 →
  ∃ j m', k = ((b + j : Nat) : Int) ∧ i < j ∧ t[j]? = some m' ∧ m'.2 = childP m.1.kind (m.2 ++ m.1.path) c ∧ (m.1.kind = 2 → c = 0 ∧ m'.1.kind = 3)
def Shape (m : Nd) : Prop := (m.kind = 1 ∧ m.has = true ∧ m.kids = no16) ∨ (m.kind = 2 ∧ m.has = false ∧ m.val = [] ∧ m.path ≠ [] ∧ ∃ k, k ≠ 0 ∧ m.kids = no16.set 0 k) ∨
  (m.kind = 3 ∧ m.path = [] ∧ m.kids.length = 16 ∧ 2 ≤ (nz m.kids).length + (if m.has then 1 else 0) ∧ (m.has = false → m.val = []))
structure Blk (l : List Pr) (n b : Nat) (t : List NP) : Prop where
  head : ∃ m r, t = m :: r ∧ m.2 = (headK l).take n
  pre : ∀ m ∈ t, (headK l).take n <+: m.2
  kid : Kid b t
  links : (linksOf t).Perm (nums (b + 1) (t.length - 1))
  vals : t.filterMap valOf = l
  shape : ∀ m ∈ t, Shape m.1
  rise : t.Pairwise (fun a c => ltL a.2 c.2)
  few : t.length + 2 ≤ 3 * l.length
  key : ∀ m ∈ t, ∃ p ∈ l, (m.2 ++ m.1.path) <+: p.1
theorem Blk.ne {l : List Pr} {n b : Nat} {t : List NP} (h : Blk l n b t) : 0 < t.length := by obtain ⟨m, r, e, _⟩ := h.head; rw [e]; simp

theorem nums_append (b n m : Nat) : nums b (n + m) = nums b n ++ nums (b + n) m := by
  unfold nums; rw [← List.map_append, List.range'_append_1]
theorem nums_one (b : Nat) : nums b 1 = [(b : Int)] := rfl
theorem nums_cons (b n : Nat) : nums b (n + 1) = (b : Int) :: nums (b + 1) n := by unfold nums; rw [List.range'_succ]; rfl
theorem linksOf_append (s t : List NP) : linksOf (s ++ t) = linksOf s ++ linksOf t := by unfold linksOf; rw [List.flatMap_append]
theorem Kid.append {b : Nat} {s t : List NP} (h : Kid b s) (k : Kid (b + s.length) t) : Kid b (s ++ t) := by
  intro i m hm c x hc hx
  rcases Nat.lt_or_ge i s.length with hi | hi
  · rw [List.getElem?_append_left hi] at hm
    obtain ⟨j, m', h1, h2, h3, h4⟩ := h i m hm c x hc hx
    exact ⟨j, m', h1, h2, by rw [List.getElem?_append_left (List.getElem?_eq_some_iff.1 h3).1]; exact h3, h4⟩
  · rw [List.getElem?_append_right hi] at hm
    obtain ⟨j, m', h1, h2, h3, h4⟩ := k _ m hm c x hc hx
    exact ⟨s.length + j, m', by rw [h1]; congr 1; omega, by omega, by rw [List.getElem?_append_right (by omega)]; rw [show s.length + j - s.length = j by omega]; exact h3, h4⟩
theorem nz_set {ks : List Int} {h : Nat} {x : Int} (hl : h < ks.length) (h0 : ∀ c, h ≤ c → c < ks.length → ks[c]? = some 0) (hx : x ≠ 0) : nz (ks.set h x) = nz ks ++ [x] := by
  have e1 : ks.set h x = ks.take h ++ x :: ks.drop (h + 1) := List.set_eq_take_append_cons_drop.trans (if_pos hl)
  have e2 : ks = ks.take h ++ ks[h] :: ks.drop (h + 1) := by rw [← List.drop_eq_getElem_cons hl, List.take_append_drop]
  have hz : nz (ks.drop (h + 1)) = [] := List.filter_eq_nil_iff.2 fun k hk => by
    obtain ⟨i, hi, rfl⟩ := List.mem_iff_getElem.1 hk
    have := h0 (h + 1 + i) (by omega) (by rw [List.length_drop] at hi; omega)
    rw [List.getElem_drop, (List.getElem?_eq_some_iff.1 this).2]; simp
  have hh : ks[h] = 0 := (List.getElem?_eq_some_iff.1 (h0 h (Nat.le_refl _) hl)).2
  have e3 : nz ks = nz (ks.take h) := by
    conv => lhs; rw [e2]
    unfold nz at hz ⊢
    rw [List.filter_append, hh, List.filter_cons_of_neg (by simp), hz, List.append_nil]
  rw [e1, e3]
  unfold nz at hz ⊢
  rw [List.filter_append, List.filter_cons_of_pos (by simpa using hx), hz]

structure Kds (P : Bt) (r : List Pr) (n b h : Nat) (s : List Int × List NP) : Prop where
  len : s.1.length = 16
  zero : ∀ c, h ≤ c → c < 16 → s.1[c]? = some 0
  tok : ∀ (c : Nat) k, s.1[c]? = some k → k ≠ 0 → ∃ j m, k = ((b + j : Nat) : Int) ∧ s.2[j]? = some m ∧ m.2 = P ++ [UInt8.ofNat c]
  kid : Kid b s.2
  links : (nz s.1 ++ linksOf s.2).Perm (nums b s.2.length)
  vals : s.2.filterMap valOf = r.filter (fun p => nib p n < h)
  shape : ∀ m ∈ s.2, Shape m.1
  pre : ∀ m ∈ s.2, ∃ c, c < h ∧ (P ++ [UInt8.ofNat c]) <+: m.2
  rise : s.2.Pairwise (fun a c => ltL a.2 c.2)
  few : s.2.length + 2 * (nz s.1).length ≤ 3 * (r.filter (fun p => nib p n < h)).length
  full : ∀ c, c < h → grp r n c ≠ [] → ∃ k, s.1[c]? = some k ∧ k ≠ 0
  key : ∀ m ∈ s.2, ∃ p ∈ r, (m.2 ++ m.1.path) <+: p.1

theorem perm_mix {α : Type} (A B L N : List α) (x : α) (h : (A ++ B).Perm N) : ((A ++ [x]) ++ (B ++ L)).Perm (N ++ (x :: L)) := by
  have h1 : ((A ++ [x]) ++ (B ++ L)).Perm ((A ++ B) ++ ([x] ++ L)) := by
    rw [List.append_assoc, List.append_assoc]
    refine List.Perm.append_left A ?_
    rw [← List.append_assoc, ← List.append_assoc]
    exact List.Perm.append_right L List.perm_append_comm
  exact h1.trans (List.Perm.append_right _ h)
theorem ltL_of_parts {P a b : Bt} {c d : Nat} (hc : c < d) (hd : d < 16) (h1 : (P ++ [UInt8.ofNat c]) <+: a) (h2 : (P ++ [UInt8.ofNat d]) <+: b) : ltL a b := by
  obtain ⟨x, rfl⟩ := h1
  obtain ⟨y, rfl⟩ := h2
  rw [List.append_assoc, List.append_assoc]
  exact ltL_part (by rw [byte16 (by omega), byte16 hd]; exact hc)

theorem kidsW_ok (G : List Pr → Nat → List NP) {l : List Pr} {n : Nat} (F : Fork l n) (b : Nat) (hb : 0 < b)
    (hG : ∀ c, c < 16 → grp (restL l n) n c ≠ [] → ∀ b', Blk (grp (restL l n) n c) (n + 1) b' (G (grp (restL l n) n c) b')) :
    ∀ h, h ≤ 16 → Kds ((headK l).take n) (restL l n) n b h (kidsW G (fun c => grp (restL l n) n c) b h)
  | 0, _ => by
    have e : (restL l n).filter (fun p => decide (nib p n < 0)) = [] := List.filter_eq_nil_iff.2 fun q _ => by simp
    refine ⟨rfl, fun c _ hc => ?_, fun c k hk hk0 => ?_, fun i m hm => by simp [kidsW] at hm, ?_, by rw [e]; rfl, fun m hm => by simp [kidsW] at hm, fun m hm => by simp [kidsW] at hm, List.Pairwise.nil, by rw [e]; exact Nat.le_refl _, fun c hc => absurd hc (by omega), fun m hm => by simp [kidsW] at hm⟩
    · show no16[c]? = some 0
      unfold no16; rw [List.getElem?_replicate, if_pos hc]
    · refine absurd ?_ hk0
      have hk : no16[c]? = some k := hk
      unfold no16 at hk; rw [List.getElem?_replicate] at hk
      split at hk
      · exact (Option.some.inj hk).symm
      · cases hk
    · show (nz no16 ++ []).Perm []
      decide
  | h + 1, hh => by
    have K := kidsW_ok G F b hb hG h (by omega)
    have hf := filter_step n h (restL l n) F.order
    show Kds _ _ _ _ _ (if grp (restL l n) n h = [] then _ else _)
    split
    · next he =>
      rw [he, List.append_nil] at hf
      exact ⟨K.len, fun c h1 h2 => K.zero c (by omega) h2, K.tok, K.kid, K.links, by rw [hf]; exact K.vals, K.shape, fun m hm => by
        obtain ⟨c, h1, h2⟩ := K.pre m hm
        exact ⟨c, by omega, h2⟩, K.rise, by rw [hf]; exact K.few, fun c hc hne => by
        rcases Nat.lt_or_ge c h with h1 | h1
        · exact K.full c h1 hne
        · obtain rfl : c = h := by omega
          exact absurd he hne, K.key⟩
    · next he =>
      have HB := hG h (by omega) he (b + (kidsW G (fun c => grp (restL l n) n c) b h).2.length)
      have hhd := F.grouphead he
      generalize kidsW G (fun c => grp (restL l n) n c) b h = s at K HB
      obtain ⟨ks, ns⟩ := s
      generalize G (grp (restL l n) n h) (b + (ks, ns).2.length) = t at HB
      simp only at HB K ⊢
      have hpos := HB.ne
      have hlen : h < ks.length := by rw [K.len]; omega
      have hx : ((b + ns.length : Nat) : Int) ≠ 0 := by omega
      have hnz : nz (ks.set h ((b + ns.length : Nat) : Int)) = nz ks ++ [((b + ns.length : Nat) : Int)] := nz_set hlen (fun c h1 h2 => K.zero c h1 (by have := K.len; simp only at this; omega)) hx
      refine ⟨?_, ?_, ?_, K.kid.append HB.kid, ?_, ?_, ?_, ?_, ?_, ?_, ?_, ?_⟩
      · show (ks.set h _).length = 16
        rw [List.length_set]; exact K.len
      · intro c h1 h2
        show (ks.set h _)[c]? = _
        rw [List.getElem?_set_ne (by omega)]
        exact K.zero c (by omega) h2
      · intro c k hk hk0
        have hk : (ks.set h ((b + ns.length : Nat) : Int))[c]? = some k := hk
        by_cases e : h = c
        · subst e
          rw [List.getElem?_set_self hlen] at hk
          obtain ⟨m, r, e1, e2⟩ := HB.head
          refine ⟨ns.length, m, (Option.some.inj hk).symm, ?_, ?_⟩
          · show (ns ++ t)[ns.length]? = _
            rw [List.getElem?_append_right (Nat.le_refl _), Nat.sub_self, e1]; rfl
          · rw [e2, hhd]
        · rw [List.getElem?_set_ne e] at hk
          obtain ⟨j, m, h1, h2, h3⟩ := K.tok c k hk hk0
          refine ⟨j, m, h1, ?_, h3⟩
          show (ns ++ t)[j]? = _
          rw [List.getElem?_append_left (List.getElem?_eq_some_iff.1 h2).1]; exact h2
      · show (nz (ks.set h _) ++ linksOf (ns ++ t)).Perm (nums b (ns ++ t).length)
        rw [hnz, linksOf_append, List.length_append, nums_append]
        have e1 : nums (b + ns.length) t.length = ((b + ns.length : Nat) : Int) :: nums (b + ns.length + 1) (t.length - 1) := by
          rw [← nums_cons]; congr 1; omega
        rw [e1]
        refine (perm_mix _ _ _ _ _ K.links).trans ?_
        exact List.Perm.append_left _ (HB.links.cons _)
      · show (ns ++ t).filterMap valOf = _
        rw [List.filterMap_append, K.vals, HB.vals, hf]
      · intro m hm
        rcases List.mem_append.1 hm with h1 | h1
        · exact K.shape m h1
        · exact HB.shape m h1
      · intro m hm
        rcases List.mem_append.1 hm with h1 | h1
        · obtain ⟨c, h2, h3⟩ := K.pre m h1
          exact ⟨c, by omega, h3⟩
        · exact ⟨h, by omega, by rw [← hhd]; exact HB.pre m h1⟩
      · show (ns ++ t).Pairwise _
        rw [List.pairwise_append]
        refine ⟨K.rise, HB.rise, fun x hx y hy => ?_⟩
        obtain ⟨c, h2, h3⟩ := K.pre x hx
        exact ltL_of_parts h2 (by omega) h3 (by rw [← hhd]; exact HB.pre y hy)
      · show (ns ++ t).length + 2 * (nz (ks.set h _)).length ≤ _
        have h1 := K.few
        have h2 := HB.few
        simp only at h1
        rw [hnz, hf, List.length_append, List.length_append, List.length_append, List.length_singleton]
        omega
      · intro c hc hne
        show ∃ k, (ks.set h _)[c]? = some k ∧ _
        by_cases e : h = c
        · subst e
          exact ⟨_, List.getElem?_set_self hlen, hx⟩
        · rw [List.getElem?_set_ne e]
          exact K.full c (by omega) hne
      · intro m hm
        rcases List.mem_append.1 hm with h1 | h1
        · exact K.key m h1
        · obtain ⟨p, hp, h2⟩ := HB.key m h1
          exact ⟨p, (grp_mem.1 hp).1, h2⟩

theorem nz_one {ks : List Int} {c : Nat} {k : Int} (h : ks[c]? = some k) (hk : k ≠ 0) : 1 ≤ (nz ks).length :=
  List.length_pos_of_mem (List.mem_filter.2 ⟨List.mem_of_getElem? h, by simpa using hk⟩)
theorem nz_two {ks : List Int} {c d : Nat} {k x : Int} (hcd : c < d) (h : ks[c]? = some k) (hk : k ≠ 0) (h' : ks[d]? = some x) (hx : x ≠ 0) : 2 ≤ (nz ks).length := by
  have e : nz ks = nz (ks.take d) ++ nz (ks.drop d) := by unfold nz; rw [← List.filter_append, List.take_append_drop]
  have h1 : 1 ≤ (nz (ks.take d)).length := nz_one (c := c) (by rw [List.getElem?_take, if_pos hcd]; exact h) hk
  have h2 : 1 ≤ (nz (ks.drop d)).length := nz_one (c := 0) (by rw [List.getElem?_drop]; exact h') hx
  rw [e, List.length_append]; omega
theorem headP_eq (l : List Pr) (n : Nat) : headP l n = (headK l).take n := by cases l <;> simp [headP, headK]
theorem fork_blk (G : List Pr → Nat → List NP) {l : List Pr} {n : Nat} (F : Fork l n) (b : Nat)
    (hG : ∀ c, c < 16 → grp (restL l n) n c ≠ [] → ∀ b', Blk (grp (restL l n) n c) (n + 1) b' (G (grp (restL l n) n c) b')) :
    Blk l n b (forkW G l n b) ∧ (forkW G l n b).length + 3 ≤ 3 * l.length ∧ ∃ m r, forkW G l n b = m :: r ∧ m.1.kind = 3 := by
  have K := kidsW_ok G F (b + 1) (by omega) hG 16 (Nat.le_refl _)
  rw [show forkW G l n b = (brN (endsB l n) (headV l n) (kidsW G (fun h => grp (restL l n) n h) (b + 1) 16).1, headP l n) :: (kidsW G (fun h => grp (restL l n) n h) (b + 1) 16).2 from rfl, headP_eq]
  generalize kidsW G (fun c => grp (restL l n) n c) (b + 1) 16 = s at K ⊢
  obtain ⟨ks, ns⟩ := s
  simp only at K ⊢
  have hall := F.all16
  have hvals := K.vals
  have hfew := K.few
  rw [hall] at hvals hfew
  simp only at hvals hfew
  have hways : 2 ≤ (nz ks).length + (if endsB l n then 1 else 0) ∧ (restL l n).length + (if endsB l n then 1 else 0) = l.length := by
    rcases F.ways with ⟨h1, c, h2, h3⟩ | ⟨h1, c, d, h2, h3, h4, h5⟩
    · obtain ⟨k, hk, hk0⟩ := K.full c h2 h3
      have := nz_one hk hk0
      rw [h1]
      refine ⟨by simpa using this, ?_⟩
      unfold restL
      rw [h1]
      simp only [if_true, List.length_tail]
      have := F.two
      omega
    · obtain ⟨k, hk, hk0⟩ := K.full c (by omega) h4
      obtain ⟨x, hx, hx0⟩ := K.full d h3 h5
      have := nz_two h2 hk hk0 hx hx0
      rw [h1]
      refine ⟨by simpa using this, ?_⟩
      unfold restL
      rw [h1]; rfl
  have hlen : ns.length + 4 ≤ 3 * l.length := by
    obtain ⟨h1, h2⟩ := hways
    split at h1 <;> simp_all <;> omega
  refine ⟨⟨⟨_, _, rfl, rfl⟩, ?_, ?_, ?_, ?_, ?_, ?_, by simp only [List.length_cons]; omega, ?_⟩, by simp only [List.length_cons]; omega, _, _, rfl, rfl⟩
  · intro m hm
    rcases List.mem_cons.1 hm with rfl | h1
    · exact List.prefix_refl _
    · obtain ⟨c, _, h2⟩ := K.pre m h1
      exact (List.prefix_append _ _).trans h2
  · intro i m hm c k hk hk0
    cases i with
    | zero =>
      obtain rfl : _ = m := Option.some.inj hm
      obtain ⟨j, m', h1, h2, h3⟩ := K.tok c k hk hk0
      refine ⟨j + 1, m', by rw [h1]; congr 1; omega, by omega, h2, ?_, fun h => absurd (show (3 : Int) = 2 from h) (by decide)⟩
      rw [h3]
      show _ = childP 3 ((headK l).take n ++ []) c
      rw [List.append_nil]; rfl
    | succ i =>
      rw [List.getElem?_cons_succ] at hm
      obtain ⟨j, m', h1, h2, h3, h4⟩ := K.kid i m hm c k hk hk0
      exact ⟨j + 1, m', by rw [h1]; congr 1; omega, by omega, by rw [List.getElem?_cons_succ]; exact h3, h4⟩
  · show (nz ks ++ linksOf ns).Perm (nums (b + 1) ns.length)
    exact K.links
  · rw [List.filterMap_cons]
    cases hb : endsB l n
    · show ns.filterMap valOf = l
      rw [hvals]; unfold restL; rw [hb]; rfl
    · show ((headK l).take n ++ [], headV l n) :: ns.filterMap valOf = l
      rw [hvals]
      obtain ⟨q, hq, e, e2, r, hl⟩ := headK_mem F.ne
      have hr : restL l n = r := by unfold restL; rw [hb, hl]; rfl
      have hv : headV l n = q.2 := by unfold headV; rw [hb, hl]; rfl
      have h0 := (ends_iff F.ne).1 hb
      rw [hr, hv]
      show ((headK l).take n ++ [], q.2) :: r = l
      rw [List.append_nil, List.take_of_length_le (by omega), ← e, hl]
  · intro m hm
    rcases List.mem_cons.1 hm with rfl | h1
    · exact .inr (.inr ⟨rfl, rfl, K.len, hways.1, fun h => by
        have h : endsB l n = false := h
        show headV l n = []
        unfold headV; rw [h]; rfl⟩)
    · exact K.shape m h1
  · rw [List.pairwise_cons]
    refine ⟨fun m hm => ?_, K.rise⟩
    obtain ⟨c, _, x, h2⟩ := K.pre m hm
    show ltL ((headK l).take n) m.2
    rw [← h2, List.append_assoc]
    exact ltL_prefix _ (by simp)
  · intro m hm
    rcases List.mem_cons.1 hm with rfl | h1
    · obtain ⟨q, hq, e, _⟩ := headK_mem F.ne
      refine ⟨q, hq, ?_⟩
      show ((headK l).take n ++ []) <+: q.1
      rw [List.append_nil, e]; exact List.take_prefix _ _
    · obtain ⟨p, hp, h2⟩ := K.key m h1
      exact ⟨p, (rest_sub l n).subset hp, h2⟩

theorem grow_blk : ∀ (f : Nat) (l : List Pr) (n b : Nat), 17 ≤ n + f → Fit l n → l ≠ [] → Blk l n b (grow f l n b)
  | 0, l, n, b, h, hl, hne => by
    obtain ⟨p, hp, _⟩ := headK_mem hne
    have := hl.len p hp
    omega
  | f + 1, l, n, b, h, hl, hne => by
    unfold grow
    rw [if_neg (by rw [List.length_eq_zero_iff]; exact hne)]
    split
    · next h1 =>
      obtain ⟨p, rfl⟩ := List.length_eq_one_iff.1 h1
      have e : p.1.take n ++ p.1.drop n = p.1 := List.take_append_drop _ _
      refine ⟨⟨_, _, rfl, rfl⟩, fun m hm => ?_, ?_, ?_, ?_, ?_, List.pairwise_singleton _ _, by simp, fun m hm => ⟨p, by simp, ?_⟩⟩
      · obtain rfl := List.mem_singleton.1 hm
        exact List.prefix_refl _
      · intro i m hm c k hk hk0
        cases i with
        | zero =>
          obtain rfl : _ = m := Option.some.inj hm
          refine absurd ?_ hk0
          have hk : no16[c]? = some k := hk
          unfold no16 at hk; rw [List.getElem?_replicate] at hk
          split at hk
          · exact (Option.some.inj hk).symm
          · cases hk
        | succ i => simp at hm
      · show (nz no16 ++ []).Perm []
        decide
      · show [((p.1.take n ++ p.1.drop n, p.2) : Pr)] = [p]
        rw [e]
      · intro m hm
        obtain rfl := List.mem_singleton.1 hm
        exact .inl ⟨rfl, rfl, rfl⟩
      · obtain rfl := List.mem_singleton.1 hm
        show (p.1.take n ++ p.1.drop n) <+: p.1
        rw [e]; exact List.prefix_refl _
    · next h1 =>
      have h0 : l.length ≠ 0 := fun e => hne (List.length_eq_zero_iff.1 e)
      have F := hl.fork (by omega)
      split
      · next hc =>
        rw [hc, Nat.add_zero] at F
        exact (fork_blk _ F b fun c _ hg b' => grow_blk f _ (n + 1) b' (by omega) (F.group c) hg).1
      · next hc =>
        have hcl := (hl.com hne).2
        obtain ⟨HB, H3, m0, r0, hm0, hk3⟩ := fork_blk (fun g => grow f g (n + comG l n + 1)) F (b + 1) fun c _ hg b' => grow_blk f _ (n + comG l n + 1) b' (by omega) (F.group c) hg
        obtain ⟨m1, r1, hm1, hp1⟩ := HB.head
        generalize forkW (fun g => grow f g (n + comG l n + 1)) l (n + comG l n) (b + 1) = t at HB H3 hm0 hm1 ⊢
        have hpath : ((headK l).take n) ++ ((headK l).drop n).take (comG l n) = (headK l).take (n + comG l n) := by rw [List.take_add]
        have hpne : ((headK l).drop n).take (comG l n) ≠ [] := by
          intro e
          have : (((headK l).drop n).take (comG l n)).length = 0 := by rw [e]; rfl
          rw [List.length_take, List.length_drop] at this
          omega
        have hpos := HB.ne
        refine ⟨⟨_, _, rfl, rfl⟩, ?_, ?_, ?_, ?_, ?_, ?_, by simp only [List.length_cons]; omega, ?_⟩
        · intro m hm
          rcases List.mem_cons.1 hm with rfl | h2
          · exact List.prefix_refl _
          · have := HB.pre m h2
            rw [← hpath] at this
            exact (List.prefix_append _ _).trans this
        · intro i m hm c k hk hk0
          cases i with
          | zero =>
            obtain rfl : _ = m := Option.some.inj hm
            have hk : (no16.set 0 ((b + 1 : Nat) : Int))[c]? = some k := hk
            have hc0 : c = 0 := by
              refine Decidable.byContradiction fun hn => hk0 ?_
              rw [List.getElem?_set_ne (by omega)] at hk
              unfold no16 at hk; rw [List.getElem?_replicate] at hk
              split at hk
              · exact (Option.some.inj hk).symm
              · cases hk
            subst hc0
            rw [List.getElem?_set_self (by decide)] at hk
            obtain rfl := Option.some.inj hk
            refine ⟨1, m0, by omega, by omega, by rw [hm0]; rfl, ?_, fun _ => ⟨rfl, hk3⟩⟩
            have hmm : m1 = m0 := by rw [hm1] at hm0; exact (List.cons.inj hm0).1
            rw [← hmm, hp1, ← hpath]; rfl
          | succ i =>
            rw [List.getElem?_cons_succ] at hm
            obtain ⟨j, m', h1, h2, h3, h4⟩ := HB.kid i m hm c k hk hk0
            exact ⟨j + 1, m', by rw [h1]; congr 1; omega, by omega, by rw [List.getElem?_cons_succ]; exact h3, h4⟩
        · show (nz (no16.set 0 ((b + 1 : Nat) : Int)) ++ linksOf t).Perm (nums (b + 1) t.length)
          have e1 : nz (no16.set 0 ((b + 1 : Nat) : Int)) = [((b + 1 : Nat) : Int)] := by
            show List.filter (fun k : Int => k != 0) (((b + 1 : Nat) : Int) :: List.replicate 15 0) = _
            rw [List.filter_cons_of_pos (by rw [bne_iff_ne]; omega)]
            rfl
          have e2 : nums (b + 1) t.length = ((b + 1 : Nat) : Int) :: nums (b + 1 + 1) (t.length - 1) := by rw [← nums_cons]; congr 1; omega
          rw [e1, e2]
          exact HB.links.cons _
        · show t.filterMap valOf = l
          exact HB.vals
        · intro m hm
          rcases List.mem_cons.1 hm with rfl | h2
          · exact .inr (.inl ⟨rfl, rfl, rfl, hpne, _, by omega, rfl⟩)
          · exact HB.shape m h2
        · rw [List.pairwise_cons]
          refine ⟨fun m hm => ?_, HB.rise⟩
          obtain ⟨x, hx⟩ := HB.pre m hm
          show ltL ((headK l).take n) m.2
          rw [← hx, ← hpath, List.append_assoc]
          exact ltL_prefix _ (by simp [hpne])
        · intro m hm
          rcases List.mem_cons.1 hm with rfl | h2
          · obtain ⟨q, hq, e, _⟩ := headK_mem hne
            refine ⟨q, hq, ?_⟩
            show ((headK l).take n ++ ((headK l).drop n).take (comG l n)) <+: q.1
            rw [hpath, e]; exact List.take_prefix _ _
          · exact HB.key m h2

end Go.Proofs.YtjikdbmdaeonlaaDoor
namespace Go.Proofs.YtjikdbmdaeonlaaDoor.No
open Go.RowKit
set_option maxRecDepth 20000

/-- Of a first byte and the rest: is it a Pack's beginning; the halves; how many bytes. -/
def headB (c : UInt8) (r : List UInt8) : Bool := decide (c.toNat ≤ 16) && decide ((c.toNat + 1) / 2 ≤ r.length)
def lastB (c : UInt8) (r : List UInt8) : Bool := !oddB c.toNat || decide (((ofL (r.take ((c.toNat + 1) / 2))).getD c.toNat 0).toNat = 0)
def unpackB : List UInt8 → Bool
  | [] => false
  | c :: r => headB c r && lastB c r
def unN : List UInt8 → List UInt8
  | [] => []
  | c :: r => (ofL (r.take ((c.toNat + 1) / 2))).take c.toNat
def unUsed : List UInt8 → Nat
  | [] => 0
  | c :: _ => 1 + (c.toNat + 1) / 2

theorem head_parts (s : ByteArray) (c : UInt8) (r : List UInt8) (h : L s = c :: r) : s.size = r.length + 1 ∧ (s.toList == []) = false ∧ ∃ h0 : 0 < s.size, s[0] = c := by
  have hlen : s.size = r.length + 1 := by rw [← L_size, h]; rfl
  refine ⟨hlen, by rw [toList_L, h]; rfl, by omega, ?_⟩
  have := L_get s 0 (by omega)
  rw [h] at this
  simpa using this.symm

end Go.Proofs.YtjikdbmdaeonlaaDoor.No
namespace Go.Proofs.YtjikdbmdaeonlaaDoor.No
open Go.RowKit
set_option maxRecDepth 20000

theorem pack_any (s : ByteArray) (hs : s.size ≤ 4000) (w : World) (hT : Tab w) :
    Calls Tryd.prog 63 #[.string s] w fun e w' => e = .returned (.tuple #[.string (if goodB (L s) then bs (packL (L s)) else bs []), .bool (goodB (L s))]) ∧ Kept w w' := by
  cases h : goodB (L s)
  · exact pack_no s hs h w
  · exact pack_yes s hs h w hT

end Go.Proofs.YtjikdbmdaeonlaaDoor.No
namespace Go.Proofs.YtjikdbmdaeonlaaDoor.No
open Go.RowKit
set_option maxRecDepth 20000

theorem keyB_of (l : List UInt8) : keyB (ofL l) = true := by
  unfold keyB oddB
  rw [halvesB_of, ofL_length, decide_eq_false (by omega)]; rfl
theorem join_odd (x : List UInt8) : x ≠ [] → ((ofL x).getD (2 * x.length - 1) 0).toNat = 0 → joinL ((ofL x).take (2 * x.length - 1)) = x := by
  induction x with
  | nil => intro h; exact absurd rfl h
  | cons c l ih =>
    intro _ h
    cases l with
    | nil =>
      have h' : (lo c).toNat = 0 := h
      show [two (hi c) 0] = [c]
      have e : lo c = 0 := UInt8.toNat_inj.1 h'
      rw [← e, two_hi_lo]
    | cons d l =>
      have e : 2 * (c :: d :: l).length - 1 = (2 * (d :: l).length - 1) + 1 + 1 := by simp only [List.length_cons]; omega
      rw [e] at h ⊢
      have h' : ((ofL (d :: l)).getD (2 * (d :: l).length - 1) 0).toNat = 0 := h
      have := ih (by simp) h'
      show two (hi c) (lo c) :: joinL ((ofL (d :: l)).take (2 * (d :: l).length - 1)) = _
      rw [this, two_hi_lo]
theorem pack_head (n : List UInt8) (h : goodB n = true) : (UInt8.ofNat n.length).toNat = n.length := byte_of _ (by have := (goodB_parts h).1; omega)
theorem pack_length (n : List UInt8) : (packL n).length = 1 + (n.length + 1) / 2 := by unfold packL; rw [List.length_cons, joinL_length]; omega

theorem unpack_pack (n m : List UInt8) (h : goodB n = true) : unpackB (packL n ++ m) = true ∧ unN (packL n ++ m) = n ∧ unUsed (packL n ++ m) = (packL n).length := by
  have hp := goodB_parts h
  have hc := pack_head n h
  have ht : (joinL n ++ m).take ((n.length + 1) / 2) = joinL n := by
    rw [← joinL_length, List.take_left]
  have e : packL n ++ m = UInt8.ofNat n.length :: (joinL n ++ m) := rfl
  rw [e]
  refine ⟨?_, ?_, ?_⟩
  · show (headB _ _ && lastB _ _) = true
    unfold headB lastB
    rw [hc, ht, of_join n hp.2, decide_eq_true hp.1, decide_eq_true (by rw [List.length_append, joinL_length]; omega), Bool.true_and, Bool.true_and]
    by_cases ho : n.length % 2 = 1
    · rw [if_pos ho]
      have : (n ++ [0]).getD n.length 0 = (0 : UInt8) := by
        rw [List.getD_eq_getElem?_getD, List.getElem?_append_right (Nat.le_refl _), Nat.sub_self]; rfl
      rw [this]
      simp
    · unfold oddB; rw [decide_eq_false ho]; rfl
  · show (ofL ((joinL n ++ m).take (((UInt8.ofNat n.length).toNat + 1) / 2))).take (UInt8.ofNat n.length).toNat = n
    rw [hc, ht, of_join n hp.2]
    split
    · rw [List.take_left]
    · rw [List.take_length]
  · show 1 + ((UInt8.ofNat n.length).toNat + 1) / 2 = _
    rw [hc, pack_length]

theorem halvesB_take {l : List UInt8} (h : halvesB l = true) (k : Nat) : halvesB (l.take k) = true := by
  refine halvesB_good fun j c hj => ?_
  rw [List.getElem?_take] at hj
  split at hj
  · exact halvesB_get h hj
  · cases hj

theorem pack_unpack (l : List UInt8) (h : unpackB l = true) : goodB (unN l) = true ∧ packL (unN l) = l.take (unUsed l) ∧ 1 ≤ unUsed l ∧ unUsed l ≤ l.length := by
  cases l with
  | nil => cases h
  | cons c r =>
    have h' : (headB c r && lastB c r) = true := h
    unfold headB lastB at h'
    rw [Bool.and_eq_true, Bool.and_eq_true, decide_eq_true_eq, decide_eq_true_eq] at h'
    obtain ⟨⟨h16, hJ⟩, hl⟩ := h'
    have hlen : (unN (c :: r)).length = c.toNat := by
      show ((ofL (r.take ((c.toNat + 1) / 2))).take c.toNat).length = _
      rw [List.length_take, ofL_length, List.length_take]; omega
    have hj : joinL (unN (c :: r)) = r.take ((c.toNat + 1) / 2) := by
      show joinL ((ofL (r.take ((c.toNat + 1) / 2))).take c.toNat) = _
      by_cases ho : c.toNat % 2 = 1
      · have hx : (r.take ((c.toNat + 1) / 2)).length = (c.toNat + 1) / 2 := by rw [List.length_take]; omega
        have e : c.toNat = 2 * (r.take ((c.toNat + 1) / 2)).length - 1 := by rw [hx]; omega
        unfold oddB at hl
        rw [decide_eq_true ho, Bool.not_true, Bool.false_or, decide_eq_true_eq] at hl
        generalize hxx : r.take ((c.toNat + 1) / 2) = x at *
        rw [e]
        rw [e] at hl
        refine join_odd x ?_ hl
        intro h0
        rw [h0] at e
        simp at e
        omega
      · rw [List.take_of_length_le (by rw [ofL_length, List.length_take]; omega), join_of]
    refine ⟨?_, ?_, ?_, ?_⟩
    · unfold goodB
      rw [hlen, decide_eq_true h16, Bool.true_and]
      exact halvesB_take (halvesB_of _) _
    · unfold packL
      rw [hlen, hj]
      show UInt8.ofNat c.toNat :: _ = (c :: r).take (1 + (c.toNat + 1) / 2)
      rw [Nat.add_comm 1, List.take_succ_cons, UInt8.ofNat_toNat]
    · show 1 ≤ 1 + _; omega
    · show 1 + (c.toNat + 1) / 2 ≤ r.length + 1; omega

end Go.Proofs.YtjikdbmdaeonlaaDoor.No
namespace Go.Proofs.YtjikdbmdaeonlaaDoor.No
set_option maxRecDepth 20000

/-- An Item: kind, path, has, value, mask, hashes. -/
structure It where
  k : Int
  p : List UInt8
  has : Bool
  v : List UInt8
  m : Int
  hs : List (List UInt8)

/-- How many of the first bits of a number are set. -/
def popT (m : Nat) : Nat → Nat
  | 0 => 0
  | k + 1 => popT m k + m / 2 ^ k % 2
def popN (m : Nat) : Nat := popT m 16
theorem popT_le (m k : Nat) : popT m k ≤ k := by
  induction k with
  | zero => exact Nat.le_refl _
  | succ k ih => show popT m k + m / 2 ^ k % 2 ≤ k + 1; omega
theorem popN_le (m : Nat) : popN m ≤ 16 := popT_le m 16

def emptyB (l : List UInt8) : Bool := decide (l.length = 0)
theorem emptyB_true {l : List UInt8} : emptyB l = true ↔ l = [] := by unfold emptyB; rw [decide_eq_true_eq, List.length_eq_zero_iff]
theorem emptyB_false {l : List UInt8} : emptyB l = false ↔ l ≠ [] := by unfold emptyB; rw [decide_eq_false_iff_not, List.length_eq_zero_iff]
def goodV (I : It) : Bool := decide (I.v.length ≤ 16) && (I.has || emptyB I.v)
def goodH (hs : List (List UInt8)) (n : Nat) : Bool := decide (hs.length = n) && hs.all fun h => decide (h.length = 32)
def leadsN (I : It) : Nat := popN I.m.toNat + if I.has then 1 else 0
def goodLf (I : It) : Bool := goodB I.p && (I.has && (goodV I && (decide (I.m = 0) && decide (I.hs.length = 0))))
def goodEx (I : It) : Bool := !emptyB I.p && (goodB I.p && (!I.has && (emptyB I.v && (decide (I.m = 1) && goodH I.hs 1))))
def goodBr (I : It) : Bool := emptyB I.p && (decide (0 ≤ I.m) && (decide (I.m ≤ 65535) && (goodV I && (decide (2 ≤ leadsN I) && goodH I.hs (popN I.m.toNat)))))
def goodI (I : It) : Bool := if I.k = 1 then goodLf I else if I.k = 2 then goodEx I else if I.k = 3 then goodBr I else false

theorem goodH_iff {hs : List (List UInt8)} {n : Nat} : goodH hs n = true ↔ hs.length = n ∧ ∀ h ∈ hs, h.length = 32 := by
  unfold goodH; simp
inductive GoodI : It → Prop
  | leaf (p v : List UInt8) (hp : goodB p = true) (hv : v.length ≤ 16) : GoodI ⟨1, p, true, v, 0, []⟩
  | ext (p h : List UInt8) (hp : goodB p = true) (h0 : p ≠ []) (hh : h.length = 32) : GoodI ⟨2, p, false, [], 1, [h]⟩
  | branch (has : Bool) (v : List UInt8) (m : Nat) (hs : List (List UInt8)) (hv : v.length ≤ 16) (hv2 : has = false → v = []) (hm : m < 65536) (h2 : 2 ≤ popN m + if has then 1 else 0) (hl : hs.length = popN m) (hh : ∀ h ∈ hs, h.length = 32) : GoodI ⟨3, [], has, v, (m : Int), hs⟩
theorem goodI_iff (I : It) : goodI I = true ↔ GoodI I := by
  constructor
  · intro h
    obtain ⟨k, p, has, v, m, hs⟩ := I
    unfold goodI at h
    simp only at h
    split at h
    · subst k
      unfold goodLf goodV at h
      simp only [Bool.and_eq_true, decide_eq_true_eq, List.length_eq_zero_iff] at h
      obtain ⟨h1, h2, ⟨h3, _⟩, h5, h6⟩ := h
      subst h2; subst h5; subst h6
      exact .leaf p v h1 h3
    · split at h
      · subst k
        unfold goodEx at h
        simp only [Bool.and_eq_true, decide_eq_true_eq, Bool.not_eq_true', emptyB_true, emptyB_false, goodH_iff] at h
        obtain ⟨h1, h2, h3, h4, h5, h6, h7⟩ := h
        subst h3; subst h4; subst h5
        obtain ⟨x, rfl⟩ := List.length_eq_one_iff.1 h6
        exact .ext p x h2 h1 (h7 x (by simp))
      · split at h
        · subst k
          unfold goodBr goodV leadsN at h
          simp only [Bool.and_eq_true, decide_eq_true_eq, Bool.or_eq_true, emptyB_true, goodH_iff] at h
          obtain ⟨h1, h2, h3, ⟨h4, h5⟩, h6, h7, h8⟩ := h
          subst h1
          obtain ⟨n, rfl⟩ : ∃ n : Nat, m = (n : Int) := ⟨m.toNat, by omega⟩
          rw [Int.toNat_natCast] at h6 h7
          exact .branch has v n hs h4 (fun e => h5.resolve_left (by rw [e]; decide)) (by omega) h6 h7 h8
        · cases h
  · intro h
    cases h with
    | leaf p v hp hv => simp [goodI, goodLf, goodV, hp, hv]
    | ext p h hp h0 hh => simp [goodI, goodEx, hp, goodH, hh, emptyB_false.2 h0]; rfl
    | branch has v m hs hv hv2 hm h2 hl hh =>
      have e : goodH hs (popN m) = true := goodH_iff.2 ⟨hl, hh⟩
      have e2 : (has || emptyB v) = true := by
        cases has with
        | true => rfl
        | false => rw [hv2 rfl]; rfl
      simp only [goodI, goodBr, goodV, leadsN, Int.toNat_natCast, e, e2, hv]
      simp [h2, emptyB]
      omega

/-- An Item's text in pieces. -/
structure Pt where
  kind : List UInt8
  path : List UInt8
  mask : List UInt8
  has : List UInt8
  size : List UInt8
  value : List UInt8
  hs : List (List UInt8)
  rest : List UInt8
def Pt.text (P : Pt) : List UInt8 := P.kind ++ (P.path ++ (P.mask ++ (P.has ++ (P.size ++ (P.value ++ P.hs.flatten)))))
def pad16 (hs : List (List UInt8)) : List (List UInt8) := hs ++ List.replicate (16 - hs.length) []
theorem pad16_length (hs : List (List UInt8)) (h : hs.length ≤ 16) : (pad16 hs).length = 16 := by unfold pad16; simp; omega
theorem flat_nil (n : Nat) : (List.replicate n ([] : List UInt8)).flatten = [] := by
  induction n with
  | zero => rfl
  | succ n ih => rw [List.replicate_succ, List.flatten_cons, ih]; rfl
theorem pad16_flat (hs : List (List UInt8)) : (pad16 hs).flatten = hs.flatten := by
  unfold pad16; rw [List.flatten_append, flat_nil, List.append_nil]
def ptOf (I : It) : Pt :=
  { kind := [UInt8.ofNat I.k.toNat]
    path := if I.k = 3 then [] else packL I.p
    mask := if I.k = 3 then [UInt8.ofNat (I.m.toNat / 256), UInt8.ofNat I.m.toNat] else []
    has := if I.k = 3 then [if I.has then 1 else 0] else []
    size := if I.has then [UInt8.ofNat I.v.length] else []
    value := if I.has then I.v else []
    hs := pad16 I.hs
    rest := [] }
def encL (I : It) : List UInt8 := (ptOf I).text

/-- Bytes as a number, the highest first. -/
def numN (l : List UInt8) : Nat := l.foldl (fun v c => v * 256 + c.toNat) 0
theorem numN_one (c : UInt8) : numN [c] = c.toNat := by show 0 * 256 + c.toNat = _; omega
theorem numN_two (c d : UInt8) : numN [c, d] = c.toNat * 256 + d.toNat := by show (0 * 256 + c.toNat) * 256 + d.toNat = _; omega
/-- How many bytes the Pack has that a text begins with. -/
def pkN (l : List UInt8) : Nat := if unpackB l then unUsed l else 0
/-- So many pieces of 32 bytes. -/
def cutH (l : List UInt8) (n : Nat) : List (List UInt8) := (List.range n).map fun j => (l.drop (32 * j)).take 32
theorem cutH_length (l : List UInt8) (n : Nat) : (cutH l n).length = n := by unfold cutH; simp
theorem cutH_succ (l : List UInt8) (n : Nat) : cutH l (n + 1) = cutH l n ++ [(l.drop (32 * n)).take 32] := by unfold cutH; rw [List.range_succ, List.map_append]; rfl

def leafP (s : List UInt8) : Pt :=
  { kind := s.take 1, path := (s.drop 1).take (pkN (s.drop 1)), mask := [], has := []
    size := ((s.drop 1).drop (pkN (s.drop 1))).take 1
    value := (((s.drop 1).drop (pkN (s.drop 1))).drop 1).take (numN (((s.drop 1).drop (pkN (s.drop 1))).take 1))
    hs := List.replicate 16 []
    rest := (((s.drop 1).drop (pkN (s.drop 1))).drop 1).drop (numN (((s.drop 1).drop (pkN (s.drop 1))).take 1)) }
def extP (s : List UInt8) : Pt :=
  { kind := s.take 1, path := (s.drop 1).take (pkN (s.drop 1)), mask := [], has := [], size := [], value := []
    hs := pad16 [((s.drop 1).drop (pkN (s.drop 1))).take 32]
    rest := ((s.drop 1).drop (pkN (s.drop 1))).drop 32 }
def brV (r : List UInt8) (P : Pt) : Pt :=
  { P with hs := pad16 (cutH r (popN (numN P.mask))), rest := r.drop (32 * popN (numN P.mask)) }
def brP (s : List UInt8) : Pt :=
  if ((s.drop 1).drop 2).take 1 = [1] then
    brV (((((s.drop 1).drop 2).drop 1).drop 1).drop (numN ((((s.drop 1).drop 2).drop 1).take 1)))
      { kind := s.take 1, path := [], mask := (s.drop 1).take 2, has := ((s.drop 1).drop 2).take 1
        size := (((s.drop 1).drop 2).drop 1).take 1, value := ((((s.drop 1).drop 2).drop 1).drop 1).take (numN ((((s.drop 1).drop 2).drop 1).take 1)), hs := [], rest := [] }
  else brV (((s.drop 1).drop 2).drop 1)
      { kind := s.take 1, path := [], mask := (s.drop 1).take 2, has := ((s.drop 1).drop 2).take 1, size := [], value := [], hs := [], rest := [] }
def inP (s : List UInt8) : Pt :=
  if numN (s.take 1) = 1 then leafP s else if numN (s.take 1) = 2 then extP s else if numN (s.take 1) = 3 then brP s
  else { kind := s.take 1, path := [], mask := [], has := [], size := [], value := [], hs := List.replicate 16 [], rest := s.drop 1 }

theorem cutH_flat (l : List UInt8) (n : Nat) : (cutH l n).flatten ++ l.drop (32 * n) = l := by
  induction n with
  | zero => simp [cutH]
  | succ n ih =>
    rw [cutH_succ, List.flatten_append, List.append_assoc]
    show _ ++ (([(l.drop (32 * n)).take 32] : List (List UInt8)).flatten ++ _) = l
    rw [show ([(l.drop (32 * n)).take 32] : List (List UInt8)).flatten = (l.drop (32 * n)).take 32 by simp, show 32 * (n + 1) = 32 * n + 32 by omega, ← List.drop_drop, List.take_append_drop]
    exact ih
/-- What was read, put together, is the text. -/
theorem in_text (s : List UInt8) : (inP s).text ++ (inP s).rest = s := by
  have h1 : s.take 1 ++ s.drop 1 = s := List.take_append_drop 1 s
  unfold inP
  split
  · unfold leafP Pt.text
    simp only [flat_nil, List.append_assoc, List.nil_append]
    generalize s.drop 1 = r at *
    rw [List.take_append_drop, List.take_append_drop, List.take_append_drop, h1]
  · split
    · unfold extP Pt.text
      simp only [pad16_flat, List.append_assoc, List.nil_append, List.flatten_cons, List.flatten_nil]
      generalize s.drop 1 = r at *
      rw [List.take_append_drop, List.take_append_drop, h1]
    · split
      · unfold brP
        split
        · unfold brV Pt.text
          simp only [pad16_flat, List.append_assoc, List.nil_append]
          rw [cutH_flat]
          generalize s.drop 1 = r at *
          rw [List.take_append_drop, List.take_append_drop, List.take_append_drop, List.take_append_drop, h1]
        · unfold brV Pt.text
          simp only [pad16_flat, List.append_assoc, List.nil_append]
          rw [cutH_flat]
          generalize s.drop 1 = r at *
          rw [List.take_append_drop, List.take_append_drop, h1]
      · unfold Pt.text
        simp only [flat_nil, List.append_nil]
        exact h1

/-- What the pieces tell. -/
def itM (P : Pt) : Nat := if numN P.kind = 2 then 1 else if numN P.kind = 3 then numN P.mask else 0
def itP (P : Pt) : It :=
  { k := (numN P.kind : Nat), p := if unpackB P.path then unN P.path else [], has := decide (numN P.kind = 1) || (decide (numN P.kind = 3) && decide (P.has = [1])), v := P.value, m := (itM P : Nat), hs := P.hs.take (popN (itM P)) }
theorem pop0 : popN 0 = 0 := by decide
theorem pop1 : popN 1 = 1 := by decide
theorem mask_num (m : Nat) (h : m < 65536) : numN [UInt8.ofNat (m / 256), UInt8.ofNat m] = m := by
  rw [numN_two, UInt8.toNat_ofNat', UInt8.toNat_ofNat']; omega
theorem size_num (v : List UInt8) (h : v.length ≤ 16) : numN [UInt8.ofNat v.length] = v.length := by
  rw [numN_one, UInt8.toNat_ofNat']; omega
theorem take_pad (hs : List (List UInt8)) : (pad16 hs).take hs.length = hs := by
  unfold pad16; rw [List.take_left]
theorem unpack_self (p : List UInt8) (h : goodB p = true) : unpackB (packL p) = true ∧ unN (packL p) = p := by
  have := unpack_pack p [] h
  rw [List.append_nil] at this
  exact ⟨this.1, this.2.1⟩
theorem it_pt (I : It) (h : goodI I = true) : itP (ptOf I) = I := by
  rw [goodI_iff] at h
  cases h with
  | leaf p v hp hv =>
    have hu := unpack_self p hp
    unfold itP itM ptOf
    simp [numN_one, hu, pop0]
  | ext p h hp h0 hh =>
    have hu := unpack_self p hp
    unfold itP itM ptOf
    simp [numN_one, hu, pop1, pad16]
  | branch has v m hs hv hv2 hm h2 hl hh =>
    unfold itP itM ptOf
    have hk : numN [UInt8.ofNat (3 : Int).toNat] = 3 := by decide
    simp only [hk, if_true, Int.toNat_natCast, mask_num m hm]
    have e1 : (pad16 hs).take (popN m) = hs := by rw [← hl]; exact take_pad hs
    simp only [show (3 : Nat) = 2 ↔ False by simp, if_false, e1]
    cases has with
    | true => simp [unpackB]
    | false => simp [unpackB, hv2 rfl]

theorem drop_pack (p r : List UInt8) (h : goodB p = true) : pkN (packL p ++ r) = (packL p).length := by
  have := unpack_pack p r h
  unfold pkN
  rw [this.1, if_pos rfl, this.2.2]
theorem cutH_eq (hs : List (List UInt8)) (r : List UInt8) (h : ∀ x ∈ hs, x.length = 32) : cutH (hs.flatten ++ r) hs.length = hs ∧ (hs.flatten ++ r).drop (32 * hs.length) = r := by
  induction hs generalizing r with
  | nil => simp [cutH]
  | cons x hs ih =>
    have hx := h x (by simp)
    have ih := ih r (fun y hy => h y (by simp [hy]))
    have e : (x :: hs).flatten ++ r = x ++ (hs.flatten ++ r) := by rw [List.flatten_cons, List.append_assoc]
    rw [e]
    refine ⟨?_, ?_⟩
    · unfold cutH
      rw [List.length_cons, List.range_succ_eq_map, List.map_cons, List.map_map]
      have h0 : ((x ++ (hs.flatten ++ r)).drop (32 * 0)).take 32 = x := by rw [Nat.mul_zero, List.drop_zero, ← hx, List.take_left]
      rw [h0]
      congr 1
      refine Eq.trans ?_ ih.1
      unfold cutH
      refine List.map_congr_left fun j _ => ?_
      show ((x ++ (hs.flatten ++ r)).drop (32 * (j + 1))).take 32 = _
      rw [show 32 * (j + 1) = x.length + 32 * j by omega, ← List.drop_drop, List.drop_left]
    · rw [List.length_cons, show 32 * (hs.length + 1) = x.length + 32 * hs.length by omega, ← List.drop_drop, List.drop_left]
      exact ih.2
/-- An Item's text is read in its pieces, whatever stands behind it. -/
theorem in_more (I : It) (h : goodI I = true) (r : List UInt8) : inP (encL I ++ r) = { ptOf I with rest := r } := by
  rw [goodI_iff] at h
  cases h with
  | leaf p v hp hv =>
    have e : encL ⟨1, p, true, v, 0, []⟩ ++ r = 1 :: (packL p ++ (UInt8.ofNat v.length :: (v ++ r))) := by
      unfold encL Pt.text ptOf
      simp [pad16]
    rw [e]
    unfold inP
    rw [if_pos (by rfl)]
    unfold leafP
    have hd : (1 :: (packL p ++ (UInt8.ofNat v.length :: (v ++ r)))).drop 1 = packL p ++ (UInt8.ofNat v.length :: (v ++ r)) := rfl
    rw [hd, drop_pack p _ hp, List.take_left, List.drop_left]
    have h1 : (UInt8.ofNat v.length :: (v ++ r)).take 1 = [UInt8.ofNat v.length] := rfl
    have h2 : (UInt8.ofNat v.length :: (v ++ r)).drop 1 = v ++ r := rfl
    rw [h1, h2, size_num v hv, List.take_left, List.drop_left]
    rfl
  | ext p h hp h0 hh =>
    have e : encL ⟨2, p, false, [], 1, [h]⟩ ++ r = 2 :: (packL p ++ (h ++ r)) := by
      unfold encL Pt.text ptOf
      simp [pad16]
    rw [e]
    unfold inP
    have hk : numN ((2 :: (packL p ++ (h ++ r))).take 1) = 2 := rfl
    rw [hk, if_neg (by decide), if_pos (by rfl)]
    unfold extP
    have hd : (2 :: (packL p ++ (h ++ r))).drop 1 = packL p ++ (h ++ r) := rfl
    rw [hd, drop_pack p _ hp, List.take_left, List.drop_left, ← hh, List.take_left, List.drop_left]
    rfl
  | branch has v m hs hv hv2 hm h2 hl hh =>
    have hc := cutH_eq hs r hh
    rw [hl] at hc
    cases has with
    | true =>
      have e : encL ⟨3, [], true, v, (m : Int), hs⟩ ++ r = 3 :: UInt8.ofNat (m / 256) :: UInt8.ofNat m :: 1 :: UInt8.ofNat v.length :: (v ++ (hs.flatten ++ r)) := by
        unfold encL Pt.text ptOf
        simp [pad16_flat]
      rw [e]
      generalize hs.flatten ++ r = t at *
      unfold inP
      have hk : numN ((3 :: UInt8.ofNat (m / 256) :: UInt8.ofNat m :: 1 :: UInt8.ofNat v.length :: (v ++ t)).take 1) = 3 := rfl
      rw [hk, if_neg (by decide), if_neg (by decide), if_pos (by rfl)]
      unfold brP
      rw [if_pos (by rfl)]
      have h3 : ((((3 :: UInt8.ofNat (m / 256) :: UInt8.ofNat m :: 1 :: UInt8.ofNat v.length :: (v ++ t)).drop 1).drop 2).drop 1).take 1 = [UInt8.ofNat v.length] := rfl
      have h4 : (((((3 :: UInt8.ofNat (m / 256) :: UInt8.ofNat m :: 1 :: UInt8.ofNat v.length :: (v ++ t)).drop 1).drop 2).drop 1).drop 1) = v ++ t := rfl
      have h5 : ((3 :: UInt8.ofNat (m / 256) :: UInt8.ofNat m :: 1 :: UInt8.ofNat v.length :: (v ++ t)).drop 1).take 2 = [UInt8.ofNat (m / 256), UInt8.ofNat m] := rfl
      rw [h3, h4, h5, size_num v hv, List.take_left, List.drop_left]
      unfold brV
      simp only [mask_num m hm]
      rw [hc.1, hc.2]
      rfl
    | false =>
      obtain rfl := hv2 rfl
      have e : encL ⟨3, [], false, [], (m : Int), hs⟩ ++ r = 3 :: UInt8.ofNat (m / 256) :: UInt8.ofNat m :: 0 :: (hs.flatten ++ r) := by
        unfold encL Pt.text ptOf
        simp [pad16_flat]
      rw [e]
      generalize hs.flatten ++ r = t at *
      unfold inP
      have hk : numN ((3 :: UInt8.ofNat (m / 256) :: UInt8.ofNat m :: 0 :: t).take 1) = 3 := rfl
      rw [hk, if_neg (by decide), if_neg (by decide), if_pos (by rfl)]
      unfold brP
      have h1 : ((3 :: UInt8.ofNat (m / 256) :: UInt8.ofNat m :: 0 :: t).drop 1 |>.drop 2).take 1 = [0] := rfl
      rw [if_neg (by rw [h1]; decide)]
      have h5 : ((3 :: UInt8.ofNat (m / 256) :: UInt8.ofNat m :: 0 :: t).drop 1).take 2 = [UInt8.ofNat (m / 256), UInt8.ofNat m] := rfl
      have h4 : (((3 :: UInt8.ofNat (m / 256) :: UInt8.ofNat m :: 0 :: t).drop 1).drop 2).drop 1 = t := rfl
      rw [h4, h5]
      unfold brV
      simp only [mask_num m hm]
      rw [hc.1, hc.2]
      rfl
theorem in_enc (I : It) (h : goodI I = true) : inP (encL I) = ptOf I := by
  have := in_more I h []
  rw [List.append_nil] at this
  exact this

/-- What is decoded. -/
def decB (s : List UInt8) : Bool := goodI (itP (inP s)) && decide ((ptOf (itP (inP s))).kind = (inP s).kind ∧ (ptOf (itP (inP s))).path = (inP s).path ∧ (ptOf (itP (inP s))).mask = (inP s).mask ∧ (ptOf (itP (inP s))).has = (inP s).has ∧ (ptOf (itP (inP s))).size = (inP s).size ∧ (ptOf (itP (inP s))).value = (inP s).value ∧ (ptOf (itP (inP s))).hs = (inP s).hs ∧ (ptOf (itP (inP s))).rest = (inP s).rest)
theorem Pt.ext_iff {P Q : Pt} : (P.kind = Q.kind ∧ P.path = Q.path ∧ P.mask = Q.mask ∧ P.has = Q.has ∧ P.size = Q.size ∧ P.value = Q.value ∧ P.hs = Q.hs ∧ P.rest = Q.rest) ↔ P = Q := by
  obtain ⟨a, b, c, d, e, f, g, h⟩ := P
  obtain ⟨a', b', c', d', e', f', g', h'⟩ := Q
  simp
theorem decB_iff (s : List UInt8) : decB s = true ↔ goodI (itP (inP s)) = true ∧ ptOf (itP (inP s)) = inP s := by
  unfold decB
  rw [Bool.and_eq_true, decide_eq_true_eq, Pt.ext_iff]
theorem dec_yes {s : List UInt8} (h : decB s = true) : goodI (itP (inP s)) = true ∧ encL (itP (inP s)) = s := by
  obtain ⟨h1, h2⟩ := (decB_iff s).1 h
  refine ⟨h1, ?_⟩
  have h3 := in_text s
  rw [← h2] at h3
  have h4 : (ptOf (itP (inP s))).rest = [] := rfl
  rw [h4, List.append_nil] at h3
  exact h3
theorem dec_enc (I : It) (h : goodI I = true) : decB (encL I) = true ∧ itP (inP (encL I)) = I := by
  have e := in_enc I h
  have e2 := it_pt I h
  refine ⟨(decB_iff _).2 ?_, by rw [e, e2]⟩
  rw [e, e2]
  exact ⟨h, rfl⟩
theorem enc_inj {I J : It} (hI : goodI I = true) (hJ : goodI J = true) (h : encL I = encL J) : I = J := by
  rw [← (dec_enc I hI).2, h, (dec_enc J hJ).2]
/-- With a byte more it is none's. -/
theorem dec_more (I : It) (h : goodI I = true) : decB (encL I ++ [0]) = false := by
  rw [Bool.eq_false_iff]
  intro hd
  obtain ⟨h1, h2⟩ := (decB_iff _).1 hd
  rw [in_more I h [0]] at h2
  have h3 := congrArg Pt.rest h2
  cases h3

end Go.Proofs.YtjikdbmdaeonlaaDoor.No
namespace Go.Proofs.YtjikdbmdaeonlaaDoor.No
open Go.RowKit
set_option maxRecDepth 20000

set_option maxHeartbeats 400000 in
theorem refGood_any (s : ByteArray) (hs : s.size ≤ 4000) (w : World) :
    Calls Tryd.prog 78 #[.string s] w fun e w' => e = .returned (.bool (goodB (L s))) ∧ w' = w := by
  go_enter Tryd.func78, Tryd.ntmps78
  go_wp2_with fail
  go_loop [3] (fun i => ∃ k : Nat, k ≤ s.size ∧ i = .int .i64 k ∧ ∀ (j : Nat) c, j < k → (L s)[j]? = some c → c.toNat < 16) (fun i => s.size - (intOf i).toNat)
  case atStart => exact ⟨0, by omega, rfl, fun j c h => absurd h (by omega)⟩
  case round =>
    obtain ⟨k, hk, rfl, hall⟩ := hrel
    have HA : Hid (∀ (j : Nat) c, j < k → (L s)[j]? = some c → c.toNat < 16) := hall
    clear hall
    by_cases hlt : k < s.size
    · have hc : Hid ((L s)[k]? = some s[k]) := L_get s k hlt
      by_cases h16 : (s[k]).toNat < 16
      · have ht : decide ((15 : Int) < (s[k].toNat : Int)) = false := decide_eq_false (by omega)
        go_wp2_with fail
        go_round
        case rel => exact ⟨k + 1, by omega, by go_num, fun j c hj hjc => by
          by_cases e : j = k
          · subst e; rw [hc.out] at hjc; cases hjc; exact h16
          · exact HA.out j c (by omega) hjc⟩
        case measure => simp [intOf]; omega
      · have ht : decide ((15 : Int) < (s[k].toNat : Int)) = true := decide_eq_true (by omega)
        have HG : Hid (goodB (L s) = false) := by show _ = _; unfold goodB; rw [halvesB_bad hc.out h16, Bool.and_false]
        go_wp2_with fail
        go_ret
        exact ⟨ret_bool HG.out.symm, rfl⟩
    · obtain rfl : k = s.size := by omega
      have HG : Hid (decide ((s.size : Int) ≤ 16) = goodB (L s)) := by
        show _ = _
        unfold goodB
        rw [halvesB_good fun j c h => HA.out j c (by rw [← L_size s]; exact (List.getElem?_eq_some_iff.1 h).1) h, Bool.and_true, L_size, Bool.eq_iff_iff, decide_eq_true_eq, decide_eq_true_eq]
        omega
      go_wp2_with fail
      go_ret
      exact ⟨ret_bool HG.out, rfl⟩

end Go.Proofs.YtjikdbmdaeonlaaDoor.No
namespace Go.Proofs.YtjikdbmdaeonlaaDoor.No
open Go.RowKit
set_option maxRecDepth 20000

theorem joinL_last (l : List UInt8) (m : Nat) (a : UInt8) (ha : l[2 * m]? = some a) (hl : l.length = 2 * m + 1) : joinL (l.take (2 * (m + 1))) = joinL (l.take (2 * m)) ++ [two a 0] := by
  have : l.take (2 * (m + 1)) = l.take (2 * m) ++ [a] := by
    rw [List.take_of_length_le (by omega)]
    have := List.take_add_one (l := l) (i := 2 * m)
    rw [ha, List.take_of_length_le (by omega)] at this
    exact this
  rw [this, joinL_append _ _ (by rw [List.length_take]; omega)]
  rfl

set_option maxHeartbeats 400000 in
theorem refPack_no (s : ByteArray) (hs : s.size ≤ 4000) (h : goodB (L s) = false) (w : World) :
    Calls Tryd.prog 60 #[.string s] w fun e w' => e = .returned (.agg #[.string (bs []), .bool false]) ∧ Below w.heap.size w w' := by
  have HG : Hid (goodB (L s) = false) := h
  clear h
  go_enter Tryd.func60, Tryd.ntmps60
  go_wp2_with fail
  refine (refGood_any s hs _).mono ?_
  rintro e w1 ⟨rfl, rfl⟩
  rw [HG.out]
  go_wp2_with fail
  exact bodyPost_ret (v := .agg #[.string (bs []), .bool false]) (by simp [results, Tryd.results60, go_sem]; rfl) rfl ⟨rfl, (Below.refl _ _).alloc (Nat.le_refl _) _⟩

/-- The row that is laid together: the number, and the bytes so far. -/
def rowL (l : List UInt8) (m : Nat) : List Value := cellsL (UInt8.ofNat l.length :: joinL (l.take (2 * m)))
theorem rowL_length (l : List UInt8) : (UInt8.ofNat l.length :: joinL (l.take (2 * ((l.length + 1) / 2)))) = packL l := by
  unfold packL
  rw [List.take_of_length_le (by omega)]

set_option maxHeartbeats 1000000 in
theorem refPack_yes (s : ByteArray) (h : goodB (L s) = true) (w : World) :
    Calls Tryd.prog 60 #[.string s] w fun e w' => e = .returned (.agg #[.string (bs (packL (L s))), .bool true]) ∧ Below w.heap.size w w' := by
  obtain ⟨i0, hi0, hz0, hz1, hz2⟩ := info_parts info5
  have HG : Hid (goodB (L s) = true) := h
  obtain ⟨h16, hh⟩ := goodB_parts h
  rw [L_size] at h16
  have HH : Hid (halvesB (L s) = true) := hh
  have hw8 : IntKind.u8.wrap (s.size : Int) = (s.size : Int) := by rw [IntKind.wrap_u8]; omega
  clear h hh
  go_enter Tryd.func60, Tryd.ntmps60
  go_wp2_with fail
  refine (refGood_any s (by omega) _).mono ?_
  rintro e w1 ⟨rfl, rfl⟩
  rw [HG.out]
  go_wp2_with fail
  go_loopw [3, 4] (fun v i wr => ∃ k m : Nat, k = 2 * m ∧ m ≤ (s.size + 1) / 2 ∧ i = .int .i64 k ∧
      wr.ownsRow (w.heap.size + 1) 5 1 v (m + 1) (rowL (L s) m) ∧ Below (w.heap.size + 1) (w.alloc (.cells #[.string ⟨#[]⟩, .bool false] 100)) wr) (fun _ i _ => s.size + 1 - (intOf i).toNat)
  case atStart =>
    refine ⟨0, 0, rfl, by omega, rfl, ?_, (Below.refl _ _).alloc (by simp) _⟩
    have := World.ownsRow_lit (base := w.heap.size + 1) (e := 5) (size := 1) (w.alloc (.cells #[.string ⟨#[]⟩, .bool false] 100)) #[.int .u8 (s.size : Int)] 1 (by simp) (by decide) rfl
    have e : rowL (L s) 0 = [.int .u8 (s.size : Int)] := by
      show [Value.int .u8 ((UInt8.ofNat (L s).length).toNat : Int)] = _
      rw [L_size, byte_of _ (by omega)]
    rw [e]
    simpa using this
  case round =>
    obtain ⟨k, m, hkm, hm, rfl, hown, hb⟩ := hrel
    have HM : Hid (k = 2 * m) := hkm
    obtain ⟨c0, c1, f0, f1, hbw, hB⟩ := boxed hb
    by_cases hlt : k < s.size
    · have hc : Hid ((L s)[k]? = some s[k]) := L_get s k hlt
      have hx16 : s[k].toNat < 16 := halvesB_get HH.out hc.out
      by_cases hlt2 : k + 1 < s.size
      · have hd1 : decide ((k : Int) + 1 < (s.size : Int)) = true := decide_eq_true (by omega)
        obtain ⟨q, hq⟩ : ∃ q, k + 1 = q := ⟨_, rfl⟩
        have hq1 : (k : Int) + 1 = (q : Int) := by omega
        have hqs : q < s.size := by omega
        have hd2 : Hid ((L s)[q]? = some s[q]) := L_get s q hqs
        have hy16 : s[q].toNat < 16 := halvesB_get HH.out hd2.out
        obtain ⟨t, ht2⟩ : ∃ t, (two s[k] s[q]).toNat = t := ⟨_, rfl⟩
        have hmul : IntKind.u8.wrap ((s[k].toNat : Int) * 16) = (s[k].toNat : Int) * 16 := by rw [IntKind.wrap_u8]; omega
        have hadd : IntKind.u8.wrap ((s[k].toNat : Int) * 16 + (s[q].toNat : Int)) = (t : Int) := by rw [IntKind.wrap_u8, ← ht2, two_nat]; omega
        have hadd2 : (s[k].toNat : Int) * 16 + (s[q].toNat : Int) = (t : Int) := by rw [← ht2, two_nat]; omega
        have HS : Hid (rowL (L s) m ++ [.int .u8 (t : Int)] = rowL (L s) (m + 1)) := by
          show _ = _
          unfold rowL
          rw [joinL_step (L s) m s[k] s[q] (by rw [← hkm]; exact hc.out) (by rw [← hkm, hq]; exact hd2.out), ← List.cons_append, cellsL_append, ← ht2]
          rfl
        clear ht2 hkm hq
        go_wp2_with (at_builtin; refine wpList_append_lies _ rfl _ _ 60 rfl (w.heap.size + 1) 5 i0 (.int .u8 0) 1 1 Tryd.underlying60 hi0 hz0 hz1 hz2 rfl (by decide) _ _ _ rfl (hown.alloc _) ⟨wr.heap.size, 0, none⟩ 1 1 [.int .u8 (t : Int)] rfl rfl (World.news_of_block (cs := #[.int .u8 (t : Int)]) (t := 5) (fr := (0, 0)) (heap_alloc_new wr _)) (by simp [Value.oneCell']) (by decide) (by unfold maxLen; omega) (by omega) (by simp; omega) (wr.heap.size + 1) (by simp) ?_)
        intro gg cap w2 hown1 hgrow _ _
        rw [HS.out] at hown1
        go_wp2_with fail
        exact ⟨⟨k + 2, m + 1, by have := HM.out; omega, by have := HM.out; omega, by go_num, hown1, (hb.alloc hB _).grown hgrow (by simp; omega) fun j hj => (hown.lt j hj).1⟩, by simp [intOf]; omega⟩
      · have hd1 : decide ((k : Int) + 1 < (s.size : Int)) = false := decide_eq_false (by omega)
        obtain ⟨t, ht2⟩ : ∃ t, (two s[k] 0).toNat = t := ⟨_, rfl⟩
        have hmul : IntKind.u8.wrap ((s[k].toNat : Int) * 16) = (t : Int) := by rw [IntKind.wrap_u8, ← ht2, two_zero]; omega
        have hmul2 : (s[k].toNat : Int) * 16 = (t : Int) := by rw [← ht2, two_zero]; omega
        have HS : Hid (rowL (L s) m ++ [.int .u8 (t : Int)] = rowL (L s) (m + 1)) := by
          show _ = _
          unfold rowL
          rw [joinL_last (L s) m s[k] (by rw [← hkm]; exact hc.out) (by rw [L_size]; omega), ← List.cons_append, cellsL_append, ← ht2]
          rfl
        clear ht2 hkm
        go_wp2_with (at_builtin; refine wpList_append_lies _ rfl _ _ 60 rfl (w.heap.size + 1) 5 i0 (.int .u8 0) 1 1 Tryd.underlying60 hi0 hz0 hz1 hz2 rfl (by decide) _ _ _ rfl (hown.alloc _) ⟨wr.heap.size, 0, none⟩ 1 1 [.int .u8 (t : Int)] rfl rfl (World.news_of_block (cs := #[.int .u8 (t : Int)]) (t := 5) (fr := (0, 0)) (heap_alloc_new wr _)) (by simp [Value.oneCell']) (by decide) (by unfold maxLen; omega) (by omega) (by simp; omega) (wr.heap.size + 1) (by simp) ?_)
        intro gg cap w2 hown1 hgrow _ _
        rw [HS.out] at hown1
        go_wp2_with fail
        exact ⟨⟨k + 2, m + 1, by have := HM.out; omega, by have := HM.out; omega, by go_num, hown1, (hb.alloc hB _).grown hgrow (by simp; omega) fun j hj => (hown.lt j hj).1⟩, by simp [intOf]; omega⟩
    · have hme : m = ((L s).length + 1) / 2 := by rw [L_size]; omega
      have hown2 : wr.ownsRow (w.heap.size + 1) 5 1 u3 (m + 1) (cellsL (packL (L s))) := by rw [← rowL_length, ← hme]; exact hown
      have hcv := conv_own (by rw [pack_length, ← hme]; omega) hown2
      clear hown2 hme
      clear hown
      go_wp2_with fail
      exact bodyPost_ret (v := .agg #[.string (bs (packL (L s))), .bool true]) (by simp [results, Tryd.results60, go_sem, c0, c1]) rfl ⟨rfl, (hbw.setCell (by simp) _).setCell (by simp) _⟩

theorem refPack_any (s : ByteArray) (hs : s.size ≤ 4000) (w : World) :
    Calls Tryd.prog 60 #[.string s] w fun e w' => e = .returned (.agg #[.string (if goodB (L s) then bs (packL (L s)) else bs []), .bool (goodB (L s))]) ∧ Below w.heap.size w w' := by
  cases h : goodB (L s)
  · exact refPack_no s hs h w
  · exact refPack_yes s h w

end Go.Proofs.YtjikdbmdaeonlaaDoor.No
namespace Go.Proofs.YtjikdbmdaeonlaaDoor.No
open Go.RowKit
set_option maxRecDepth 20000

theorem _root_.Go.Proofs.YtjikdbmdaeonlaaDoor.Kept.setCell {W w' : World} (h : Kept W w') {a : Addr} (ha : W.heap.size ≤ a.block) (v : Value) : Kept W (w'.setCell a v) := Below.setCell h ha v
theorem _root_.Go.Proofs.YtjikdbmdaeonlaaDoor.Kept.frozen {w w' : World} (h : Kept w w') {b o : Nat} (hb : b < w.heap.size) : w'.frozen? ⟨b, o, none⟩ = w.frozen? ⟨b, o, none⟩ := Below.frozen (p := ⟨b, o, none⟩) h hb
theorem field_text (q : ByteArray) (b : Bool) (w : World) : (Instr.field 100 (.agg #[.string q, .bool b]) 0).run Tryd.prog w = .ok (.string q) w := by
  kernel_rfl

theorem head_good (c : UInt8) (r : List UInt8) (h : headB c r = true) : goodB (unN (c :: r)) = true := by
  unfold headB at h
  rw [Bool.and_eq_true, decide_eq_true_eq, decide_eq_true_eq] at h
  have hlen : (unN (c :: r)).length = c.toNat := by
    show ((ofL (r.take ((c.toNat + 1) / 2))).take c.toNat).length = _
    rw [List.length_take, ofL_length, List.length_take]; omega
  unfold goodB
  rw [hlen, decide_eq_true h.1, Bool.true_and]
  exact halvesB_take (halvesB_of _) _
/-- A text begins with the Pack of what it unpacks to just if it unpacks. -/
theorem pack_test (l : List UInt8) (hg : goodB (unN l) = true) : (packL (unN l) == l.take (unUsed l)) = unpackB l := by
  cases h : unpackB l
  · rw [beq_eq_false_iff_ne]
    intro e
    have := (unpack_pack (unN l) (l.drop (unUsed l)) hg).1
    rw [e, List.take_append_drop, h] at this
    cases this
  · rw [beq_iff_eq]; exact (pack_unpack l h).2.1

end Go.Proofs.YtjikdbmdaeonlaaDoor.No
