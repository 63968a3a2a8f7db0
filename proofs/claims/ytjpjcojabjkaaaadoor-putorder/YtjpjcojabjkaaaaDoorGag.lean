/-
  What holds of the nodes of pairs: each child stands behind its node, and is one's alone; what leads to each; the pairs are theirs; what they look like. Plain mathematics.
-/
import Derived.Test.YtjpjcojabjkaaaaDoorGaf
namespace Go.Proofs.YtjpjcojabjkaaaaDoor
set_option maxRecDepth 20000

def nz (ks : List Int) : List Int := ks.filter fun k => k != 0
def linksOf (t : List NP) : List Int := t.flatMap fun m => nz m.1.kids
def valOf (m : NP) : Option Pr := if m.1.has then some (m.2 ++ m.1.path, m.1.val) else none
def nums (b n : Nat) : List Int := (List.range' b n).map fun k : Nat => (k : Int)
def childP (kind : Int) (e : Bt) (c : Nat) : Bt := if kind = 3 then e ++ [UInt8.ofNat c] else e
def Kid (b : Nat) (t : List NP) : Prop := ∀ i m, t[i]? = some m → ∀ c k, m.1.kids[c]? = some k → k ≠ 0 →
  ∃ j m', k = ((b + j : Nat) : Int) ∧ i < j ∧ t[j]? = some m' ∧ m'.2 = childP m.1.kind (m.2 ++ m.1.path) c ∧ (m.1.kind = 2 → c = 0 ∧ m'.1.kind = 3)
def Shape (m : Nd) : Prop := (m.kind = 1 ∧ m.has = true ∧ m.kids = no16) ∨ (m.kind = 2 ∧ m.has = false ∧ m.val = [] ∧ m.path ≠ [] ∧ ∃ k, k ≠ 0 ∧ m.kids = no16.set 0 k) ∨
  (m.kind = 3 ∧ m.path = [] ∧ m.kids.length = 16 ∧ 2 ≤ (nz m.kids).length + (if m.has then 1 else 0) ∧ (m.has = false → m.val = []))
structure Blk (l : List Pr) (n b : Nat) (t : List NP) : Prop where
  head : ∃ m r, t = m :: r ∧ m.2 = (headK l).take n
  pre : ∀ m ∈ t, (headK l).take n <+: m.2
  kid : Kid b t
  links : (linksOf t).Perm (nums (b + 1) (t.length - 1))
  vals : t.filterMap valOf = l
  shape : ∀ m ∈ t, Shape m.1
  rise : t.Pairwise (fun a c => ltL a.2 c.2)
  few : t.length + 2 ≤ 3 * l.length
  key : ∀ m ∈ t, ∃ p ∈ l, (m.2 ++ m.1.path) <+: p.1
theorem Blk.ne {l : List Pr} {n b : Nat} {t : List NP} (h : Blk l n b t) : 0 < t.length := by obtain ⟨m, r, e, _⟩ := h.head; rw [e]; simp

theorem nums_append (b n m : Nat) : nums b (n + m) = nums b n ++ nums (b + n) m := by
  unfold nums; rw [← List.map_append, List.range'_append_1]
theorem nums_one (b : Nat) : nums b 1 = [(b : Int)] := rfl
theorem nums_cons (b n : Nat) : nums b (n + 1) = (b : Int) :: nums (b + 1) n := by unfold nums; rw [List.range'_succ]; rfl
theorem linksOf_append (s t : List NP) : linksOf (s ++ t) = linksOf s ++ linksOf t := by unfold linksOf; rw [List.flatMap_append]
theorem Kid.append {b : Nat} {s t : List NP} (h : Kid b s) (k : Kid (b + s.length) t) : Kid b (s ++ t) := by
  intro i m hm c x hc hx
  rcases Nat.lt_or_ge i s.length with hi | hi
  · rw [List.getElem?_append_left hi] at hm
    obtain ⟨j, m', h1, h2, h3, h4⟩ := h i m hm c x hc hx
    exact ⟨j, m', h1, h2, by rw [List.getElem?_append_left (List.getElem?_eq_some_iff.1 h3).1]; exact h3, h4⟩
  · rw [List.getElem?_append_right hi] at hm
    obtain ⟨j, m', h1, h2, h3, h4⟩ := k _ m hm c x hc hx
    exact ⟨s.length + j, m', by rw [h1]; congr 1; omega, by omega, by rw [List.getElem?_append_right (by omega)]; rw [show s.length + j - s.length = j by omega]; exact h3, h4⟩
theorem nz_set {ks : List Int} {h : Nat} {x : Int} (hl : h < ks.length) (h0 : ∀ c, h ≤ c → c < ks.length → ks[c]? = some 0) (hx : x ≠ 0) : nz (ks.set h x) = nz ks ++ [x] := by
  have e1 : ks.set h x = ks.take h ++ x :: ks.drop (h + 1) := List.set_eq_take_append_cons_drop.trans (if_pos hl)
  have e2 : ks = ks.take h ++ ks[h] :: ks.drop (h + 1) := by rw [← List.drop_eq_getElem_cons hl, List.take_append_drop]
  have hz : nz (ks.drop (h + 1)) = [] := List.filter_eq_nil_iff.2 fun k hk => by
    obtain ⟨i, hi, rfl⟩ := List.mem_iff_getElem.1 hk
    have := h0 (h + 1 + i) (by omega) (by rw [List.length_drop] at hi; omega)
    rw [List.getElem_drop, (List.getElem?_eq_some_iff.1 this).2]; simp
  have hh : ks[h] = 0 := (List.getElem?_eq_some_iff.1 (h0 h (Nat.le_refl _) hl)).2
  have e3 : nz ks = nz (ks.take h) := by
    conv => lhs; rw [e2]
    unfold nz at hz ⊢
    rw [List.filter_append, hh, List.filter_cons_of_neg (by simp), hz, List.append_nil]
  rw [e1, e3]
  unfold nz at hz ⊢
  rw [List.filter_append, List.filter_cons_of_pos (by simpa using hx), hz]

structure Kds (P : Bt) (r : List Pr) (n b h : Nat) (s : List Int × List NP) : Prop where
  len : s.1.length = 16
  zero : ∀ c, h ≤ c → c < 16 → s.1[c]? = some 0
  tok : ∀ (c : Nat) k, s.1[c]? = some k → k ≠ 0 → ∃ j m, k = ((b + j : Nat) : Int) ∧ s.2[j]? = some m ∧ m.2 = P ++ [UInt8.ofNat c]
  kid : Kid b s.2
  links : (nz s.1 ++ linksOf s.2).Perm (nums b s.2.length)
  vals : s.2.filterMap valOf = r.filter (fun p => nib p n < h)
  shape : ∀ m ∈ s.2, Shape m.1
  pre : ∀ m ∈ s.2, ∃ c, c < h ∧ (P ++ [UInt8.ofNat c]) <+: m.2
  rise : s.2.Pairwise (fun a c => ltL a.2 c.2)
  few : s.2.length + 2 * (nz s.1).length ≤ 3 * (r.filter (fun p => nib p n < h)).length
  full : ∀ c, c < h → grp r n c ≠ [] → ∃ k, s.1[c]? = some k ∧ k ≠ 0
  key : ∀ m ∈ s.2, ∃ p ∈ r, (m.2 ++ m.1.path) <+: p.1

theorem perm_mix {α : Type} (A B L N : List α) (x : α) (h : (A ++ B).Perm N) : ((A ++ [x]) ++ (B ++ L)).Perm (N ++ (x :: L)) := by
  have h1 : ((A ++ [x]) ++ (B ++ L)).Perm ((A ++ B) ++ ([x] ++ L)) := by
    rw [List.append_assoc, List.append_assoc]
    refine List.Perm.append_left A ?_
    rw [← List.append_assoc, ← List.append_assoc]
    exact List.Perm.append_right L List.perm_append_comm
  exact h1.trans (List.Perm.append_right _ h)
theorem ltL_of_parts {P a b : Bt} {c d : Nat} (hc : c < d) (hd : d < 16) (h1 : (P ++ [UInt8.ofNat c]) <+: a) (h2 : (P ++ [UInt8.ofNat d]) <+: b) : ltL a b := by
  obtain ⟨x, rfl⟩ := h1
  obtain ⟨y, rfl⟩ := h2
  rw [List.append_assoc, List.append_assoc]
  exact ltL_part (by rw [byte16 (by omega), byte16 hd]; exact hc)

theorem kidsW_ok (G : List Pr → Nat → List NP) {l : List Pr} {n : Nat} (F : Fork l n) (b : Nat) (hb : 0 < b)
    (hG : ∀ c, c < 16 → grp (restL l n) n c ≠ [] → ∀ b', Blk (grp (restL l n) n c) (n + 1) b' (G (grp (restL l n) n c) b')) :
    ∀ h, h ≤ 16 → Kds ((headK l).take n) (restL l n) n b h (kidsW G (fun c => grp (restL l n) n c) b h)
  | 0, _ => by
    have e : (restL l n).filter (fun p => decide (nib p n < 0)) = [] := List.filter_eq_nil_iff.2 fun q _ => by simp
    refine ⟨rfl, fun c _ hc => ?_, fun c k hk hk0 => ?_, fun i m hm => by simp [kidsW] at hm, ?_, by rw [e]; rfl, fun m hm => by simp [kidsW] at hm, fun m hm => by simp [kidsW] at hm, List.Pairwise.nil, by rw [e]; exact Nat.le_refl _, fun c hc => absurd hc (by omega), fun m hm => by simp [kidsW] at hm⟩
    · show no16[c]? = some 0
      unfold no16; rw [List.getElem?_replicate, if_pos hc]
    · refine absurd ?_ hk0
      have hk : no16[c]? = some k := hk
      unfold no16 at hk; rw [List.getElem?_replicate] at hk
      split at hk
      · exact (Option.some.inj hk).symm
      · cases hk
    · show (nz no16 ++ []).Perm []
      decide
  | h + 1, hh => by
    have K := kidsW_ok G F b hb hG h (by omega)
    have hf := filter_step n h (restL l n) F.order
    show Kds _ _ _ _ _ (if grp (restL l n) n h = [] then _ else _)
    split
    · next he =>
      rw [he, List.append_nil] at hf
      exact ⟨K.len, fun c h1 h2 => K.zero c (by omega) h2, K.tok, K.kid, K.links, by rw [hf]; exact K.vals, K.shape, fun m hm => by
        obtain ⟨c, h1, h2⟩ := K.pre m hm
        exact ⟨c, by omega, h2⟩, K.rise, by rw [hf]; exact K.few, fun c hc hne => by
        rcases Nat.lt_or_ge c h with h1 | h1
        · exact K.full c h1 hne
        · obtain rfl : c = h := by omega
          exact absurd he hne, K.key⟩
    · next he =>
      have HB := hG h (by omega) he (b + (kidsW G (fun c => grp (restL l n) n c) b h).2.length)
      have hhd := F.grouphead he
      generalize kidsW G (fun c => grp (restL l n) n c) b h = s at K HB
      obtain ⟨ks, ns⟩ := s
      generalize G (grp (restL l n) n h) (b + (ks, ns).2.length) = t at HB
      simp only at HB K ⊢
      have hpos := HB.ne
      have hlen : h < ks.length := by rw [K.len]; omega
      have hx : ((b + ns.length : Nat) : Int) ≠ 0 := by omega
      have hnz : nz (ks.set h ((b + ns.length : Nat) : Int)) = nz ks ++ [((b + ns.length : Nat) : Int)] := nz_set hlen (fun c h1 h2 => K.zero c h1 (by have := K.len; simp only at this; omega)) hx
      refine ⟨?_, ?_, ?_, K.kid.append HB.kid, ?_, ?_, ?_, ?_, ?_, ?_, ?_, ?_⟩
      · show (ks.set h _).length = 16
        rw [List.length_set]; exact K.len
      · intro c h1 h2
        show (ks.set h _)[c]? = _
        rw [List.getElem?_set_ne (by omega)]
        exact K.zero c (by omega) h2
      · intro c k hk hk0
        have hk : (ks.set h ((b + ns.length : Nat) : Int))[c]? = some k := hk
        by_cases e : h = c
        · subst e
          rw [List.getElem?_set_self hlen] at hk
          obtain ⟨m, r, e1, e2⟩ := HB.head
          refine ⟨ns.length, m, (Option.some.inj hk).symm, ?_, ?_⟩
          · show (ns ++ t)[ns.length]? = _
            rw [List.getElem?_append_right (Nat.le_refl _), Nat.sub_self, e1]; rfl
          · rw [e2, hhd]
        · rw [List.getElem?_set_ne e] at hk
          obtain ⟨j, m, h1, h2, h3⟩ := K.tok c k hk hk0
          refine ⟨j, m, h1, ?_, h3⟩
          show (ns ++ t)[j]? = _
          rw [List.getElem?_append_left (List.getElem?_eq_some_iff.1 h2).1]; exact h2
      · show (nz (ks.set h _) ++ linksOf (ns ++ t)).Perm (nums b (ns ++ t).length)
        rw [hnz, linksOf_append, List.length_append, nums_append]
        have e1 : nums (b + ns.length) t.length = ((b + ns.length : Nat) : Int) :: nums (b + ns.length + 1) (t.length - 1) := by
          rw [← nums_cons]; congr 1; omega
        rw [e1]
        refine (perm_mix _ _ _ _ _ K.links).trans ?_
        exact List.Perm.append_left _ (HB.links.cons _)
      · show (ns ++ t).filterMap valOf = _
        rw [List.filterMap_append, K.vals, HB.vals, hf]
      · intro m hm
        rcases List.mem_append.1 hm with h1 | h1
        · exact K.shape m h1
        · exact HB.shape m h1
      · intro m hm
        rcases List.mem_append.1 hm with h1 | h1
        · obtain ⟨c, h2, h3⟩ := K.pre m h1
          exact ⟨c, by omega, h3⟩
        · exact ⟨h, by omega, by rw [← hhd]; exact HB.pre m h1⟩
      · show (ns ++ t).Pairwise _
        rw [List.pairwise_append]
        refine ⟨K.rise, HB.rise, fun x hx y hy => ?_⟩
        obtain ⟨c, h2, h3⟩ := K.pre x hx
        exact ltL_of_parts h2 (by omega) h3 (by rw [← hhd]; exact HB.pre y hy)
      · show (ns ++ t).length + 2 * (nz (ks.set h _)).length ≤ _
        have h1 := K.few
        have h2 := HB.few
        simp only at h1
        rw [hnz, hf, List.length_append, List.length_append, List.length_append, List.length_singleton]
        omega
      · intro c hc hne
        show ∃ k, (ks.set h _)[c]? = some k ∧ _
        by_cases e : h = c
        · subst e
          exact ⟨_, List.getElem?_set_self hlen, hx⟩
        · rw [List.getElem?_set_ne e]
          exact K.full c (by omega) hne
      · intro m hm
        rcases List.mem_append.1 hm with h1 | h1
        · exact K.key m h1
        · obtain ⟨p, hp, h2⟩ := HB.key m h1
          exact ⟨p, (grp_mem.1 hp).1, h2⟩

theorem nz_one {ks : List Int} {c : Nat} {k : Int} (h : ks[c]? = some k) (hk : k ≠ 0) : 1 ≤ (nz ks).length :=
  List.length_pos_of_mem (List.mem_filter.2 ⟨List.mem_of_getElem? h, by simpa using hk⟩)
theorem nz_two {ks : List Int} {c d : Nat} {k x : Int} (hcd : c < d) (h : ks[c]? = some k) (hk : k ≠ 0) (h' : ks[d]? = some x) (hx : x ≠ 0) : 2 ≤ (nz ks).length := by
  have e : nz ks = nz (ks.take d) ++ nz (ks.drop d) := by unfold nz; rw [← List.filter_append, List.take_append_drop]
  have h1 : 1 ≤ (nz (ks.take d)).length := nz_one (c := c) (by rw [List.getElem?_take, if_pos hcd]; exact h) hk
  have h2 : 1 ≤ (nz (ks.drop d)).length := nz_one (c := 0) (by rw [List.getElem?_drop]; exact h') hx
  rw [e, List.length_append]; omega
theorem headP_eq (l : List Pr) (n : Nat) : headP l n = (headK l).take n := by cases l <;> simp [headP, headK]
theorem fork_blk (G : List Pr → Nat → List NP) {l : List Pr} {n : Nat} (F : Fork l n) (b : Nat)
    (hG : ∀ c, c < 16 → grp (restL l n) n c ≠ [] → ∀ b', Blk (grp (restL l n) n c) (n + 1) b' (G (grp (restL l n) n c) b')) :
    Blk l n b (forkW G l n b) ∧ (forkW G l n b).length + 3 ≤ 3 * l.length ∧ ∃ m r, forkW G l n b = m :: r ∧ m.1.kind = 3 := by
  have K := kidsW_ok G F (b + 1) (by omega) hG 16 (Nat.le_refl _)
  rw [show forkW G l n b = (brN (endsB l n) (headV l n) (kidsW G (fun h => grp (restL l n) n h) (b + 1) 16).1, headP l n) :: (kidsW G (fun h => grp (restL l n) n h) (b + 1) 16).2 from rfl, headP_eq]
  generalize kidsW G (fun c => grp (restL l n) n c) (b + 1) 16 = s at K ⊢
  obtain ⟨ks, ns⟩ := s
  simp only at K ⊢
  have hall := F.all16
  have hvals := K.vals
  have hfew := K.few
  rw [hall] at hvals hfew
  simp only at hvals hfew
  have hways : 2 ≤ (nz ks).length + (if endsB l n then 1 else 0) ∧ (restL l n).length + (if endsB l n then 1 else 0) = l.length := by
    rcases F.ways with ⟨h1, c, h2, h3⟩ | ⟨h1, c, d, h2, h3, h4, h5⟩
    · obtain ⟨k, hk, hk0⟩ := K.full c h2 h3
      have := nz_one hk hk0
      rw [h1]
      refine ⟨by simpa using this, ?_⟩
      unfold restL
      rw [h1]
      simp only [if_true, List.length_tail]
      have := F.two
      omega
    · obtain ⟨k, hk, hk0⟩ := K.full c (by omega) h4
      obtain ⟨x, hx, hx0⟩ := K.full d h3 h5
      have := nz_two h2 hk hk0 hx hx0
      rw [h1]
      refine ⟨by simpa using this, ?_⟩
      unfold restL
      rw [h1]; rfl
  have hlen : ns.length + 4 ≤ 3 * l.length := by
    obtain ⟨h1, h2⟩ := hways
    split at h1 <;> simp_all <;> omega
  refine ⟨⟨⟨_, _, rfl, rfl⟩, ?_, ?_, ?_, ?_, ?_, ?_, by simp only [List.length_cons]; omega, ?_⟩, by simp only [List.length_cons]; omega, _, _, rfl, rfl⟩
  · intro m hm
    rcases List.mem_cons.1 hm with rfl | h1
    · exact List.prefix_refl _
    · obtain ⟨c, _, h2⟩ := K.pre m h1
      exact (List.prefix_append _ _).trans h2
  · intro i m hm c k hk hk0
    cases i with
    | zero =>
      obtain rfl : _ = m := Option.some.inj hm
      obtain ⟨j, m', h1, h2, h3⟩ := K.tok c k hk hk0
      refine ⟨j + 1, m', by rw [h1]; congr 1; omega, by omega, h2, ?_, fun h => absurd (show (3 : Int) = 2 from h) (by decide)⟩
      rw [h3]
      show _ = childP 3 ((headK l).take n ++ []) c
      rw [List.append_nil]; rfl
    | succ i =>
      rw [List.getElem?_cons_succ] at hm
      obtain ⟨j, m', h1, h2, h3, h4⟩ := K.kid i m hm c k hk hk0
      exact ⟨j + 1, m', by rw [h1]; congr 1; omega, by omega, by rw [List.getElem?_cons_succ]; exact h3, h4⟩
  · show (nz ks ++ linksOf ns).Perm (nums (b + 1) ns.length)
    exact K.links
  · rw [List.filterMap_cons]
    cases hb : endsB l n
    · show ns.filterMap valOf = l
      rw [hvals]; unfold restL; rw [hb]; rfl
    · show ((headK l).take n ++ [], headV l n) :: ns.filterMap valOf = l
      rw [hvals]
      obtain ⟨q, hq, e, e2, r, hl⟩ := headK_mem F.ne
      have hr : restL l n = r := by unfold restL; rw [hb, hl]; rfl
      have hv : headV l n = q.2 := by unfold headV; rw [hb, hl]; rfl
      have h0 := (ends_iff F.ne).1 hb
      rw [hr, hv]
      show ((headK l).take n ++ [], q.2) :: r = l
      rw [List.append_nil, List.take_of_length_le (by omega), ← e, hl]
  · intro m hm
    rcases List.mem_cons.1 hm with rfl | h1
    · exact .inr (.inr ⟨rfl, rfl, K.len, hways.1, fun h => by
        have h : endsB l n = false := h
        show headV l n = []
        unfold headV; rw [h]; rfl⟩)
    · exact K.shape m h1
  · rw [List.pairwise_cons]
    refine ⟨fun m hm => ?_, K.rise⟩
    obtain ⟨c, _, x, h2⟩ := K.pre m hm
    show ltL ((headK l).take n) m.2
    rw [← h2, List.append_assoc]
    exact ltL_prefix _ (by simp)
  · intro m hm
    rcases List.mem_cons.1 hm with rfl | h1
    · obtain ⟨q, hq, e, _⟩ := headK_mem F.ne
      refine ⟨q, hq, ?_⟩
      show ((headK l).take n ++ []) <+: q.1
      rw [List.append_nil, e]; exact List.take_prefix _ _
    · obtain ⟨p, hp, h2⟩ := K.key m h1
      exact ⟨p, (rest_sub l n).subset hp, h2⟩

theorem grow_blk : ∀ (f : Nat) (l : List Pr) (n b : Nat), 17 ≤ n + f → Fit l n → l ≠ [] → Blk l n b (grow f l n b)
  | 0, l, n, b, h, hl, hne => by
    obtain ⟨p, hp, _⟩ := headK_mem hne
    have := hl.len p hp
    omega
  | f + 1, l, n, b, h, hl, hne => by
    unfold grow
    rw [if_neg (by rw [List.length_eq_zero_iff]; exact hne)]
    split
    · next h1 =>
      obtain ⟨p, rfl⟩ := List.length_eq_one_iff.1 h1
      have e : p.1.take n ++ p.1.drop n = p.1 := List.take_append_drop _ _
      refine ⟨⟨_, _, rfl, rfl⟩, fun m hm => ?_, ?_, ?_, ?_, ?_, List.pairwise_singleton _ _, by simp, fun m hm => ⟨p, by simp, ?_⟩⟩
      · obtain rfl := List.mem_singleton.1 hm
        exact List.prefix_refl _
      · intro i m hm c k hk hk0
        cases i with
        | zero =>
          obtain rfl : _ = m := Option.some.inj hm
          refine absurd ?_ hk0
          have hk : no16[c]? = some k := hk
          unfold no16 at hk; rw [List.getElem?_replicate] at hk
          split at hk
          · exact (Option.some.inj hk).symm
          · cases hk
        | succ i => simp at hm
      · show (nz no16 ++ []).Perm []
        decide
      · show [((p.1.take n ++ p.1.drop n, p.2) : Pr)] = [p]
        rw [e]
      · intro m hm
        obtain rfl := List.mem_singleton.1 hm
        exact .inl ⟨rfl, rfl, rfl⟩
      · obtain rfl := List.mem_singleton.1 hm
        show (p.1.take n ++ p.1.drop n) <+: p.1
        rw [e]; exact List.prefix_refl _
    · next h1 =>
      have h0 : l.length ≠ 0 := fun e => hne (List.length_eq_zero_iff.1 e)
      have F := hl.fork (by omega)
      split
      · next hc =>
        rw [hc, Nat.add_zero] at F
        exact (fork_blk _ F b fun c _ hg b' => grow_blk f _ (n + 1) b' (by omega) (F.group c) hg).1
      · next hc =>
        have hcl := (hl.com hne).2
        obtain ⟨HB, H3, m0, r0, hm0, hk3⟩ := fork_blk (fun g => grow f g (n + comG l n + 1)) F (b + 1) fun c _ hg b' => grow_blk f _ (n + comG l n + 1) b' (by omega) (F.group c) hg
        obtain ⟨m1, r1, hm1, hp1⟩ := HB.head
        generalize forkW (fun g => grow f g (n + comG l n + 1)) l (n + comG l n) (b + 1) = t at HB H3 hm0 hm1 ⊢
        have hpath : ((headK l).take n) ++ ((headK l).drop n).take (comG l n) = (headK l).take (n + comG l n) := by rw [List.take_add]
        have hpne : ((headK l).drop n).take (comG l n) ≠ [] := by
          intro e
          have : (((headK l).drop n).take (comG l n)).length = 0 := by rw [e]; rfl
          rw [List.length_take, List.length_drop] at this
          omega
        have hpos := HB.ne
        refine ⟨⟨_, _, rfl, rfl⟩, ?_, ?_, ?_, ?_, ?_, ?_, by simp only [List.length_cons]; omega, ?_⟩
        · intro m hm
          rcases List.mem_cons.1 hm with rfl | h2
          · exact List.prefix_refl _
          · have := HB.pre m h2
            rw [← hpath] at this
            exact (List.prefix_append _ _).trans this
        · intro i m hm c k hk hk0
          cases i with
          | zero =>
            obtain rfl : _ = m := Option.some.inj hm
            have hk : (no16.set 0 ((b + 1 : Nat) : Int))[c]? = some k := hk
            have hc0 : c = 0 := by
              refine Decidable.byContradiction fun hn => hk0 ?_
              rw [List.getElem?_set_ne (by omega)] at hk
              unfold no16 at hk; rw [List.getElem?_replicate] at hk
              split at hk
              · exact (Option.some.inj hk).symm
              · cases hk
            subst hc0
            rw [List.getElem?_set_self (by decide)] at hk
            obtain rfl := Option.some.inj hk
            refine ⟨1, m0, by omega, by omega, by rw [hm0]; rfl, ?_, fun _ => ⟨rfl, hk3⟩⟩
            have hmm : m1 = m0 := by rw [hm1] at hm0; exact (List.cons.inj hm0).1
            rw [← hmm, hp1, ← hpath]; rfl
          | succ i =>
            rw [List.getElem?_cons_succ] at hm
            obtain ⟨j, m', h1, h2, h3, h4⟩ := HB.kid i m hm c k hk hk0
            exact ⟨j + 1, m', by rw [h1]; congr 1; omega, by omega, by rw [List.getElem?_cons_succ]; exact h3, h4⟩
        · show (nz (no16.set 0 ((b + 1 : Nat) : Int)) ++ linksOf t).Perm (nums (b + 1) t.length)
          have e1 : nz (no16.set 0 ((b + 1 : Nat) : Int)) = [((b + 1 : Nat) : Int)] := by
            show List.filter (fun k : Int => k != 0) (((b + 1 : Nat) : Int) :: List.replicate 15 0) = _
            rw [List.filter_cons_of_pos (by rw [bne_iff_ne]; omega)]
            rfl
          have e2 : nums (b + 1) t.length = ((b + 1 : Nat) : Int) :: nums (b + 1 + 1) (t.length - 1) := by rw [← nums_cons]; congr 1; omega
          rw [e1, e2]
          exact HB.links.cons _
        · show t.filterMap valOf = l
          exact HB.vals
        · intro m hm
          rcases List.mem_cons.1 hm with rfl | h2
          · exact .inr (.inl ⟨rfl, rfl, rfl, hpne, _, by omega, rfl⟩)
          · exact HB.shape m h2
        · rw [List.pairwise_cons]
          refine ⟨fun m hm => ?_, HB.rise⟩
          obtain ⟨x, hx⟩ := HB.pre m hm
          show ltL ((headK l).take n) m.2
          rw [← hx, ← hpath, List.append_assoc]
          exact ltL_prefix _ (by simp [hpne])
        · intro m hm
          rcases List.mem_cons.1 hm with rfl | h2
          · obtain ⟨q, hq, e, _⟩ := headK_mem hne
            refine ⟨q, hq, ?_⟩
            show ((headK l).take n ++ ((headK l).drop n).take (comG l n)) <+: q.1
            rw [hpath, e]; exact List.take_prefix _ _
          · exact HB.key m h2

end Go.Proofs.YtjpjcojabjkaaaaDoor
