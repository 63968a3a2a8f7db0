/-
  Pairs that may be, looked at from a place on: what they have in common, where they part, their groups. Plain mathematics.
-/
import Derived.Test.YtelaiblhnhbgiaaDoorTrPlain
namespace Go.Proofs.YtelaiblhnhbgiaaDoor
set_option maxRecDepth 20000

structure Fit (l : List Pr) (n : Nat) : Prop where
  len : ∀ p ∈ l, n ≤ p.1.length ∧ p.1.length ≤ 16
  half : ∀ p ∈ l, ∀ c ∈ p.1, c.toNat < 16
  rise : l.Pairwise (fun p q => ltL p.1 q.1)
  same : ∀ p ∈ l, ∀ q ∈ l, p.1.take n = q.1.take n
theorem Fit.sub {l m : List Pr} {n : Nat} (h : Fit l n) (k : m.Sublist l) : Fit m n :=
  ⟨fun p hp => h.len p (k.subset hp), fun p hp => h.half p (k.subset hp), h.rise.sublist k, fun p hp q hq => h.same p (k.subset hp) q (k.subset hq)⟩
theorem headK_mem {l : List Pr} (h : l ≠ []) : ∃ p ∈ l, p.1 = headK l ∧ p.2 = headVal l ∧ ∃ r, l = p :: r := by
  cases l with
  | nil => exact absurd rfl h
  | cons p r => exact ⟨p, by simp, rfl, rfl, r, rfl⟩
theorem lastL_mem {l : List Pr} (h : l ≠ []) : ∃ p ∈ l, p.1 = lastL l ∧ l.getLast? = some p := by
  refine ⟨l.getLast h, List.getLast_mem h, ?_, List.getLast?_eq_some_getLast h⟩
  unfold lastL
  rw [List.getLast?_eq_some_getLast h]
theorem Fit.headP {l : List Pr} {n : Nat} (h : Fit l n) {p : Pr} (hp : p ∈ l) : p.1.take n = (headK l).take n := by
  obtain ⟨q, hq, e, _⟩ := headK_mem (List.ne_nil_of_mem hp)
  rw [← e]; exact h.same p hp q hq
/-- All lie between the first and the last. -/
theorem Fit.between {l : List Pr} {n : Nat} (h : Fit l n) {p : Pr} (hp : p ∈ l) : (headK l = p.1 ∨ ltL (headK l) p.1) ∧ (p.1 = lastL l ∨ ltL p.1 (lastL l)) := by
  have hne : l ≠ [] := List.ne_nil_of_mem hp
  have hr := h.rise
  constructor
  · obtain ⟨q, _, e, _, r, hl⟩ := headK_mem hne
    rw [← e]
    subst hl
    rcases List.mem_cons.1 hp with rfl | h1
    · exact .inl rfl
    · exact .inr ((List.pairwise_cons.1 hr).1 p h1)
  · obtain ⟨q, _, e, hq⟩ := lastL_mem hne
    rw [← e]
    obtain ⟨r, hl⟩ := List.getLast?_eq_some_iff.1 hq
    subst hl
    rw [List.pairwise_append] at hr
    rcases List.mem_append.1 hp with h1 | h1
    · exact .inr (hr.2.2 p h1 q (by simp))
    · obtain rfl : p = q := by simpa using h1
      exact .inl rfl
theorem take_prefix_of {a b : Bt} {n : Nat} (h : a.take n = b.take n) : a.take n <+: b := by rw [h]; exact List.take_prefix _ _
theorem prefix_take {a b : Bt} (h : a <+: b) {n : Nat} (hn : a.length = n) : b.take n = a := by
  subst hn; exact (List.prefix_iff_eq_take.1 h).symm
theorem drop_take_more {a b : Bt} {n c : Nat} (h : a.take n = b.take n) (k : (a.drop n).take c = (b.drop n).take c) : a.take (n + c) = b.take (n + c) := by
  rw [List.take_add, List.take_add, h, k]
/-- What the first and the last have in common all have. -/
theorem Fit.com {l : List Pr} {n : Nat} (h : Fit l n) (hne : l ≠ []) : Fit l (n + comG l n) ∧ n + comG l n ≤ (headK l).length := by
  obtain ⟨p0, hp0, e0, _⟩ := headK_mem hne
  obtain ⟨p1, hp1, e1, _⟩ := lastL_mem hne
  have hle := comN_le ((headK l).drop n) ((lastL l).drop n)
  rw [List.length_drop, List.length_drop] at hle
  have hl0 := h.len p0 hp0
  have hl1 := h.len p1 hp1
  rw [e0] at hl0
  rw [e1] at hl1
  have hsame : (headK l).take (n + comG l n) = (lastL l).take (n + comG l n) :=
    drop_take_more (by rw [← e0, ← e1]; exact h.same _ hp0 _ hp1) (comN_take _ _)
  have hle' : comG l n ≤ (headK l).length - n := hle.1
  have hlen : ((headK l).take (n + comG l n)).length = n + comG l n := by rw [List.length_take]; omega
  have key : ∀ p ∈ l, (headK l).take (n + comG l n) <+: p.1 := by
    intro p hp
    obtain ⟨h1, h2⟩ := h.between hp
    rcases h1 with h1 | h1
    · rw [← h1]; exact List.take_prefix _ _
    · rcases h2 with h2 | h2
      · rw [h2, hsame]; exact List.take_prefix _ _
      · exact ltL_between _ h1 h2 (List.take_prefix _ _) (take_prefix_of hsame)
  refine ⟨⟨fun p hp => ⟨?_, (h.len p hp).2⟩, h.half, h.rise, fun p hp q hq => ?_⟩, by omega⟩
  · have := (key p hp).length_le; omega
  · rw [prefix_take (key p hp) hlen, prefix_take (key q hq) hlen]

/-- Pairs that part at a place. -/
structure Fork (l : List Pr) (n : Nat) : Prop where
  fit : Fit l n
  two : 2 ≤ l.length
  part : comG l n = 0
theorem Fork.ne {l : List Pr} {n : Nat} (h : Fork l n) : l ≠ [] := by intro e; have := h.two; rw [e] at this; simp at this
theorem comG_again {l : List Pr} {n : Nat} : comG l (n + comG l n) = 0 := by
  show comN ((headK l).drop (n + comG l n)) ((lastL l).drop (n + comG l n)) = 0
  rw [← List.drop_drop, ← List.drop_drop]
  exact comN_rest _ _
theorem Fit.fork {l : List Pr} {n : Nat} (h : Fit l n) (h2 : 2 ≤ l.length) : Fork l (n + comG l n) :=
  ⟨(h.com (by intro e; rw [e] at h2; simp at h2)).1, h2, comG_again⟩
theorem nib_eq {p : Pr} {n : Nat} (h : n < p.1.length) : p.1.drop n = UInt8.ofNat (nib p n) :: p.1.drop (n + 1) := by
  rw [List.drop_eq_getElem_cons h]
  unfold nib
  rw [List.getD_eq_getElem?_getD, List.getElem?_eq_getElem h]
  simp
theorem key_split {p : Pr} {n : Nat} (h : n < p.1.length) : p.1 = p.1.take n ++ UInt8.ofNat (nib p n) :: p.1.drop (n + 1) := by
  rw [← nib_eq h, List.take_append_drop]
theorem take_succ_nib {p : Pr} {n : Nat} (h : n < p.1.length) : p.1.take (n + 1) = p.1.take n ++ [UInt8.ofNat (nib p n)] := by
  rw [List.take_add_one, List.getElem?_eq_getElem h]
  unfold nib
  rw [List.getD_eq_getElem?_getD, List.getElem?_eq_getElem h]
  simp
theorem Fit.nib_lt {l : List Pr} {n : Nat} (h : Fit l n) {p : Pr} (hp : p ∈ l) {k : Nat} (hk : k < p.1.length) : nib p k < 16 := by
  unfold nib
  rw [List.getD_eq_getElem?_getD, List.getElem?_eq_getElem hk]
  exact h.half p hp _ (List.getElem_mem hk)
theorem ends_iff {l : List Pr} {n : Nat} (hne : l ≠ []) : endsB l n = true ↔ (headK l).length = n := by
  cases l with
  | nil => exact absurd rfl hne
  | cons p r => exact decide_eq_true_iff
theorem rest_sub (l : List Pr) (n : Nat) : (restL l n).Sublist l := by
  unfold restL; split
  · exact List.tail_sublist l
  · exact List.Sublist.refl l
theorem ltL_long : ∀ {a b : Bt} {n : Nat}, ltL a b → a.take n = b.take n → n ≤ a.length → n ≤ b.length → n < b.length
  | a, b, n, h, k, ha, hb => by
    rcases Nat.lt_or_ge n b.length with h1 | h1
    · exact h1
    · have e : n = b.length := by omega
      have hb' : b.take n = b := List.take_of_length_le (by omega)
      rw [hb'] at k
      have : a = b ++ a.drop n := by rw [← k, List.take_append_drop]
      rw [this] at h
      have := (ltL_append b (a.drop n) []).1 (by simpa using h)
      cases hx : a.drop n <;> rw [hx] at this <;> exact this.elim
/-- Where they part all but a first one that ends are longer. -/
theorem Fork.long {l : List Pr} {n : Nat} (h : Fork l n) : ∀ p ∈ restL l n, n < p.1.length := by
  intro p hp
  have hr := h.fit.rise
  obtain ⟨q, hq, e, _, r, hl⟩ := headK_mem h.ne
  unfold restL at hp
  have tail_long : ∀ p ∈ r, n < p.1.length := by
    intro p hp'
    have hp'' : p ∈ l := by rw [hl]; exact List.mem_cons_of_mem _ hp'
    rw [hl] at hr
    exact ltL_long ((List.pairwise_cons.1 hr).1 p hp') (h.fit.same q hq p hp'') (h.fit.len q hq).1 (h.fit.len p hp'').1
  split at hp
  · rw [hl] at hp; exact tail_long p hp
  · next hb =>
    rw [hl] at hp
    rcases List.mem_cons.1 hp with rfl | h1
    · have h2 := (h.fit.len p hq).1
      have h3 : ¬ (headK l).length = n := fun e => hb ((ends_iff h.ne).2 e)
      rw [← e] at h3
      omega
    · exact tail_long p h1
theorem Fork.restfit {l : List Pr} {n : Nat} (h : Fork l n) : Fit (restL l n) n := h.fit.sub (rest_sub l n)
theorem ltL_cons {p : Bt} {a b : UInt8} {x y : Bt} (h : ltL (p ++ a :: x) (p ++ b :: y)) : a.toNat ≤ b.toNat := by
  rcases (ltL_append p _ _).1 h with h | ⟨rfl, _⟩
  · omega
  · exact Nat.le_refl _
theorem byte16 {n : Nat} (h : n < 16) : (UInt8.ofNat n).toNat = n := byte_of n (by omega)
theorem Fork.order {l : List Pr} {n : Nat} (h : Fork l n) : (restL l n).Pairwise (fun p q => nib p n ≤ nib q n) := by
  refine List.Pairwise.imp_of_mem (fun {p q} hp hq hlt => ?_) h.restfit.rise
  have h1 := h.long p hp
  have h2 := h.long q hq
  have := h.restfit.same p hp q hq
  rw [key_split h1, key_split h2, this] at hlt
  have := ltL_cons hlt
  rwa [byte16 (h.restfit.nib_lt hp h1), byte16 (h.restfit.nib_lt hq h2)] at this
theorem grp_mem {l : List Pr} {n h : Nat} {p : Pr} : p ∈ grp l n h ↔ p ∈ l ∧ nib p n = h := by
  unfold grp; rw [List.mem_filter, beq_iff_eq]
theorem Fork.group {l : List Pr} {n : Nat} (h : Fork l n) (c : Nat) : Fit (grp (restL l n) n c) (n + 1) := by
  have hs : (grp (restL l n) n c).Sublist (restL l n) := List.filter_sublist
  have hf := h.restfit.sub hs
  refine ⟨fun p hp => ⟨?_, (hf.len p hp).2⟩, hf.half, hf.rise, fun p hp q hq => ?_⟩
  · exact h.long p (grp_mem.1 hp).1
  · rw [take_succ_nib (h.long p (grp_mem.1 hp).1), take_succ_nib (h.long q (grp_mem.1 hq).1), hf.same p hp q hq, (grp_mem.1 hp).2, (grp_mem.1 hq).2]
theorem Fork.grouphead {l : List Pr} {n : Nat} (h : Fork l n) {c : Nat} (hne : grp (restL l n) n c ≠ []) : (headK (grp (restL l n) n c)).take (n + 1) = (headK l).take n ++ [UInt8.ofNat c] := by
  obtain ⟨p, hp, e, _⟩ := headK_mem hne
  have hm := grp_mem.1 hp
  rw [← e, take_succ_nib (h.long p hm.1), hm.2, h.fit.headP ((rest_sub l n).subset hm.1)]
/-- In order, the groups are the whole. -/
theorem filter_step (n h : Nat) : ∀ (r : List Pr), r.Pairwise (fun p q => nib p n ≤ nib q n) → r.filter (fun p => nib p n < h + 1) = r.filter (fun p => nib p n < h) ++ grp r n h
  | [], _ => rfl
  | p :: r, hr => by
    obtain ⟨h1, h2⟩ := List.pairwise_cons.1 hr
    have ih := filter_step n h r h2
    unfold grp at ih ⊢
    rcases Nat.lt_trichotomy (nib p n) h with hp | hp | hp
    · rw [List.filter_cons_of_pos (by simpa using by omega), List.filter_cons_of_pos (by simpa using hp), List.filter_cons_of_neg (by simpa using by omega), ih, List.cons_append]
    · have e : r.filter (fun p => decide (nib p n < h)) = [] := List.filter_eq_nil_iff.2 fun q hq => by have := h1 q hq; simpa using by omega
      rw [List.filter_cons_of_pos (by simpa using by omega), List.filter_cons_of_neg (by simpa using by omega), List.filter_cons_of_pos (by simpa using hp), ih, e]
      rfl
    · have e : r.filter (fun p => decide (nib p n < h)) = [] := List.filter_eq_nil_iff.2 fun q hq => by have := h1 q hq; simpa using by omega
      have e2 : r.filter (fun p => nib p n == h) = [] := List.filter_eq_nil_iff.2 fun q hq => by have := h1 q hq; simpa using by omega
      rw [List.filter_cons_of_neg (by simpa using by omega), List.filter_cons_of_neg (by simpa using by omega), List.filter_cons_of_neg (by simpa using by omega), ih, e, e2]
theorem Fork.all16 {l : List Pr} {n : Nat} (h : Fork l n) : (restL l n).filter (fun p => nib p n < 16) = restL l n :=
  List.filter_eq_self.2 fun p hp => by simpa using h.restfit.nib_lt hp (h.long p hp)
/-- There are two groups, or one and a value. -/
theorem Fork.ways {l : List Pr} {n : Nat} (h : Fork l n) : (endsB l n = true ∧ ∃ c, c < 16 ∧ grp (restL l n) n c ≠ []) ∨
    (endsB l n = false ∧ ∃ c d, c < d ∧ d < 16 ∧ grp (restL l n) n c ≠ [] ∧ grp (restL l n) n d ≠ []) := by
  obtain ⟨q, hq, e, _, r, hl⟩ := headK_mem h.ne
  have some_group : ∀ p ∈ restL l n, nib p n < 16 ∧ grp (restL l n) n (nib p n) ≠ [] := fun p hp =>
    ⟨h.restfit.nib_lt hp (h.long p hp), List.ne_nil_of_mem (grp_mem.2 ⟨hp, rfl⟩)⟩
  cases hb : endsB l n
  · right
    refine ⟨rfl, ?_⟩
    have hrest : restL l n = l := by unfold restL; rw [hb]; rfl
    obtain ⟨z, hz, e1, _⟩ := lastL_mem h.ne
    have hq' : q ∈ restL l n := by rw [hrest]; exact hq
    have hz' : z ∈ restL l n := by rw [hrest]; exact hz
    have h1 := h.long q hq'
    have h2 := h.long z hz'
    have hp := h.part
    unfold comG at hp
    rw [← e, ← e1, nib_eq h1, nib_eq h2] at hp
    have hne : nib q n ≠ nib z n := by
      intro e2
      have hp : (if UInt8.ofNat (nib q n) = UInt8.ofNat (nib z n) then _ + 1 else 0) = 0 := hp
      rw [e2, if_pos rfl] at hp
      omega
    obtain ⟨a1, a2⟩ := some_group q hq'
    obtain ⟨b1, b2⟩ := some_group z hz'
    rcases Nat.lt_or_gt_of_ne hne with h3 | h3
    · exact ⟨_, _, h3, b1, a2, b2⟩
    · exact ⟨_, _, h3, a1, b2, a2⟩
  · left
    refine ⟨rfl, ?_⟩
    have hrest : restL l n = l.tail := by unfold restL; rw [hb]; rfl
    have h2 := h.two
    rw [hl] at h2 hrest
    cases r with
    | nil => simp at h2
    | cons z r =>
      have := some_group z (by rw [hl, hrest]; simp)
      exact ⟨_, this.1, this.2⟩

end Go.Proofs.YtelaiblhnhbgiaaDoor
