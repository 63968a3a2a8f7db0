/-
  The tree of pairs, and its nodes in their order: they are the pairs' trie. Plain mathematics. Pairs' trees: what is looked up, one pair more, at the beginning and at the end. Plain mathematics. A tree's nodes in their order, said as lay lays them: a node, and what is beneath each of its children. Plain mathematics. put's small functions: a Leaf, the nodes with which it begins, a Branch with a child. withChild: a Branch's child, at least an empty place. part: a Branch in the Path of a Leaf or an Ext. part: a Branch in the Path of a Leaf or an Ext (0A). part: a Branch in the Path of a Leaf or an Ext (0B).
-/
import Derived.Test.YtjpjcojabjkaaaaDoorGam
import Derived.Test.YtjpjcojabjkaaaaDoorGar
import Derived.Test.YtjpjcojabjkaaaaDoorGak
import Derived.Test.YtjpjcojabjkaaaaDoorGan
import Derived.Test.YtjpjcojabjkaaaaDoorGaj
namespace Go.Proofs.YtjpjcojabjkaaaaDoor
set_option maxRecDepth 20000

/-- A Branch's children up to a half: their numbers, their nodes. -/
def kidsT (G : Nat → Nat → Bt → List NP) (no : Nat → Bool) (b : Nat) (q : Bt) : Nat → List Int × List NP
  | 0 => (no16, [])
  | h + 1 =>
    let s := kidsT G no b q h
    if no h = true then s else (s.1.set h ((b + s.2.length : Nat) : Int), s.2 ++ G h (b + s.2.length) (q ++ [UInt8.ofNat h]))
def isNo : Tr → Bool
  | .none => true
  | _ => false
theorem isNo_iff {T : Tr} : isNo T = true ↔ T = .none := by
  cases T <;> simp [isNo]
/-- A tree's nodes in their order, numbered from b on, and what leads to each. -/
def nodesT : Tr → Nat → Bt → List NP
  | .none, _, _ => []
  | .hole, _, _ => []
  | .leaf p v, _, q => [(leafN p v, q)]
  | .ext p k, b, q => (extN p ((b + 1 : Nat) : Int), q) :: nodesT k (b + 1) (q ++ p)
  | .br h v ks, b, q => (brN h v (kidsT (fun c => nodesT (ks c)) (fun c => isNo (ks c)) (b + 1) q 16).1, q) :: (kidsT (fun c => nodesT (ks c)) (fun c => isNo (ks c)) (b + 1) q 16).2
theorem kidsT_len (G : Nat → Nat → Bt → List NP) (no : Nat → Bool) (b : Nat) (q : Bt) : ∀ h, (kidsT G no b q h).1.length = 16
  | 0 => rfl
  | h + 1 => by
    show (if no h = true then _ else _ : List Int × List NP).1.length = 16
    split
    · exact kidsT_len G no b q h
    · rw [List.length_set]; exact kidsT_len G no b q h
theorem kidsT_late (G : Nat → Nat → Bt → List NP) (no : Nat → Bool) (b : Nat) (q : Bt) : ∀ h c, h ≤ c → c < 16 → (kidsT G no b q h).1[c]? = some 0
  | 0, c, _, h2 => no16_get h2
  | h + 1, c, h1, h2 => by
    show (if no h = true then _ else _ : List Int × List NP).1[c]? = some 0
    split
    · exact kidsT_late G no b q h c (by omega) h2
    · rw [List.getElem?_set_ne (by omega)]; exact kidsT_late G no b q h c (by omega) h2
theorem kidsT_have (G : Nat → Nat → Bt → List NP) (no : Nat → Bool) (b : Nat) (q : Bt) : ∀ h c, c < h → h ≤ 16 →
    (no c = true ∧ (kidsT G no b q h).1[c]? = some 0) ∨ (no c = false ∧ ∃ pre post, (kidsT G no b q h).2 = pre ++ G c (b + pre.length) (q ++ [UInt8.ofNat c]) ++ post ∧ (kidsT G no b q h).1[c]? = some ((b + pre.length : Nat) : Int))
  | 0, c, h1, _ => by omega
  | h + 1, c, h1, h2 => by
    have e : kidsT G no b q (h + 1) = if no h = true then kidsT G no b q h else ((kidsT G no b q h).1.set h ((b + (kidsT G no b q h).2.length : Nat) : Int), (kidsT G no b q h).2 ++ G h (b + (kidsT G no b q h).2.length) (q ++ [UInt8.ofNat h])) := rfl
    rw [e]
    by_cases hc : c = h
    · subst hc
      cases hn : no c with
      | true => rw [if_pos rfl]; exact .inl ⟨rfl, kidsT_late G no b q c c (Nat.le_refl _) (by omega)⟩
      | false =>
        rw [if_neg (by simp)]
        refine .inr ⟨rfl, (kidsT G no b q c).2, [], by simp, ?_⟩
        rw [List.getElem?_set_self (by rw [kidsT_len]; omega)]
    · rcases kidsT_have G no b q h c (by omega) (by omega) with ⟨h3, h4⟩ | ⟨h3, pre, post, h4, h5⟩
      · refine .inl ⟨h3, ?_⟩
        split
        · exact h4
        · rw [List.getElem?_set_ne (Ne.symm hc)]; exact h4
      · refine .inr ⟨h3, ?_⟩
        split
        · exact ⟨pre, post, h4, h5⟩
        · refine ⟨pre, post ++ G h (b + (kidsT G no b q h).2.length) (q ++ [UInt8.ofNat h]), ?_, ?_⟩
          · rw [h4]; simp
          · rw [List.getElem?_set_ne (Ne.symm hc)]; exact h5
/-- Nodes that lie from b on as a tree's nodes do are that tree. -/
theorem nodes_rep {d : List Nd} {A : List Bt} : ∀ {T : Tr} {b : Nat} {q : Bt}, NF T → (∀ (i : Nat) (m : NP), (nodesT T b q)[i]? = some m → d[b + i]? = some m.1 ∧ A[b + i]? = some m.2) → Rep d A T b q
  | .none, _, _, h, _ => h.elim
  | .hole, _, _, h, _ => h.elim
  | .leaf p v, b, q, _, k => ⟨(k 0 _ rfl).2, (k 0 _ rfl).1⟩
  | .ext p T, b, q, h, k => by
    refine ⟨(k 0 _ rfl).2, b + 1, by omega, (k 0 _ rfl).1, nodes_rep h.2.2.2 fun i m hm => ?_⟩
    have := k (i + 1) m (by show (_ :: nodesT T (b + 1) (q ++ p))[i + 1]? = _; rw [List.getElem?_cons_succ]; exact hm)
    rwa [show b + 1 + i = b + (i + 1) by omega]
  | .br b0 v ks, b, q, h, k => by
    refine ⟨(k 0 _ rfl).2, _, kidsT_len _ _ _ _ 16, (k 0 _ rfl).1, fun c hc => ?_⟩
    rcases kidsT_have (fun c => nodesT (ks c)) (fun c => isNo (ks c)) (b + 1) q 16 c hc (Nat.le_refl _) with ⟨h1, h2⟩ | ⟨h1, pre, post, h2, h3⟩
    · exact .inl ⟨isNo_iff.1 h1, h2⟩
    · have hn : NF (ks c) := (h.2.2.1 c).resolve_left fun e => by rw [isNo_iff.2 e] at h1; cases h1
      refine .inr ⟨b + 1 + pre.length, by omega, h3, nodes_rep hn fun i m hm => ?_⟩
      have hi : (nodesT (.br b0 v ks) b q)[pre.length + i + 1]? = some m := by
        show (_ :: (kidsT (fun c => nodesT (ks c)) (fun c => isNo (ks c)) (b + 1) q 16).2)[pre.length + i + 1]? = _
        rw [List.getElem?_cons_succ, h2, List.append_assoc, List.getElem?_append_right (by omega), show pre.length + i - pre.length = i by omega, List.getElem?_append_left (List.getElem?_eq_some_iff.1 hm).1]
        exact hm
      have := k _ m hi
      rwa [show b + 1 + pre.length + i = b + (pre.length + i + 1) by omega]

/-- The tree of pairs. -/
def treW (G : List Pr → Tr) (l : List Pr) (n : Nat) : Tr := .br (endsB l n) (headV l n) fun c => G (grp (restL l n) n c)
def treF : Nat → List Pr → Nat → Tr
  | 0, _, _ => .none
  | f + 1, l, n => if l.length = 0 then .none else if l.length = 1 then .leaf ((headK l).drop n) (headVal l)
    else if comG l n = 0 then treW (fun g => treF f g (n + 1)) l n
    else .ext (((headK l).drop n).take (comG l n)) (treW (fun g => treF f g (n + comG l n + 1)) l (n + comG l n))
theorem treF_nil (f n : Nat) : treF f [] n = .none := by cases f <;> rfl
theorem treF_none {f : Nat} {l : List Pr} {n : Nat} (h : 17 ≤ n + f) (hl : Fit l n) : treF f l n = .none ↔ l = [] := by
  constructor
  · intro e
    cases f with
    | zero =>
      cases l with
      | nil => rfl
      | cons p l => have := hl.len p (by simp); omega
    | succ f =>
      unfold treF at e
      split at e
      · rename_i h0; exact List.eq_nil_of_length_eq_zero h0
      · split at e
        · cases e
        · split at e
          · cases e
          · cases e
  · rintro rfl; exact treF_nil f n
theorem headP_nil_ends {l : List Pr} {n : Nat} (h : endsB l n = false) : headV l n = [] := by unfold headV; rw [if_neg (by rw [h]; simp)]
theorem fork_nf {G : List Pr → Tr} {l : List Pr} {n : Nat} (F : Fork l n) (hG : ∀ c, G (grp (restL l n) n c) = .none ↔ grp (restL l n) n c = []) (hN : ∀ c, grp (restL l n) n c ≠ [] → NF (G (grp (restL l n) n c))) : NF (treW G l n) := by
  refine ⟨headP_nil_ends, fun c hc => (hG c).2 ?_, fun c => ?_, ?_⟩
  · cases hg : grp (restL l n) n c with
    | nil => rfl
    | cons p g =>
      have hp : p ∈ grp (restL l n) n c := by rw [hg]; simp
      have h1 := grp_mem.1 hp
      have := F.restfit.nib_lt h1.1 (F.long p h1.1)
      omega
  · by_cases e : grp (restL l n) n c = []
    · exact .inl ((hG c).2 e)
    · exact .inr (hN c e)
  · rcases F.ways with ⟨h1, c, _, hc⟩ | ⟨_, c, d, hcd, _, hc, hd⟩
    · exact .inl ⟨h1, c, fun e => hc ((hG c).1 e)⟩
    · exact .inr ⟨c, d, by omega, fun e => hc ((hG c).1 e), fun e => hd ((hG d).1 e)⟩
theorem half_of {l : List Pr} {n : Nat} (h : Fit l n) : Half (headK l) := fun c hc => by
  by_cases e : l = []
  · subst e; cases hc
  · obtain ⟨p, hp, e1, _⟩ := headK_mem e
    exact h.half p hp c (by rw [e1]; exact hc)
theorem tre_nf : ∀ (f : Nat) {l : List Pr} {n : Nat}, 17 ≤ n + f → Fit l n → l ≠ [] → NF (treF f l n)
  | 0, l, n, h, hl, hne => by
    obtain ⟨p, hp, _⟩ := headK_mem hne
    have := hl.len p hp; omega
  | f + 1, l, n, h, hl, hne => by
    unfold treF
    rw [if_neg (fun e => hne (List.eq_nil_of_length_eq_zero e))]
    by_cases h1 : l.length = 1
    · rw [if_pos h1]; exact half_drop (half_of hl) n
    · rw [if_neg h1]
      have h0 : l.length ≠ 0 := fun e => hne (List.eq_nil_of_length_eq_zero e)
      have K := hl.fork (by omega)
      have hlen := (hl.com hne).2
      have br : NF (treW (fun g => treF f g (n + comG l n + 1)) l (n + comG l n)) := fork_nf K (fun c => treF_none (by omega) (K.group c)) fun c hc => tre_nf f (by omega) (K.group c) hc
      by_cases hc : comG l n = 0
      · rw [if_pos hc]
        rw [hc] at br; exact br
      · rw [if_neg hc]
        refine ⟨fun e => ?_, half_take (half_drop (half_of hl) n) _, trivial, br⟩
        have := congrArg List.length e
        rw [List.length_take, List.length_drop, List.length_nil] at this
        omega
theorem kids_tre {G : List Pr → Nat → List NP} {H : List Pr → Tr} {l : List Pr} {n : Nat} {q : Bt} {b : Nat} (hH : ∀ c, c < 16 → (isNo (H (grp (restL l n) n c)) = true ↔ grp (restL l n) n c = []))
    (hG : ∀ c b, c < 16 → grp (restL l n) n c ≠ [] → G (grp (restL l n) n c) b = nodesT (H (grp (restL l n) n c)) b (q ++ [UInt8.ofNat c])) : ∀ h, h ≤ 16 →
    kidsW G (fun h => grp (restL l n) n h) b h = kidsT (fun c => nodesT (H (grp (restL l n) n c))) (fun c => isNo (H (grp (restL l n) n c))) b q h
  | 0, _ => rfl
  | h + 1, hh => by
    have ih := kids_tre (G := G) (H := H) (l := l) (n := n) (q := q) (b := b) hH hG h (by omega)
    show (if grp (restL l n) n h = [] then kidsW G (fun h => grp (restL l n) n h) b h else (_, _)) = (if isNo (H (grp (restL l n) n h)) = true then _ else (_, _))
    rw [ih]
    by_cases e : grp (restL l n) n h = []
    · rw [if_pos e, if_pos ((hH h (by omega)).2 e)]
    · rw [if_neg e, if_neg (fun x => e ((hH h (by omega)).1 x)), hG h _ (by omega) e]
/-- The nodes of the tree of pairs are the pairs'. -/
theorem tre_nodes : ∀ (f : Nat) {l : List Pr} {n b : Nat}, 17 ≤ n + f → Fit l n → l ≠ [] → nodesT (treF f l n) b ((headK l).take n) = grow f l n b
  | 0, l, n, b, h, hl, hne => by
    obtain ⟨p, hp, _⟩ := headK_mem hne
    have := hl.len p hp; omega
  | f + 1, l, n, b, h, hl, hne => by
    unfold treF grow
    have h0 : ¬ l.length = 0 := fun e => hne (List.eq_nil_of_length_eq_zero e)
    rw [if_neg h0, if_neg h0]
    by_cases h1 : l.length = 1
    · rw [if_pos h1, if_pos h1]; rfl
    · rw [if_neg h1, if_neg h1]
      have K := hl.fork (by omega)
      have hlen := (hl.com hne).2
      have br : ∀ b, nodesT (treW (fun g => treF f g (n + comG l n + 1)) l (n + comG l n)) b ((headK l).take (n + comG l n)) = forkW (fun g => grow f g (n + comG l n + 1)) l (n + comG l n) b := fun b => by
        have hk := kids_tre (G := fun g => grow f g (n + comG l n + 1)) (H := fun g => treF f g (n + comG l n + 1)) (l := l) (n := n + comG l n) (q := (headK l).take (n + comG l n)) (b := b + 1)
          (fun c hc => isNo_iff.trans (treF_none (by omega) (K.group c))) (fun c b' hc hg => by rw [← K.grouphead hg]; exact (tre_nodes f (by omega) (K.group c) hg).symm) 16 (Nat.le_refl _)
        unfold forkW
        rw [hk, headP_eq]
        rfl
      by_cases hc : comG l n = 0
      · rw [if_pos hc, if_pos hc]
        have := br b
        rw [hc] at this
        exact this
      · rw [if_neg hc, if_neg hc]
        show (_, _) :: nodesT _ (b + 1) _ = _
        rw [← List.take_add, br (b + 1)]
end Go.Proofs.YtjpjcojabjkaaaaDoor
namespace Go.Proofs.YtjpjcojabjkaaaaDoor
set_option maxRecDepth 20000

def In (l : List Pr) (n : Nat) (x v : Bt) : Prop := ∃ p ∈ l, p.1.drop n = x ∧ p.2 = v
theorem ends_cons {p : Pr} {l : List Pr} {n : Nat} : endsB (p :: l) n = decide (p.1.length = n) := rfl
/-- Those of a Branch: the one that ends there, and those of its groups. -/
theorem fork_in {l : List Pr} {n : Nat} (F : Fork l n) (v : Bt) : (In l n [] v ↔ endsB l n = true ∧ headV l n = v) ∧ ∀ c y, In l n (c :: y) v ↔ In (grp (restL l n) n c.toNat) (n + 1) y v := by
  have hlong : ∀ p ∈ restL l n, ∃ c y, p.1.drop n = c :: y ∧ c = UInt8.ofNat (nib p n) ∧ nib p n < 16 ∧ y = p.1.drop (n + 1) := fun p hp =>
    ⟨_, _, nib_eq (F.long p hp), rfl, F.restfit.nib_lt hp (F.long p hp), rfl⟩
  have hmem : ∀ p, p ∈ l ↔ (endsB l n = true ∧ p = (headK l, headVal l)) ∨ p ∈ restL l n := fun p => by
    unfold restL
    obtain ⟨q, _, e1, e2, r, hl⟩ := headK_mem F.ne
    cases hb : endsB l n
    · simp
    · rw [if_pos rfl]
      subst hl
      rw [List.mem_cons]
      exact ⟨fun h => h.elim (fun h => .inl ⟨rfl, h⟩) .inr, fun h => h.elim (fun h => .inl h.2) .inr⟩
  have hhead : endsB l n = true → (headK l).drop n = [] ∧ headV l n = headVal l := fun hb => by
    have := (ends_iff F.ne).1 hb
    refine ⟨List.drop_of_length_le (by omega), ?_⟩
    unfold headV
    rw [if_pos hb]; cases l <;> rfl
  constructor
  · constructor
    · rintro ⟨p, hp, h1, h2⟩
      rcases (hmem p).1 hp with ⟨hb, rfl⟩ | hp
      · exact ⟨hb, (hhead hb).2.trans h2⟩
      · obtain ⟨c, y, e, _⟩ := hlong p hp
        rw [e] at h1; cases h1
    · rintro ⟨hb, h2⟩
      exact ⟨_, (hmem _).2 (.inl ⟨hb, rfl⟩), (hhead hb).1, (hhead hb).2.symm.trans h2⟩
  · intro c y
    constructor
    · rintro ⟨p, hp, h1, h2⟩
      rcases (hmem p).1 hp with ⟨hb, rfl⟩ | hp
      · rw [(hhead hb).1] at h1; cases h1
      · obtain ⟨c', y', e, ec, h16, ey⟩ := hlong p hp
        rw [e] at h1
        obtain ⟨rfl, rfl⟩ := List.cons.inj h1
        refine ⟨p, grp_mem.2 ⟨hp, ?_⟩, ey.symm, h2⟩
        rw [ec, u8_nat h16]
    · rintro ⟨p, hp, h1, h2⟩
      have hg := grp_mem.1 hp
      obtain ⟨c', y', e, ec, h16, ey⟩ := hlong p hg.1
      refine ⟨p, (hmem p).2 (.inr hg.1), ?_, h2⟩
      rw [e, ec, hg.2, UInt8.ofNat_toNat, ey, h1]
theorem fork_look {G : List Pr → Tr} {l : List Pr} {n : Nat} (F : Fork l n) (hG : ∀ c x v, lookT (G (grp (restL l n) n c)) x = some v ↔ In (grp (restL l n) n c) (n + 1) x v) (x v : Bt) : lookT (treW G l n) x = some v ↔ In l n x v := by
  obtain ⟨h1, h2⟩ := fork_in F v
  cases x with
  | nil =>
    rw [h1]
    show (if endsB l n = true then some (headV l n) else .none) = some v ↔ _
    cases endsB l n <;> simp
  | cons c y =>
    rw [h2]
    exact hG c.toNat y v
theorem tre_look : ∀ (f : Nat) {l : List Pr} {n : Nat}, 17 ≤ n + f → Fit l n → ∀ x v, lookT (treF f l n) x = some v ↔ In l n x v
  | 0, l, n, h, hl, x, v => by
    constructor
    · intro e; cases e
    · rintro ⟨p, hp, _⟩; have := hl.len p hp; omega
  | f + 1, l, n, h, hl, x, v => by
    unfold treF
    by_cases h0 : l.length = 0
    · rw [if_pos h0, List.eq_nil_of_length_eq_zero h0]
      constructor
      · intro e; cases e
      · rintro ⟨p, hp, _⟩; cases hp
    rw [if_neg h0]
    have hne : l ≠ [] := fun e => h0 (by rw [e]; rfl)
    by_cases h1 : l.length = 1
    · rw [if_pos h1]
      match l, h1 with
      | [p], _ =>
        show (if x = p.1.drop n then some p.2 else .none) = some v ↔ _
        constructor
        · intro e
          split at e
          · rename_i hx; exact ⟨p, by simp, hx.symm, Option.some.inj e⟩
          · cases e
        · rintro ⟨q, hq, h2, h3⟩
          rw [List.mem_singleton.1 hq] at h2 h3
          rw [if_pos h2.symm, h3]
    rw [if_neg h1]
    have K := hl.fork (by omega)
    have hlen := (hl.com hne).2
    have br := fork_look (G := fun g => treF f g (n + comG l n + 1)) K (fun c x v => tre_look f (by omega) (K.group c) x v)
    by_cases hc : comG l n = 0
    · rw [if_pos hc]
      rw [hc] at br
      exact br x v
    · rw [if_neg hc]
      obtain ⟨P, hP⟩ : ∃ P, ((headK l).drop n).take (comG l n) = P := ⟨_, rfl⟩
      have hPl : P.length = comG l n := by rw [← hP, List.length_take, List.length_drop]; omega
      have hall : ∀ p ∈ l, p.1.drop n = P ++ p.1.drop (n + comG l n) := fun p hp => by
        rw [← List.take_append_drop (comG l n) (p.1.drop n), List.drop_drop]
        congr 1
        rw [← hP, List.take_drop, List.take_drop, K.fit.headP hp]
      rw [hP]
      show (if begB P x = true then lookT (treW _ l (n + comG l n)) (x.drop P.length) else .none) = some v ↔ _
      by_cases hb : begB P x = true
      · rw [if_pos hb, br]
        constructor
        · rintro ⟨p, hp, h2, h3⟩
          exact ⟨p, hp, by rw [hall p hp, h2]; exact (beg_split hb).symm, h3⟩
        · rintro ⟨p, hp, h2, h3⟩
          refine ⟨p, hp, ?_, h3⟩
          rw [← h2, hall p hp, drop_app]
      · rw [if_neg hb]
        constructor
        · intro e; cases e
        · rintro ⟨p, hp, h2, h3⟩
          exfalso; apply hb
          rw [← h2, hall p hp]
          exact begB_append _ _

/-- The tree of pairs, or an empty place. -/
def treeL (l : List Pr) : Tr := if l = [] then .hole else treF 17 (l.map halfP) 0
theorem treeL_nf {l : List Pr} (h : mayB l = true) (hne : l ≠ []) : NF (treeL l) := by
  unfold treeL
  rw [if_neg hne]
  exact tre_nf 17 (by omega) (may_fit h) (by simpa using hne)
theorem treeL_nodes {l : List Pr} (h : mayB l = true) : nodesT (treeL l) 0 [] = trieL l := by
  unfold treeL trieL
  by_cases hne : l = []
  · rw [if_pos hne, hne]; rfl
  · rw [if_neg hne]
    have := tre_nodes 17 (b := 0) (by omega) (may_fit h) (by simpa using hne)
    rw [List.take_zero] at this
    exact this
theorem ofL_inj {a b : Bt} (h : ofL a = ofL b) : a = b := by
  rcases ltL_total a b with x | x | x
  · have := (ltL_of a b).2 x; rw [h] at this; exact absurd this (ltL_irrefl _)
  · exact x
  · have := (ltL_of b a).2 x; rw [h] at this; exact absurd this (ltL_irrefl _)
theorem treeL_look {l : List Pr} (h : mayB l = true) (x v : Bt) : lookT (treeL l) x = some v ↔ ∃ p ∈ l, ofL p.1 = x ∧ p.2 = v := by
  unfold treeL
  by_cases hne : l = []
  · rw [if_pos hne, hne]
    constructor
    · intro e; cases e
    · rintro ⟨p, hp, _⟩; cases hp
  · rw [if_neg hne, tre_look 17 (by omega) (may_fit h)]
    constructor
    · rintro ⟨p, hp, h1, h2⟩
      obtain ⟨q, hq, rfl⟩ := List.mem_map.1 hp
      exact ⟨q, hq, h1, h2⟩
    · rintro ⟨p, hp, h1, h2⟩
      exact ⟨halfP p, List.mem_map_of_mem hp, h1, h2⟩
/-- Nodes in no order that are pairs' tree. -/
def Drf (d : List Nd) (l : List Pr) : Prop := ∃ A, d.length = A.length ∧ Rep d A (treeL l) 0 []
/-- One pair more. -/
theorem put_step {d : List Nd} {l : List Pr} (h : mayB l = true) (D : Drf d l) {k v : Bt} (hk : keyOk k = true) (hv : v.length ≤ 16) : ∃ d', putM 36 d 0 (ofL k) v = some d' ∧ Drf d' (setL l k v) := by
  obtain ⟨A, hA, hR⟩ := D
  have hhalf : Half (ofL k) := halves_of k
  have hlen := keyOk_len hk
  have hm := set_may h hk hv
  have hne : setL l k v ≠ [] := by
    intro e
    have := (set_mem (rise_may h) (k := k) (v := v) (q := (k, v))).2 (.inl rfl)
    rw [e] at this; cases this
  have hpre : Pre (treeL l) (ofL k) := by
    by_cases e : l = []
    · rw [e]; trivial
    · exact nf_pre (treeL_nf h e)
  obtain ⟨d', A', T', e1, Dn⟩ := put_rep 36 (treeL l) d A 0 [] (ofL k) v hR hA hpre hhalf (by have := wgt_le (treeL l) (ofL k); rw [ofL_length] at this; omega)
  refine ⟨d', e1, A', Dn.fr.len, ?_⟩
  have : T' = treeL (setL l k v) := tree_ext Dn.nf (treeL_nf hm hne) fun x => by
    have key : ∀ u, lookT T' x = some u ↔ lookT (treeL (setL l k v)) x = some u := fun u => by
      rw [Dn.upd x, treeL_look hm]
      by_cases e : x = ofL k
      · rw [if_pos e]
        constructor
        · intro hu
          exact ⟨(k, v), (set_mem (rise_may h)).2 (.inl rfl), e.symm, Option.some.inj hu⟩
        · rintro ⟨p, hp, h1, h2⟩
          rcases (set_mem (rise_may h)).1 hp with rfl | ⟨_, hn⟩
          · rw [← h2]
          · exact absurd (ofL_inj (h1.trans e)) hn
      · rw [if_neg e, treeL_look h]
        constructor
        · rintro ⟨p, hp, h1, h2⟩
          exact ⟨p, (set_mem (rise_may h)).2 (.inr ⟨hp, fun hk => e (by rw [← h1, hk])⟩), h1, h2⟩
        · rintro ⟨p, hp, h1, h2⟩
          rcases (set_mem (rise_may h)).1 hp with rfl | ⟨hp, _⟩
          · exact absurd h1.symm e
          · exact ⟨p, hp, h1, h2⟩
    cases e1 : lookT T' x with
    | some u => exact ((key u).1 e1).symm
    | none =>
      cases e2 : lookT (treeL (setL l k v)) x with
      | none => rfl
      | some u => rw [(key u).2 e2] at e1; cases e1
  rw [← this]
  exact Dn.rep
/-- The nodes with which it begins. -/
def openN (t : List Nd) : List Nd := if t = [] then [noNd] else t
theorem open_drf {l : List Pr} (h : mayB l = true) : Drf (openN (buildN l)) l := by
  by_cases e : l = []
  · subst e
    exact ⟨[[]], rfl, rfl, rfl⟩
  · have hn := treeL_nodes h
    have hb : buildN l ≠ [] := by
      intro hb
      have := grow_blk 17 (l.map halfP) 0 0 (by omega) (may_fit h) (by simpa using e)
      have h2 := this.ne
      unfold buildN trieL at hb
      rw [List.map_eq_nil_iff] at hb
      rw [hb] at h2; simp at h2
    unfold openN
    rw [if_neg hb]
    refine ⟨(trieL l).map (·.2), by unfold buildN; simp, nodes_rep (treeL_nf h e) fun i m hm => ?_⟩
    rw [hn] at hm
    unfold buildN
    rw [Nat.zero_add, List.getElem?_map, List.getElem?_map, hm]
    exact ⟨rfl, rfl⟩
/-- How a node of them looks. -/
def Nk (n : Nd) : Prop := n.kids.length = 16 ∧ Half n.path ∧ n.path.length ≤ 4000
def Dk (d : List Nd) : Prop := ∀ n ∈ d, Nk n
theorem nk_no : Nk noNd := ⟨rfl, (fun _ h => by cases h), Nat.zero_le _⟩
theorem dk_set {d : List Nd} (h : Dk d) {n : Nd} (hn : Nk n) (a : Nat) : Dk (d.set a n) := fun m hm => (List.mem_or_eq_of_mem_set hm).elim (h m) fun e => by rw [e]; exact hn
theorem dk_push {d : List Nd} (h : Dk d) {n : Nd} (hn : Nk n) : Dk (d ++ [n]) := fun m hm => (List.mem_append.1 hm).elim (h m) fun e => by rw [List.mem_singleton.1 e]; exact hn
theorem nodes_half : ∀ {T : Tr} {b : Nat} {q : Bt}, NF T → ∀ m ∈ nodesT T b q, Half m.1.path
  | .none, _, _, h => h.elim
  | .hole, _, _, h => h.elim
  | .leaf p v, b, q, h => fun m hm => by
    rw [List.mem_singleton.1 (show m ∈ [(leafN p v, q)] from hm)]; exact h
  | .ext p k, b, q, h => fun m hm => by
    rcases List.mem_cons.1 (show m ∈ (extN p ((b + 1 : Nat) : Int), q) :: nodesT k (b + 1) (q ++ p) from hm) with e | e
    · rw [e]; exact h.2.1
    · exact nodes_half h.2.2.2 m e
  | .br b0 v ks, b, q, h => fun m hm => by
    have sub : ∀ hh, hh ≤ 16 → ∀ m ∈ (kidsT (fun c => nodesT (ks c)) (fun c => isNo (ks c)) (b + 1) q hh).2, Half m.1.path := by
      intro hh
      induction hh with
      | zero => intro _ m hm; cases hm
      | succ hh ih =>
        intro h16 m hm
        change m ∈ (if isNo (ks hh) = true then _ else (_, _) : List Int × List NP).2 at hm
        by_cases e : isNo (ks hh) = true
        · rw [if_pos e] at hm; exact ih (by omega) m hm
        · rw [if_neg e] at hm
          rcases List.mem_append.1 hm with x | x
          · exact ih (by omega) m x
          · exact nodes_half ((h.2.2.1 hh).resolve_left fun y => e (isNo_iff.2 y)) m x
    rcases List.mem_cons.1 hm with e | e
    · rw [e]; intro _ h; cases h
    · exact sub 16 (Nat.le_refl _) m e
theorem open_dk {l : List Pr} (h : mayB l = true) (K : TOk (buildN l)) : Dk (openN (buildN l)) := by
  unfold openN
  split
  · intro n hn; rw [List.mem_singleton.1 hn]; exact nk_no
  · rename_i hb
    have e : l ≠ [] := by rintro rfl; exact hb rfl
    intro n hn
    refine ⟨K.k16 n hn, ?_, (K.len n hn).1⟩
    unfold buildN at hn
    obtain ⟨m, hm, rfl⟩ := List.mem_map.1 hn
    rw [← treeL_nodes h] at hm
    exact nodes_half (treeL_nf h e) m hm
end Go.Proofs.YtjpjcojabjkaaaaDoor
namespace Go.Proofs.YtjpjcojabjkaaaaDoor
set_option maxRecDepth 20000

def layK (N : Nat → Nat → List Nd) (no : Nat → Bool) (b : Nat) : Nat → List Int × List Nd
  | 0 => (no16, [])
  | h + 1 => if no h = true then layK N no b h else ((layK N no b h).1.set h ((b + (layK N no b h).2.length : Nat) : Int), (layK N no b h).2 ++ N h (b + (layK N no b h).2.length))
/-- A tree's nodes. -/
def ndT (T : Tr) (b : Nat) : List Nd := (nodesT T b []).map (·.1)
theorem kids_lay {G : Nat → Nat → Bt → List NP} {N : Nat → Nat → List Nd} (no : Nat → Bool) (b : Nat) (q : Bt) (hG : ∀ c b q', (G c b q').map (·.1) = N c b) : ∀ h, (kidsT G no b q h).1 = (layK N no b h).1 ∧ (kidsT G no b q h).2.map (·.1) = (layK N no b h).2
  | 0 => ⟨rfl, rfl⟩
  | h + 1 => by
    obtain ⟨h1, h2⟩ := kids_lay no b q hG h
    have hl : (kidsT G no b q h).2.length = (layK N no b h).2.length := by rw [← h2, List.length_map]
    show (if no h = true then _ else _ : List Int × List NP).1 = (if no h = true then _ else _ : List Int × List Nd).1 ∧ (if no h = true then _ else _ : List Int × List NP).2.map (·.1) = (if no h = true then _ else _ : List Int × List Nd).2
    split
    · exact ⟨h1, h2⟩
    · refine ⟨by rw [h1, hl], ?_⟩
      rw [List.map_append, h2, hG, hl]
theorem nodes_q : ∀ (T : Tr) (b : Nat) (q q' : Bt), (nodesT T b q).map (·.1) = (nodesT T b q').map (·.1)
  | .none, _, _, _ => rfl
  | .hole, _, _, _ => rfl
  | .leaf _ _, _, _, _ => rfl
  | .ext p k, b, q, q' => by
    show _ :: (nodesT k (b + 1) (q ++ p)).map (·.1) = _ :: (nodesT k (b + 1) (q' ++ p)).map (·.1)
    rw [nodes_q k (b + 1) (q ++ p) (q' ++ p)]
  | .br h v ks, b, q, q' => by
    have hG : ∀ c b q', (nodesT (ks c) b q').map (·.1) = ndT (ks c) b := fun c b q' => nodes_q (ks c) b q' []
    have h1 := kids_lay (G := fun c => nodesT (ks c)) (fun c => isNo (ks c)) (b + 1) q hG 16
    have h2 := kids_lay (G := fun c => nodesT (ks c)) (fun c => isNo (ks c)) (b + 1) q' hG 16
    show brN h v _ :: _ = brN h v _ :: _
    rw [h1.1, h2.1]
    congr 1
    exact h1.2.trans h2.2.symm
theorem nd_nodes (T : Tr) (b : Nat) (q : Bt) : (nodesT T b q).map (·.1) = ndT T b := nodes_q T b q []
/-- A tree's children, whatever its first node. -/
def subT : Tr → Nat → Tr
  | .ext _ k => one 0 k
  | .br _ _ ks => ks
  | _ => fun _ => .none
/-- The nodes beneath a node, so far. -/
def kstT (ks : Nat → Tr) (b h : Nat) : List Int × List Nd := layK (fun c => ndT (ks c)) (fun c => isNo (ks c)) b h
theorem kstT_zero (ks : Nat → Tr) (b : Nat) : kstT ks b 0 = (no16, []) := rfl
theorem kstT_no {ks : Nat → Tr} {b h : Nat} (e : ks h = .none) : kstT ks b (h + 1) = kstT ks b h := by
  show (if isNo (ks h) = true then _ else _) = _
  rw [if_pos (isNo_iff.2 e)]; rfl
theorem kstT_yes {ks : Nat → Tr} {b h : Nat} (e : ks h ≠ .none) : kstT ks b (h + 1) = ((kstT ks b h).1.set h ((b + (kstT ks b h).2.length : Nat) : Int), (kstT ks b h).2 ++ ndT (ks h) (b + (kstT ks b h).2.length)) := by
  show (if isNo (ks h) = true then _ else _) = _
  rw [if_neg (fun x => e (isNo_iff.1 x))]; rfl
theorem kstT_len (ks : Nat → Tr) (b : Nat) : ∀ h, (kstT ks b h).1.length = 16
  | 0 => rfl
  | h + 1 => by
    by_cases e : ks h = .none
    · rw [kstT_no e]; exact kstT_len ks b h
    · rw [kstT_yes e]
      show (List.set _ _ _).length = 16
      rw [List.length_set]; exact kstT_len ks b h
theorem kstT_late (ks : Nat → Tr) (b : Nat) : ∀ h c, h ≤ c → c < 16 → (kstT ks b h).1[c]? = some 0
  | 0, c, _, h2 => no16_get h2
  | h + 1, c, h1, h2 => by
    by_cases e : ks h = .none
    · rw [kstT_no e]; exact kstT_late ks b h c (by omega) h2
    · rw [kstT_yes e]
      show (List.set _ _ _)[c]? = some 0
      rw [List.getElem?_set_ne (by omega)]
      exact kstT_late ks b h c (by omega) h2
theorem kstT_mono (ks : Nat → Tr) (b : Nat) {h : Nat} : ∀ {k : Nat}, h ≤ k → (kstT ks b h).2.length ≤ (kstT ks b k).2.length := by
  intro k hk
  induction k with
  | zero => rw [show h = 0 by omega]; exact Nat.le_refl _
  | succ k ih =>
    by_cases e : h = k + 1
    · rw [e]; exact Nat.le_refl _
    · refine Nat.le_trans (ih (by omega)) ?_
      by_cases e : ks k = .none
      · rw [kstT_no e]; exact Nat.le_refl _
      · rw [kstT_yes e]; show _ ≤ ((kstT ks b k).2 ++ ndT (ks k) _).length; rw [List.length_append]; omega
theorem kstT_none {b : Nat} : ∀ h, kstT (fun _ => .none) b h = (no16, [])
  | 0 => rfl
  | h + 1 => by rw [kstT_no rfl]; exact kstT_none h
theorem kstT_one {k : Tr} (hk : k ≠ .none) {b : Nat} : ∀ h, kstT (one 0 k) b (h + 1) = (no16.set 0 (b : Int), ndT k b)
  | 0 => by
    rw [kstT_yes (by show (if 0 = 0 then k else .none) ≠ _; rw [if_pos rfl]; exact hk)]
    rw [kstT_zero]
    show (no16.set 0 ((b + 0 : Nat) : Int), [] ++ ndT (if 0 = 0 then k else .none) (b + 0)) = _
    rw [if_pos rfl]; rfl
  | h + 1 => by
    rw [kstT_no (by show (if h + 1 = 0 then k else .none) = _; rw [if_neg (by omega)])]
    exact kstT_one hk h
theorem isBr_no {k : Tr} (h : isBr k) : k ≠ .none := by rintro rfl; exact h
/-- All that a tree has is short. -/
def Vals (T : Tr) : Prop := ∀ x v, lookT T x = some v → v.length ≤ 4000
/-- A node in no order, its children, and the nodes that it makes in order. -/
theorem rep_node {d : List Nd} {A : List Bt} (hD : Dk d) {T : Tr} {a : Nat} {q : Bt} (hR : Rep d A T a q) (hN : NF T) (hV : Vals T) (b : Nat) : ∃ n, d[a]? = some n ∧ n ≠ noNd ∧ n.kids.length = 16 ∧ n.path.length ≤ 4000 ∧ n.val.length ≤ 4000 ∧
    (∀ c, c < 16 → (subT T c = .none ∧ n.kids[c]? = some 0) ∨ (subT T c ≠ .none ∧ ∃ j : Nat, j ≠ 0 ∧ n.kids[c]? = some (j : Int) ∧ ∃ q', Rep d A (subT T c) j q' ∧ NF (subT T c) ∧ Vals (subT T c))) ∧
    ndT T b = {n with kids := (kstT (subT T) (b + 1) 16).1} :: (kstT (subT T) (b + 1) 16).2 := by
  cases T with
  | none => exact hR.elim
  | hole => exact hN.elim
  | leaf p v =>
    have hk := hD _ (List.mem_of_getElem? hR.2)
    refine ⟨leafN p v, hR.2, fun e => absurd (congrArg Nd.kind e) (by show ¬ (1 : Int) = 0; decide), hk.1, hk.2.2, hV p v (by show (if p = p then _ else _) = _; rw [if_pos rfl]), fun c hc => .inl ⟨rfl, no16_get hc⟩, ?_⟩
    rw [show subT (.leaf p v) = fun _ => .none from rfl, kstT_none]; rfl
  | ext p k =>
    obtain ⟨_, j, j0, h3, hk⟩ := hR
    have hkd := hD _ (List.mem_of_getElem? h3)
    have hkn := isBr_no hN.2.2.1
    refine ⟨extN p (j : Int), h3, fun e => absurd (congrArg Nd.kind e) (by show ¬ (2 : Int) = 0; decide), hkd.1, hkd.2.2, Nat.zero_le _, fun c hc => ?_, ?_⟩
    · show (one 0 k c = _ ∧ _) ∨ (one 0 k c ≠ _ ∧ _)
      by_cases e : c = 0
      · subst e
        have e0 : one 0 k 0 = k := if_pos rfl
        rw [show subT (.ext p k) 0 = one 0 k 0 from rfl, e0]
        exact .inr ⟨hkn, j, j0, by simp [extN, no16], _, hk, hN.2.2.2, fun x v hx => hV (p ++ x) v (by rw [lookE]; exact hx)⟩
      · exact .inl ⟨if_neg e, by show (no16.set 0 (j : Int))[c]? = _; rw [List.getElem?_set_ne (Ne.symm e)]; exact no16_get hc⟩
    · rw [show subT (.ext p k) = one 0 k from rfl, kstT_one hkn 15]
      show extN p ((b + 1 : Nat) : Int) :: (nodesT k (b + 1) ([] ++ p)).map (·.1) = _
      rw [nd_nodes]; rfl
  | br h v ks =>
    obtain ⟨_, kk, hl, h3, hk⟩ := hR
    have hkd := hD _ (List.mem_of_getElem? h3)
    refine ⟨brN h v kk, h3, fun e => absurd (congrArg Nd.kind e) (by show ¬ (3 : Int) = 0; decide), hkd.1, hkd.2.2, ?_, fun c hc => ?_, ?_⟩
    · show v.length ≤ 4000
      cases h with
      | false => rw [hN.1 rfl]; exact Nat.zero_le _
      | true => exact hV [] v rfl
    · rcases hk c hc with ⟨e1, e2⟩ | ⟨j, j0, j1, j2⟩
      · exact .inl ⟨e1, e2⟩
      · have hn : ks c ≠ .none := by intro e; rw [e] at j2; exact j2
        exact .inr ⟨hn, j, j0, j1, _, j2, (hN.2.2.1 c).resolve_left hn, fun x w hx => hV (UInt8.ofNat c :: x) w (by rw [lookB_cons, u8_nat hc]; exact hx)⟩
    · have h1 := kids_lay (G := fun c => nodesT (ks c)) (fun c => isNo (ks c)) (b + 1) [] (fun c b q' => nd_nodes (ks c) b q') 16
      show brN h v _ :: _ = _
      rw [h1.1]
      congr 1
      exact h1.2
theorem ndT_len {T : Tr} {d : List Nd} {A : List Bt} {a : Nat} {q : Bt} (hD : Dk d) (hR : Rep d A T a q) (hN : NF T) (hV : Vals T) (b : Nat) : (ndT T b).length = 1 + (kstT (subT T) (b + 1) 16).2.length := by
  obtain ⟨_, _, _, _, _, _, _, e⟩ := rep_node hD hR hN hV b
  rw [e, List.length_cons]; omega
/-- The nodes of pairs' tree. -/
theorem ndT_tree {l : List Pr} (h : mayB l = true) : ndT (treeL l) 0 = buildN l := by
  unfold ndT buildN
  rw [treeL_nodes h]
theorem vals_tree {l : List Pr} (h : mayB l = true) : Vals (treeL l) := fun x v hx => by
  obtain ⟨p, hp, _, e⟩ := (treeL_look h x v).1 hx
  have := (okP_key p ((mayB_rise l h).2 p hp)).2.2
  rw [← e]; omega
end Go.Proofs.YtjpjcojabjkaaaaDoor
namespace Go.Proofs.YtjpjcojabjkaaaaDoor
open Go.RowKit
set_option maxRecDepth 20000
set_option linter.unusedVariables false

theorem built55_0 : Tryd.prog.built 55 [] = some (ndA noNd) := by kernel_rfl
theorem leaf_any (p v : Bt) (w : World) : Calls Tryd.prog 39 #[.string (bs p), .string (bs v)] w fun e w' => e = .returned (.agg (ndA (leafN p v))) ∧ New w w' := by
  have hb := built49_leaf (bs p) (bs v)
  go_enter Tryd.func39, Tryd.ntmps39
  go_wp2_with (first
    | (refine wpList_alloc_at (by rfl) 4 (by rfl) 55 (by rfl) _ _ _ info49 ?_; intro W1 R1 N1)
    | refine wpList_build4 (by rfl) 55 _ _ _ _ (by rfl) _ _ _ _ (by rfl) (by rfl) (by rfl) (by rfl) _ hb ?_
    | (refine wpList_store_new (by rfl) 55 _ _ (by rfl) w.heap.size (ndA (leafN p v)) (by rfl) (by rfl) 55 _ R1 (by exact i49) rfl (ndA_all _) ?_; intro W2 R2 B2; have N2 : New w W2 := B2.new N1 (Nat.le_refl _)))
  exact bodyPost_ret (results_cell_row rfl _ _ w.heap.size 55 (ndA (leafN p v)) (0, 0) _ rfl R2 Tryd.underlying55 rfl i49) rfl ⟨rfl, N2⟩

theorem nds_len {d : List Nd} (h : ∀ n ∈ d, n.kids.length = 16) : ∀ e ∈ d.map ndC, e.length = 20 := fun e he => by
  obtain ⟨n, hn, rfl⟩ := List.mem_map.1 he
  exact ndC_len (h n hn)
theorem nds_one (d : List Nd) : ∀ e ∈ d.map ndC, ∀ u ∈ e, u.oneCell' = true := fun e he => by
  obtain ⟨n, _, rfl⟩ := List.mem_map.1 he
  exact ndC_one n
theorem nil_no (g o n c : Nat) (w : World) : (binOp .eql 60 (.slice (some ⟨g, o, none⟩) n c) (.slice none 0 0)).run Tryd.prog w = .ok (.bool false) w := by rfl
theorem cloned_any {w : World} {v : Value} {t : List Nd} (P : Ls w 20 v (t.map ndC)) (h16 : ∀ n ∈ t, n.kids.length = 16) (h0 : 0 < t.length) (hl : t.length ≤ 1000000) :
    Calls Tryd.prog 38 #[v] w fun e w' => ∃ v', e = .returned v' ∧ Pl w' (Fresh w) 55 20 v' (t.map ndC) ∧ New w w' := by
  have HP : Hid (Ls w 20 v (t.map ndC)) := P
  obtain ⟨g, o, c, rfl, _⟩ := P.full (by rw [List.length_map]; exact h0)
  have hb := fun W => run_buildNone W 60 55 _ _ _ Tryd.underlying60 info49
  have H16 : Hid (∀ n ∈ t, n.kids.length = 16) := h16
  rw [List.length_map] at HP ⊢
  clear P h16
  go_enter Tryd.func38, Tryd.ntmps38
  go_wp2_with fail
  rw [nil_no]
  go_wp2_with (obtain ⟨v', w', hr, hp, hn, _⟩ := run_copy_ls (w := w) (w1 := w.alloc (.cells #[] 55)) 60 55 60 20 _ _ Tryd.underlying60 info49 rfl (by decide) (by decide) HP.out (nds_len H16.out) (nds_one t) (by rw [List.length_map]; exact h0) (by rw [List.length_map]; exact hl) (Row.new w #[] 55) ((New.refl w).alloc _) (Nat.le_refl _); refine wpList_appends (by rfl) _ _ 60 60 _ _ v' w' (by rfl) (by rfl) (by rfl) (by rfl) hr ?_)
  go_ret
  exact ⟨_, rfl, hp, hn⟩
theorem open_any {w : World} {v : Value} {t : List Nd} (P : Ls w 20 v (t.map ndC)) (h16 : ∀ n ∈ t, n.kids.length = 16) (hl : t.length ≤ 10000) :
    Calls Tryd.prog 24 #[v] w fun e w' => ∃ v', e = .returned v' ∧ Pl w' (Fresh w) 55 20 v' ((openN t).map ndC) ∧ New w w' := by
  by_cases h0 : 0 < t.length
  · have hc := cloned_any P h16 h0 (by omega)
    obtain ⟨a, c, rfl⟩ := P.size
    rw [List.length_map] at hc ⊢
    have hn : ((t.length : Int) == 0) = false := by rw [beq_eq_false_iff_ne]; omega
    have ho : openN t = t := by unfold openN; rw [if_neg (by rintro rfl; simp at h0)]
    rw [ho]
    clear P ho
    go_enter Tryd.func24, Tryd.ntmps24
    go_wp2_with fail
    refine Calls.mono hc ?_
    rintro _ W ⟨v', rfl, HP, HN⟩
    clear hc
    go_wp2_with fail
    go_ret
    exact ⟨_, rfl, HP, HN⟩
  · have e : t = [] := List.eq_nil_of_length_eq_zero (by omega)
    subst e
    obtain ⟨a, c, rfl⟩ := P.size
    rw [show ([].map ndC : List (List Value)).length = 0 from rfl]
    clear P
    go_enter Tryd.func24, Tryd.ntmps24
    go_wp2_with (first
      | refine wpList_build0 (by rfl) 55 (by rfl) _ built55_0 ?_
      | (refine wpList_build_one (by rfl) 60 _ (by rfl) Tryd.underlying60 _ _ info49 (ndA noNd) (by rfl) rfl (by decide) (by decide) ?_; intro W4 R4 N4))
    go_ret
    refine ⟨_, rfl, ?_, N4⟩
    exact Pl.make (es := [ndC noNd]) (fun e he => by rw [List.mem_singleton.1 he]; rfl) R4 (Nat.le_refl _) (by decide) rfl rfl (Nat.le_refl _)
end Go.Proofs.YtjpjcojabjkaaaaDoor
namespace Go.Proofs.YtjpjcojabjkaaaaDoor
open Go.RowKit
set_option maxRecDepth 20000
set_option linter.unusedVariables false

theorem map_at {d : List Nd} {a : Nat} {n : Nd} (h : d[a]? = some n) : (d.map ndC)[a]? = some (ndC n) := by rw [List.getElem?_map, h]; rfl
theorem u8_ix (c : Nat) : (Value.int .u8 (c : Int)) = .int .u8 (c : Int) := rfl
set_option maxHeartbeats 1000000 in
theorem kid_any {w : World} {F : Nat → Prop} {v : Value} {d : List Nd} (Q : Pl w F 55 20 v (d.map ndC)) (K : Dk d) (hl : d.length ≤ 900000) {a : Nat} {n : Nd} (hn : d[a]? = some n) {c : Nat} (hc : c < 16) :
    Calls Tryd.prog 40 #[v, .int .i64 (a : Int), .int .u8 (c : Int)] w fun e w' => ∃ v' F', e = .returned v' ∧ Pl w' F' 55 20 v' ((kidD d a n c).map ndC) ∧ Step F F' w w' := by
  have ha := (List.getElem?_eq_some_iff.1 hn).1
  have hk16 := (K n (List.mem_of_getElem? hn)).1
  obtain ⟨z, hz⟩ : ∃ z, n.kids[c]? = some z := ⟨_, List.getElem?_eq_getElem (by omega)⟩
  have hzd : n.kids.getD c 0 = z := by rw [List.getD_eq_getElem?_getD, hz]; rfl
  obtain ⟨g, cap, rfl, hFg, hg, hcap⟩ := Q.full (by rw [List.length_map]; omega)
  rw [List.length_map] at hcap Q ⊢
  obtain ⟨cc, ff⟩ := Q.cellAt (map_at hn) (kids_get hz)
  rw [← Nat.add_assoc] at cc ff
  have hal : (a : Int) < (d.length : Int) := by omega
  have hc16 : (c : Int) < 16 := by omega
  by_cases h0 : z = 0
  · subst h0
    have HD : Hid ((kidD d a n c).map ndC = (d.map ndC).set a ((ndC n).set (4 + c) (.int .i64 (d.length : Int))) ++ [ndC noNd]) := by
      show _ = _
      unfold kidD
      rw [if_neg (fun h => h hzd), List.map_append, List.map_set, ← kids_set n.kids c (d.length : Int) n rfl]
      rfl
    have Q9 := Q.setCell (map_at hn) (j := 4 + c) (by omega) (.int .i64 (d.length : Int))
    rw [← Nat.add_assoc] at Q9
    have HS : Hid (Step F F w (w.setCell ⟨g, a * 20 + 4 + c, none⟩ (.int .i64 (d.length : Int)))) := Step.setCell w hFg _
    have hll : ((d.map ndC).set a ((ndC n).set (4 + c) (.int .i64 (d.length : Int)))).length = d.length := by rw [List.length_set, List.length_map]
    have HL : Hid (((d.map ndC).set a ((ndC n).set (4 + c) (.int .i64 (d.length : Int)))).length = d.length) := hll
    generalize (d.map ndC).set a ((ndC n).set (4 + c) (.int .i64 (d.length : Int))) = es at Q9 HL HD hll
    have HQ : Hid (Pl (w.setCell ⟨g, a * 20 + 4 + c, none⟩ (.int .i64 (d.length : Int))) F 55 20 (.slice (some ⟨g, 0, none⟩) d.length cap) es) := Q9
    clear Q Q9 hz hzd hk16 K hn hll
    go_enter Tryd.func40, Tryd.ntmps40
    go_wp2_with (first
      | refine wpList_build0 (by rfl) 55 (by rfl) _ built55_0 ?_
      | (refine wpList_build_one (by rfl) 60 _ (by rfl) Tryd.underlying60 _ _ info49 (ndA noNd) (by rfl) rfl (by decide) (by decide) ?_; intro W4 R4 N4; have Q4 := HQ.out.after N4)
      | (refine wpList_append_pl Q4 (by rfl) _ _ 60 (by rfl) Tryd.underlying60 _ _ info49 rfl (by decide) _ (ndC noNd) 55 R4 rfl (ndC_one _) (by rw [HL.out]; omega) (by decide) (by rfl) (by rfl) ?_; intro g5 c5 W5 Q5 G5))
    go_ret
    refine ⟨_, _, rfl, by rw [HD.out]; exact Q5, ?_⟩
    exact ((HS.out.trans (Step.new N4)).trans (Step.grown G5 (fun k hk => HQ.out.foot k hk))).wide fun k hk => hk.imp id fun h => Nat.le_trans (HS.out.trans (Step.new N4)).size h
  · have HD : Hid (kidD d a n c = d) := by
      show _ = _
      unfold kidD
      rw [if_pos (by rw [hzd]; exact h0)]
    have HQ : Hid (Pl w F 55 20 (.slice (some ⟨g, 0, none⟩) d.length cap) (d.map ndC)) := Q
    have hzb : (z == 0) = false := by rw [beq_eq_false_iff_ne]; exact h0
    clear Q hz hzd hk16 K hn h0
    go_enter Tryd.func40, Tryd.ntmps40
    go_wp2_with fail
    go_ret
    refine ⟨_, F, rfl, by rw [HD.out]; exact HQ.out, Step.refl _ _⟩
end Go.Proofs.YtjpjcojabjkaaaaDoor
namespace Go.Proofs.YtjpjcojabjkaaaaDoor
open Go.RowKit
set_option maxRecDepth 20000
set_option linter.unusedVariables false

/-- One block alone. -/
def At (g : Nat) : Nat → Prop := fun b => b = g
theorem Pl.at {w : World} {F : Nat → Prop} {t : TypeId} {k g n c : Nat} {es : List (List Value)} (h : Pl w F t k (.slice (some ⟨g, 0, none⟩) n c) es) : Pl w (At g) t k (.slice (some ⟨g, 0, none⟩) n c) es := ⟨h.each, h.own, fun b hb => by cases hb; rfl⟩
theorem Step.more {F G F' : Nat → Prop} {w w' : World} (h : Step F F' w w') (hG : ∀ k, F k → G k) : Step G F' w w' := ⟨h.os, h.tape, h.output, h.size, fun k hk hn => h.block k hk fun x => hn (hG k x), fun k hk => (h.foot k hk).imp (hG k) id⟩
theorem Step.setNew {F F' : Nat → Prop} {w w' : World} (h : Step F F' w w') {a : Addr} (ha : w.heap.size ≤ a.block) (v : Value) : Step F F' w (w'.setCell a v) :=
  ⟨h.os, h.tape, h.output, by simpa [World.setCell] using h.size, fun k hk hn => (Below.heap_setCell _ _ _ _ (by omega)).trans (h.block k hk hn), h.foot⟩
theorem tail_bs' (r : Bt) (n : Nat) : (bs r).extract n (bs r).size = bs (r.drop n) := by
  apply eq_of_L
  rw [L_extract, L_bs, L_bs, bs_size, List.take_length]
theorem head_bs (r : Bt) (n : Nat) : (bs r).extract 0 n = bs (r.take n) := by
  apply eq_of_L
  rw [L_extract, L_bs, L_bs, List.drop_zero]
theorem empty_bs (r : Bt) : (bs r).toList.isEmpty = r.isEmpty := by
  rw [toList_L, L_bs]
theorem built55_e (p : Bt) (x : Int) : Tryd.prog.built 55 [(0, .int .i64 2), (1, .string (bs p)), (4, .agg #[.int .i64 x, .int .i64 0, .int .i64 0, .int .i64 0, .int .i64 0, .int .i64 0, .int .i64 0, .int .i64 0, .int .i64 0, .int .i64 0, .int .i64 0, .int .i64 0, .int .i64 0, .int .i64 0, .int .i64 0, .int .i64 0])] = some (ndA (extN p x)) := built49_ext (bs p) x
theorem ndsz {n : Nd} (h : n.kids.length = 16) : (Tryd.prog.info? 55).map (·.size) = some (ndC n).length := by rw [ndC_len h]; exact i49
theorem ndszA {n : Nd} (h : n.kids.length = 16) : (Tryd.prog.info? 55).map (·.size) = some (ndA n).size := by rw [ndA_size h]; exact i49
end Go.Proofs.YtjpjcojabjkaaaaDoor
namespace Go.Proofs.YtjpjcojabjkaaaaDoor
open Go.RowKit
set_option maxRecDepth 20000
set_option linter.unusedVariables false

set_option maxHeartbeats 4000000 in
theorem part_0A {w : World} {g cap : Nat} {d : List Nd} {n : Nd} {D : Nat} (Q : Pl w (At g) 55 20 (.slice (some ⟨g, 0, none⟩) D cap) (d.map ndC)) (hg : g < w.heap.size) (hk : n.kids.length = 16) (hD : d.length = D) (hl : D ≤ 900000) {a : Nat} (hn : d[a]? = some n) {m : Nat} (hm : m ≤ n.path.length) (hp : n.path.length ≤ 4000) (h0 : m = 0)
    (hd : n.path.drop m = []) :
    Calls Tryd.prog 42 #[.slice (some ⟨g, 0, none⟩) D cap, .int .i64 (a : Int), .int .i64 (m : Int)] w fun e w' => ∃ v' F', e = .returned v' ∧ Pl w' F' 55 20 v' ((partD d a n m).map ndC) ∧ Step (At g) F' w w' := by
  have ha : a < D := by rw [← hD]; exact (List.getElem?_eq_some_iff.1 hn).1
  have hFg : At g g := rfl
  have hal : (a : Int) < (D : Int) := by omega
  have hal0 : (0 : Int) ≤ (a : Int) := by omega
  have hms : (m : Int) ≤ ((bs n.path).size : Int) := by rw [bs_size]; omega
  have hm0 : (0 : Int) ≤ (m : Int) := by omega
  have hmn : m ≤ (bs n.path).size := by rw [bs_size]; omega
  have e1 : (bs n.path).extract m (bs n.path).size = bs (n.path.drop m) := tail_bs' _ _
  have e2 : (bs n.path).extract 0 m = bs (n.path.take m) := head_bs _ _
  have HN := map_at hn
  have HDl : Hid (d.length = D) := hD
  have H0 : Hid (m = 0) := h0
  have HK : Hid (n.kids.length = 16) := hk
  obtain ⟨up, hup⟩ : ∃ x, bs (n.path.take m) = x := ⟨_, rfl⟩
  obtain ⟨rs, hrs⟩ : ∃ x, bs (n.path.drop m) = x := ⟨_, rfl⟩
  have e3 : up.toList.isEmpty = true := by rw [← hup, empty_bs, h0]; rfl
  rw [hup] at e2
  rw [hrs] at e1
  have e4 : rs.toList.isEmpty = true := by rw [← hrs, empty_bs, hd]; rfl
  have HD0 : Hid (n.path.drop m = []) := hd
  clear hd
  have HUP : Hid (bs (n.path.take m) = up) := hup
  have HRS : Hid (bs (n.path.drop m) = rs) := hrs
  have HQ : Hid (Pl w (At g) 55 20 (.slice (some ⟨g, 0, none⟩) D cap) (d.map ndC)) := Q
  have hnb : w.heap.size ≠ g := by omega
  clear Q hn hD h0 hup hrs hp hm
  go_enter Tryd.func42, Tryd.ntmps42
  go_wp2_with (first
    | refine wpList_load_pl (by rfl) 55 _ (by rfl) (At g) 55 20 g D cap a _ (ndC n) _ HQ.out HN (by rfl) Tryd.underlying55 rfl (ndsz hk) ?_
    | (refine wpList_alloc_at (by rfl) 7 (by rfl) 55 (by rfl) _ _ _ info49 ?_; intro W1 R1 N1)
    | (refine wpList_store_new (by rfl) 55 _ _ (by rfl) w.heap.size (ndA n) (by rfl) (by rfl) 55 _ R1 (ndszA hk) (by rw [ndA_size hk]; rfl) (ndA_all _) ?_; intro W2 R2 B2; have N2 : New w W2 := B2.new N1 (Nat.le_refl _); have y1 := R2.has 1 (v := .string (bs n.path)) rfl))
  have q1 := NewW.cell y1
  have hne := NewW.ne W2
  simp only [Act.put, List.setIfInBounds_toArray, List.set_cons_zero, List.set_cons_succ]
  refine region_new W2 (New.refl W2) (by kernel_rfl) (by kernel_rfl) ?_
  repeat (go_big_quiet_step (fail))
  refine wpQuiet_nil ?_
  rintro W3 ⟨⟨_, k3⟩, rfl⟩
  have N3 : New w W3 := N2.trans k3
  have R3 := R2.after k3
  have Q3 := HQ.out.after N3
  have hnb3 : w.heap.size < W3.heap.size := R3.lt
  obtain ⟨nb, hnbe⟩ : ∃ x, w.heap.size = x := ⟨_, rfl⟩
  rw [hnbe] at R3 hnb hnb3 ⊢
  clear q1 hne y1 R1 N1 B2 R2 k3 N2 HN hms e1 e2 hm0 hmn
  have Q6 := Q3
  have R6 := R3
  have HS6 : Hid (Step (At g) (At g) w W3) := Step.new N3
  have HX : Hid (partM d a n m = (d, a)) := by show _ = _; unfold partM; rw [if_pos H0.out]
  have HFN : Hid (∀ b, At g b → b ≠ nb) := fun b hb e => hnb (e.symm.trans hb)
  go_wp2_with (first
    | refine wpList_build1 (by rfl) 55 _ (by rfl) _ (by rfl) _ built49_br ?_
    | (refine wpList_store_pl (by rfl) 55 _ _ (by rfl) (At g) 55 20 g D cap a (d.map ndC) (ndC (brN false [] no16)) Q6 (by rw [List.length_map, HDl.out]; exact ha) (by rfl) (by rfl) rfl (by rw [i49]; rfl) (ndC_one _) ?_; intro W7 Q7 B7; rw [← List.map_set] at Q7; have R7 := R6.but B7 hnb; have HS7 : Hid (Step (At g) (At g) w W7) := HS6.out.trans (B7.step hFg); have HE7 : (d.set a (brN false [] no16))[a]? = some (brN false [] no16) := List.getElem?_set_self (by have := HDl.out; omega); have y0 := R7.has 0 (v := .int .i64 n.kind) rfl; clear HS6 R6))
  have y3 := R7.has 3 (v := .string (bs n.val)) rfl
  have hS : HasL [(nb, 3, .string (bs n.val))] W7.drew := HasL.of fun x hx => by
    simp only [List.mem_cons, List.not_mem_nil, or_false] at hx
    subst hx
    exact (R7.after (New.drew W7)).has 3 rfl
  have hbLn : a < D := by first | omega | exact ha
  refine region_take [0, 1, 2, 3, 4, 5, 6, 7] [8, 9, 10] 11 (HasL [(nb, 3, .string (bs n.val))]) hS (by kernel_rfl) (by kernel_rfl) (fun d _ _ _ _ h => by cases d <;> exact h) ?_
  simp only [pick, List.getElem?_cons_succ, List.getElem?_cons_zero, Option.toList_some, List.cons_append, List.nil_append]
  have hne : Nonempty (CsW [(nb, 3, .string (bs n.val))]) := ⟨hS.choose⟩
  have q0 : ∀ q : CsW [(nb, 3, .string (bs n.val))], q.v.cell? ⟨nb, 3, none⟩ = some (.string (bs n.val)) := fun q => q.h (nb, 3, .string (bs n.val)) (by simp)
  unfold HasL
  repeat (go_big_quiet_step (fail))
  refine wpQuiet_nil ?_
  clear hne q0 y3
  have QD := Q7.after (New.drew W7)
  obtain ⟨c2, f2⟩ := QD.cellAt (map_at HE7) (j := 2) (u := .bool false) rfl
  have Q8 := QD.setCell (map_at HE7) (j := 2) (by decide) (.bool true)
  rw [show (ndC (brN false [] no16)).set 2 (.bool true) = ndC (brN true [] no16) from rfl, ← List.map_set, List.set_set] at Q8
  have hS8 := hS.set (a := ⟨g, a * 20 + 2, none⟩) (.bool true) (fun x hx => by
    simp only [List.mem_cons, List.not_mem_nil, or_false] at hx
    subst hx
    exact hnb)
  refine wpPre_skip none (W7.drew.setCell ⟨g, a * 20 + 2, none⟩ (.bool true)) (by rfl) (by rfl) (by rfl) (exec_store_bool (u := .bool false) (by rfl) (by rfl) (by rfl) c2 f2) hS8 ?_
  simp only [Act.put]
  refine wpPre_run (some 69) (.pointer (some ⟨g, a * 20, none⟩)) _ (by rfl) (by rfl) (by rfl) (by go_simp) hS8 ?_
  simp only [Act.put, List.setIfInBounds_toArray, List.set_cons_zero, List.set_cons_succ]
  refine wpPre_run (some 70) (.pointer (some ⟨g, a * 20 + 3, none⟩)) _ (by rfl) (by rfl) (by rfl) (by go_simp) hS8 ?_
  simp only [Act.put, List.setIfInBounds_toArray, List.set_cons_zero, List.set_cons_succ]
  refine wpPre_nil ?_
  have HE8 : (d.set a (brN true [] no16))[a]? = some (brN true [] no16) := List.getElem?_set_self (by have := HDl.out; omega)
  obtain ⟨c3, f3⟩ := Q8.cellAt (map_at HE8) (j := 3) (u := .string (bs [])) rfl
  have Q9 := Q8.setCell (map_at HE8) (j := 3) (by decide) (.string (bs n.val))
  rw [show (ndC (brN true [] no16)).set 3 (.string (bs n.val)) = ndC (brN true n.val no16) from rfl, ← List.map_set, List.set_set] at Q9
  have S9 : Step (At g) (At g) w ((W7.drew.setCell ⟨g, a * 20 + 2, none⟩ (.bool true)).setCell ⟨g, a * 20 + 3, none⟩ (.string (bs n.val))) := ((HS7.out.trans (Step.new (New.drew W7))).trans (Step.setCell (a := ⟨g, a * 20 + 2, none⟩) _ hFg _)).trans (Step.setCell (a := ⟨g, a * 20 + 3, none⟩) _ hFg _)
  have HS9 : Hid (Step (At g) (At g) w _) := S9
  have HF9 : Hid (partD d a n m = d.set a (brN true n.val no16)) := by
    show _ = _
    unfold partD
    rw [HX.out]
    unfold partN
    rw [HD0.out]
  have HQ9 : Hid (Pl _ (At g) 55 20 _ _) := Q9
  clear Q9 Q8 S9 QD Q7 HS7 c2 f2 hS hS8 HE7 HE8 R7 B7
  generalize W7.drew.setCell ⟨g, a * 20 + 2, none⟩ (.bool true) = W8 at c3 f3 HQ9 HS9 ⊢
  go_wp2_with fail
  go_ret
  refine ⟨_, (At g), rfl, ?_, HS9.out⟩
  rw [HF9.out]; exact HQ9.out
end Go.Proofs.YtjpjcojabjkaaaaDoor
namespace Go.Proofs.YtjpjcojabjkaaaaDoor
open Go.RowKit
set_option maxRecDepth 20000
set_option linter.unusedVariables false

set_option maxHeartbeats 4000000 in
theorem part_0B {w : World} {g cap : Nat} {d : List Nd} {n : Nd} {D : Nat} (Q : Pl w (At g) 55 20 (.slice (some ⟨g, 0, none⟩) D cap) (d.map ndC)) (hg : g < w.heap.size) (hk : n.kids.length = 16) (hD : d.length = D) (hl : D ≤ 900000) {a : Nat} (hn : d[a]? = some n) {m : Nat} (hm : m ≤ n.path.length) (hp : n.path.length ≤ 4000) (h0 : m = 0)
    {c : UInt8} {r : Bt} (hd : n.path.drop m = c :: r) (hc : c.toNat < 16) (hk2 : n.kind = 2) (hr : r = []) :
    Calls Tryd.prog 42 #[.slice (some ⟨g, 0, none⟩) D cap, .int .i64 (a : Int), .int .i64 (m : Int)] w fun e w' => ∃ v' F', e = .returned v' ∧ Pl w' F' 55 20 v' ((partD d a n m).map ndC) ∧ Step (At g) F' w w' := by
  have ha : a < D := by rw [← hD]; exact (List.getElem?_eq_some_iff.1 hn).1
  have hFg : At g g := rfl
  have hal : (a : Int) < (D : Int) := by omega
  have hal0 : (0 : Int) ≤ (a : Int) := by omega
  have hms : (m : Int) ≤ ((bs n.path).size : Int) := by rw [bs_size]; omega
  have hm0 : (0 : Int) ≤ (m : Int) := by omega
  have hmn : m ≤ (bs n.path).size := by rw [bs_size]; omega
  have e1 : (bs n.path).extract m (bs n.path).size = bs (n.path.drop m) := tail_bs' _ _
  have e2 : (bs n.path).extract 0 m = bs (n.path.take m) := head_bs _ _
  have HN := map_at hn
  have HDl : Hid (d.length = D) := hD
  have H0 : Hid (m = 0) := h0
  have HK : Hid (n.kids.length = 16) := hk
  obtain ⟨up, hup⟩ : ∃ x, bs (n.path.take m) = x := ⟨_, rfl⟩
  obtain ⟨rs, hrs⟩ : ∃ x, bs (n.path.drop m) = x := ⟨_, rfl⟩
  have e3 : up.toList.isEmpty = true := by rw [← hup, empty_bs, h0]; rfl
  rw [hup] at e2
  rw [hrs] at e1
  have e4 : rs.toList.isEmpty = false := by rw [← hrs, empty_bs, hd]; rfl
  have HD0 : Hid (n.path.drop m = c :: r) := hd
  have hrsz : rs.size = r.length + 1 := by rw [← hrs, bs_size, hd]; rfl
  have HSZ : Hid (rs.size = r.length + 1) := hrsz
  have hrs0 : 0 < rs.size := by omega
  have hrs0i : (0 : Int) < (rs.size : Int) := by omega
  have hix : rs[0]'hrs0 = c := by
    subst hrs
    simp only [hd]; rfl
  have hci : (c.toNat : Int) < 16 := by omega
  have hci0 : (0 : Int) ≤ (c.toNat : Int) := by omega
  have hrs1 : rs.extract 1 rs.size = bs r := by rw [← hrs, tail_bs', hd]; rfl
  have hrs1i : (1 : Int) ≤ (rs.size : Int) := by omega
  have hrs1n : 1 ≤ rs.size := by omega
  have e5 : ((rs.size : Int) == 1) = true := by rw [hrsz, hr]; rfl
  have e6 : (n.kind == 2) = true := by rw [hk2]; rfl
  have HK2 : Hid (n.kind = 2) := hk2
  have HR : Hid (r = []) := hr
  obtain ⟨k0, hk0⟩ : ∃ z, n.kids[0]? = some z := ⟨_, List.getElem?_eq_getElem (by omega)⟩
  have HK0 : Hid (n.kids[0]? = some k0) := hk0
  clear hk2 hr hk0
  clear hrsz hd
  have HUP : Hid (bs (n.path.take m) = up) := hup
  have HRS : Hid (bs (n.path.drop m) = rs) := hrs
  have HQ : Hid (Pl w (At g) 55 20 (.slice (some ⟨g, 0, none⟩) D cap) (d.map ndC)) := Q
  have hnb : w.heap.size ≠ g := by omega
  clear Q hn hD h0 hup hrs hp hm
  go_enter Tryd.func42, Tryd.ntmps42
  go_wp2_with (first
    | refine wpList_load_pl (by rfl) 55 _ (by rfl) (At g) 55 20 g D cap a _ (ndC n) _ HQ.out HN (by rfl) Tryd.underlying55 rfl (ndsz hk) ?_
    | (refine wpList_alloc_at (by rfl) 7 (by rfl) 55 (by rfl) _ _ _ info49 ?_; intro W1 R1 N1)
    | (refine wpList_store_new (by rfl) 55 _ _ (by rfl) w.heap.size (ndA n) (by rfl) (by rfl) 55 _ R1 (ndszA hk) (by rw [ndA_size hk]; rfl) (ndA_all _) ?_; intro W2 R2 B2; have N2 : New w W2 := B2.new N1 (Nat.le_refl _); have y1 := R2.has 1 (v := .string (bs n.path)) rfl))
  have q1 := NewW.cell y1
  have hne := NewW.ne W2
  simp only [Act.put, List.setIfInBounds_toArray, List.set_cons_zero, List.set_cons_succ]
  refine region_new W2 (New.refl W2) (by kernel_rfl) (by kernel_rfl) ?_
  repeat (go_big_quiet_step (fail))
  refine wpQuiet_nil ?_
  rintro W3 ⟨⟨_, k3⟩, rfl⟩
  have N3 : New w W3 := N2.trans k3
  have R3 := R2.after k3
  have Q3 := HQ.out.after N3
  have hnb3 : w.heap.size < W3.heap.size := R3.lt
  obtain ⟨nb, hnbe⟩ : ∃ x, w.heap.size = x := ⟨_, rfl⟩
  rw [hnbe] at R3 hnb hnb3 ⊢
  clear q1 hne y1 R1 N1 B2 R2 k3 N2 HN hms e1 e2 hm0 hmn
  have Q6 := Q3
  have R6 := R3
  have HS6 : Hid (Step (At g) (At g) w W3) := Step.new N3
  have HX : Hid (partM d a n m = (d, a)) := by show _ = _; unfold partM; rw [if_pos H0.out]
  have HFN : Hid (∀ b, At g b → b ≠ nb) := fun b hb e => hnb (e.symm.trans hb)
  go_wp2_with (first
    | refine wpList_build1 (by rfl) 55 _ (by rfl) _ (by rfl) _ built49_br ?_
    | (refine wpList_store_pl (by rfl) 55 _ _ (by rfl) (At g) 55 20 g D cap a (d.map ndC) (ndC (brN false [] no16)) Q6 (by rw [List.length_map, HDl.out]; exact ha) (by rfl) (by rfl) rfl (by rw [i49]; rfl) (ndC_one _) ?_; intro W7 Q7 B7; rw [← List.map_set] at Q7; have R7 := R6.but B7 hnb; have HS7 : Hid (Step (At g) (At g) w W7) := HS6.out.trans (B7.step hFg); have HE7 : (d.set a (brN false [] no16))[a]? = some (brN false [] no16) := List.getElem?_set_self (by have := HDl.out; omega); have y0 := R7.has 0 (v := .int .i64 n.kind) rfl; clear HS6 R6))
  have y4 := R7.has 4 (v := .int .i64 k0) (by unfold ndA; rw [List.getElem?_toArray]; exact kids_get (c := 0) HK0.out)
  have hbLn : a < D := by first | omega | exact ha
  have q4 := NewW.cell y4
  have hne := NewW.ne W7
  refine region_first 10 1 W7 (New.refl W7) (by kernel_rfl) (by kernel_rfl) ?_
  simp only [List.take_succ_cons, List.take_zero, List.drop_succ_cons, List.drop_zero]
  repeat (go_big_quiet_step (fail))
  refine wpQuiet_nil ?_
  rintro W8 ⟨⟨_, k8⟩, rfl⟩
  clear q4 hne y4
  have QD := Q7.after k8
  obtain ⟨c2, f2⟩ := QD.cellAt (map_at HE7) (kids_get (m := brN false [] no16) (c := c.toNat) (no16_get hc))
  have Q8 := QD.setCell (map_at HE7) (j := 4 + c.toNat) (by omega) (.int .i64 k0)
  rw [br_kids, ← List.map_set, List.set_set] at Q8
  rw [← Nat.add_assoc] at c2 f2 Q8
  have S9 : Step (At g) (At g) w (W8.setCell ⟨g, a * 20 + 4 + c.toNat, none⟩ (.int .i64 k0)) := (HS7.out.trans (Step.new k8)).trans (Step.setCell (a := ⟨g, a * 20 + 4 + c.toNat, none⟩) _ hFg _)
  have HS9 : Hid (Step (At g) (At g) w _) := S9
  have HF9 : Hid (partD d a n m = d.set a (brN false [] (no16.set c.toNat k0))) := by
    show _ = _
    unfold partD
    rw [HX.out]
    unfold partN
    rw [HD0.out]
    show (if n.kind = 2 ∧ r = [] then _ else _) = _
    rw [if_pos ⟨HK2.out, HR.out⟩, List.getD_eq_getElem?_getD, HK0.out]; rfl
  have HQ9 : Hid (Pl _ (At g) 55 20 _ _) := Q8
  clear Q8 S9 QD Q7 HS7 HE7 R7 B7 k8
  go_wp2_with fail
  go_ret
  refine ⟨_, (At g), rfl, ?_, HS9.out⟩
  rw [HF9.out]; exact HQ9.out
end Go.Proofs.YtjpjcojabjkaaaaDoor
