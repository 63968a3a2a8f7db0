/-
  A text put under halves into nodes that lie in no order, said of lists: what becomes of them, and that they are the tree with it. Plain mathematics. A text put under halves into nodes that lie in no order: they are the tree with it, in its one form. Plain mathematics. The small functions of get: what a text begins with, the child to which halves lead, a node's answer, whether a key may be. TrieBack's walk: whatever pairs and nodes, the call returns true, where the table of upper halves lies as its initialiser lays it.
-/
import Derived.Test.YtjpjcojabjkaaaaDoorGal
import Derived.Test.YtjpjcojabjkaaaaDoorGai
import Derived.Test.YtjpjcojabjkaaaaDoorGak
namespace Go.Proofs.YtjpjcojabjkaaaaDoor
set_option maxRecDepth 20000

/-- The nodes with a Branch in the Path of one of them. -/
def partM (d : List Nd) (a : Nat) (n : Nd) (m : Nat) : List Nd × Nat :=
  if m = 0 then (d, a) else (d.set a (extN (n.path.take m) (d.length : Int)) ++ [noNd], d.length)
def partN (s : List Nd × Nat) (n : Nd) (m : Nat) : List Nd :=
  match n.path.drop m with
  | [] => s.1.set s.2 (brN true n.val no16)
  | c :: r => if n.kind = 2 ∧ r = [] then s.1.set s.2 (brN false [] (no16.set c.toNat (n.kids.getD 0 0)))
    else s.1.set s.2 (brN false [] (no16.set c.toNat (s.1.length : Int))) ++ [{n with path := r}]
def partD (d : List Nd) (a : Nat) (n : Nd) (m : Nat) : List Nd := partN (partM d a n m) n m
def kidD (d : List Nd) (a : Nat) (n : Nd) (c : Nat) : List Nd := if n.kids.getD c 0 ≠ 0 then d else d.set a {n with kids := n.kids.set c (d.length : Int)} ++ [noNd]
def kidA (d : List Nd) (n : Nd) (c : Nat) : Int := if n.kids.getD c 0 ≠ 0 then n.kids.getD c 0 else (d.length : Int)
/-- A text put there. -/
def putM : Nat → List Nd → Int → Bt → Bt → Option (List Nd)
  | 0, _, _, _, _ => none
  | f + 1, d, a, r, v => if a < 0 then none else match d[a.toNat]? with
    | none => none
    | some n =>
      if n = noNd ∨ n = leafN r n.val then some (d.set a.toNat (leafN r v))
      else if n.kind = 3 ∧ r = [] then some (d.set a.toNat {n with has := true, val := v})
      else if n.kind = 3 then (if 16 ≤ (r.headD 0).toNat then none else putM f (kidD d a.toNat n (r.headD 0).toNat) (kidA d n (r.headD 0).toNat) (r.drop 1) v)
      else if n.kind = 2 ∧ begB n.path r = true then putM f d (n.kids.getD 0 0) (r.drop n.path.length) v
      else putM f (partD d a.toNat n (comN n.path r)) a r v
/-- Nodes that lie somewhere are a tree: 'A' tells what leads to each. -/
def Rep (d : List Nd) (A : List Bt) : Tr → Nat → Bt → Prop
  | .none, _, _ => False
  | .hole, i, q => A[i]? = some q ∧ d[i]? = some noNd
  | .leaf p v, i, q => A[i]? = some q ∧ d[i]? = some (leafN p v)
  | .ext p k, i, q => A[i]? = some q ∧ ∃ j : Nat, j ≠ 0 ∧ d[i]? = some (extN p (j : Int)) ∧ Rep d A k j (q ++ p)
  | .br h v ks, i, q => A[i]? = some q ∧ ∃ kk : List Int, kk.length = 16 ∧ d[i]? = some (brN h v kk) ∧
      ∀ c, c < 16 → (ks c = .none ∧ kk[c]? = some 0) ∨ ∃ j : Nat, j ≠ 0 ∧ kk[c]? = some (j : Int) ∧ Rep d A (ks c) j (q ++ [UInt8.ofNat c])
theorem rep_at : ∀ {d : List Nd} {A : List Bt} {T : Tr} {i : Nat} {q : Bt}, Rep d A T i q → A[i]? = some q
  | _, _, .none, _, _, h => h.elim
  | _, _, .hole, _, _, h => h.1
  | _, _, .leaf _ _, _, _, h => h.1
  | _, _, .ext _ _, _, _, h => h.1
  | _, _, .br _ _ _, _, _, h => h.1
theorem rep_frame {d d' : List Nd} {A A' : List Bt} : ∀ {T : Tr} {i : Nat} {q : Bt}, Rep d A T i q → (∀ (j : Nat) (x : Bt), A[j]? = some x → q <+: x → A'[j]? = some x ∧ d'[j]? = d[j]?) → Rep d' A' T i q
  | .none, _, _, h, _ => h.elim
  | .hole, i, q, h, k => ⟨(k i q h.1 (List.prefix_refl q)).1, (k i q h.1 (List.prefix_refl q)).2.trans h.2⟩
  | .leaf _ _, i, q, h, k => ⟨(k i q h.1 (List.prefix_refl q)).1, (k i q h.1 (List.prefix_refl q)).2.trans h.2⟩
  | .ext p T, i, q, h, k => by
    obtain ⟨h1, j, h2, h3, h4⟩ := h
    exact ⟨(k i q h1 (List.prefix_refl q)).1, j, h2, (k i q h1 (List.prefix_refl q)).2.trans h3, rep_frame h4 fun j x hx hq => k j x hx ((List.prefix_append q p).trans hq)⟩
  | .br b v ks, i, q, h, k => by
    obtain ⟨h1, kk, h2, h3, h4⟩ := h
    refine ⟨(k i q h1 (List.prefix_refl q)).1, kk, h2, (k i q h1 (List.prefix_refl q)).2.trans h3, fun c hc => ?_⟩
    rcases h4 c hc with x | ⟨j, j0, j1, j2⟩
    · exact .inl x
    · exact .inr ⟨j, j0, j1, rep_frame j2 fun j x hx hq => k j x hx ((List.prefix_append q _).trans hq)⟩
/-- All else is as it was: what is new lies beneath. -/
structure Fr (d : List Nd) (A : List Bt) (d' : List Nd) (A' : List Bt) (q : Bt) : Prop where
  len : d'.length = A'.length
  keep : ∀ (j : Nat) (x : Bt), A[j]? = some x → A'[j]? = some x
  same : ∀ (j : Nat) (x : Bt), A[j]? = some x → ¬ q <+: x → d'[j]? = d[j]?
  new : ∀ (j : Nat) (x : Bt), A'[j]? = some x → A.length ≤ j → q <+: x
theorem Fr.refl {d : List Nd} {A : List Bt} (h : d.length = A.length) (q : Bt) : Fr d A d A q :=
  ⟨h, fun _ _ h => h, fun _ _ _ _ => rfl, fun j x hx hj => by rw [List.getElem?_eq_none hj] at hx; cases hx⟩
theorem Fr.trans {d d1 d2 : List Nd} {A A1 A2 : List Bt} {q q' : Bt} (h : Fr d A d1 A1 q) (k : Fr d1 A1 d2 A2 q') (hq : q <+: q') : Fr d A d2 A2 q where
  len := k.len
  keep := fun j x hx => k.keep j x (h.keep j x hx)
  same := fun j x hx hn => (k.same j x (h.keep j x hx) fun y => hn (hq.trans y)).trans (h.same j x hx hn)
  new := fun j x hx hj => by
    by_cases h1 : j < A1.length
    · have hy := List.getElem?_eq_getElem h1
      have := k.keep j _ hy
      rw [hx] at this
      rw [← Option.some.inj this] at hy
      exact h.new j x hy hj
    · exact hq.trans (k.new j x hx (by omega))
theorem Fr.wide {d d1 : List Nd} {A A1 : List Bt} {q q' : Bt} (h : Fr d A d1 A1 q') (hq : q <+: q') : Fr d A d1 A1 q where
  len := h.len
  keep := h.keep
  same := fun j x hx hn => h.same j x hx fun y => hn (hq.trans y)
  new := fun j x hx hj => hq.trans (h.new j x hx hj)
/-- One node turned. -/
theorem Fr.set {d : List Nd} {A : List Bt} (h : d.length = A.length) {a : Nat} {q : Bt} (ha : A[a]? = some q) (n : Nd) : Fr d A (d.set a n) A q where
  len := by rw [List.length_set]; exact h
  keep := fun _ _ h => h
  same := fun j x hx hn => by
    by_cases e : a = j
    · subst e; rw [ha] at hx; rw [Option.some.inj hx] at hn; exact absurd (List.prefix_refl x) hn
    · rw [List.getElem?_set_ne e]
  new := fun j x hx hj => by rw [List.getElem?_eq_none hj] at hx; cases hx
/-- One node more. -/
theorem Fr.push {d : List Nd} {A : List Bt} (h : d.length = A.length) {q x : Bt} (hq : q <+: x) (n : Nd) : Fr d A (d ++ [n]) (A ++ [x]) q where
  len := by simp [h]
  keep := fun j y hy => by rw [List.getElem?_append_left (List.getElem?_eq_some_iff.1 hy).1]; exact hy
  same := fun j y hy _ => by rw [List.getElem?_append_left (by rw [h]; exact (List.getElem?_eq_some_iff.1 hy).1)]
  new := fun j y hy hj => by
    rw [List.getElem?_append_right hj] at hy
    have : j - A.length = 0 := by
      by_cases e : j - A.length = 0
      · exact e
      · rw [List.getElem?_eq_none (by simp; omega)] at hy; cases hy
    rw [this] at hy
    simp at hy
    rw [← hy]; exact hq
theorem set_here {d : List Nd} {A : List Bt} (h : d.length = A.length) {a : Nat} {q : Bt} (ha : A[a]? = some q) (n : Nd) : (d.set a n)[a]? = some n := by
  rw [List.getElem?_set_self (by rw [h]; exact (List.getElem?_eq_some_iff.1 ha).1)]
theorem push_here (d : List Nd) (n : Nd) : (d ++ [n])[d.length]? = some n := by simp
theorem pushA_here {d : List Nd} {A : List Bt} (h : d.length = A.length) (x : Bt) : (A ++ [x])[d.length]? = some x := by rw [h]; simp
theorem not_pre {q p : Bt} (h : p ≠ []) : ¬ (q ++ p) <+: q := fun ⟨r, hr⟩ => by
  have := congrArg List.length hr
  simp at this
  cases p with
  | nil => exact h rfl
  | cons _ _ => simp at this
/-- The weight of what is left to do. -/
def wgt : Tr → Bt → Nat
  | .leaf _ _, r => 2 * r.length + 4
  | .ext p _, r => if begB p r = true then 2 * r.length + 3 else 2 * r.length + 4
  | .br _ _ _, r => 2 * r.length + 3
  | _, _ => 1
theorem wgt_le (T : Tr) (r : Bt) : wgt T r ≤ 2 * r.length + 4 := by
  cases T with
  | ext p k =>
    show (if begB p r = true then 2 * r.length + 3 else 2 * r.length + 4) ≤ 2 * r.length + 4
    split <;> omega
  | none => show 1 ≤ 2 * r.length + 4; omega
  | hole => show 1 ≤ 2 * r.length + 4; omega
  | leaf p w => show 2 * r.length + 4 ≤ 2 * r.length + 4; omega
  | br b w ks => show 2 * r.length + 3 ≤ 2 * r.length + 4; omega

theorem no16_get {x : Nat} (h : x < 16) : no16[x]? = some 0 := by
  unfold no16
  rw [List.getElem?_replicate, if_pos h]
/-- A Branch with one child. -/
theorem rep_one {d : List Nd} {A : List Bt} {b : Nat} {q : Bt} {c : UInt8} {J : Nat} {T : Tr} (hA : A[b]? = some q) (hd : d[b]? = some (brN false [] (no16.set c.toNat (J : Int)))) (hc : c.toNat < 16) (hJ : J ≠ 0)
    (hR : Rep d A T J (q ++ [c])) : Rep d A (.br false [] (one c.toNat T)) b q := by
  refine ⟨hA, _, by simp [no16], hd, fun x hx => ?_⟩
  by_cases e : x = c.toNat
  · subst e
    refine .inr ⟨J, hJ, by rw [List.getElem?_set_self (by simp [no16]; exact hc)], ?_⟩
    unfold one
    rw [if_pos rfl, UInt8.ofNat_toNat]
    exact hR
  · refine .inl ⟨if_neg e, ?_⟩
    rw [List.getElem?_set_ne (fun h => e h.symm)]
    exact no16_get hx
theorem pre_ne {q p x : Bt} (h : (q ++ p) <+: x) (hp : p ≠ []) : x ≠ q := by
  intro e
  rw [e] at h
  exact not_pre hp h
/-- Behind a Branch parts there: the tree is the same. -/
theorem part_rep {d : List Nd} {A : List Bt} (hl : d.length = A.length) {T : Tr} {a : Nat} {q : Bt} (hR : Rep d A T a q) (hT : (∃ p w, T = .leaf p w) ∨ ∃ p k, T = .ext p k) {n : Nd} (hn : d[a]? = some n)
    {m : Nat} (hm : m ≤ (pathT T).length) (hx : (∃ p k, T = .ext p k) → m < (pathT T).length) (hp : Half (pathT T)) :
    ∃ A', Rep (partD d a n m) A' (partT T m) a q ∧ Fr d A (partD d a n m) A' q := by
  have hA := rep_at hR
  have ha : a < d.length := by rw [hl]; exact (List.getElem?_eq_some_iff.1 hA).1
  have hpath : n.path = pathT T := by
    rcases hT with ⟨p, w, rfl⟩ | ⟨p, k, rfl⟩
    · rw [hR.2] at hn; rw [← Option.some.inj hn]; rfl
    · obtain ⟨_, j, _, h3, _⟩ := hR
      rw [h3] at hn; rw [← Option.some.inj hn]; rfl
  -- a place for the Branch, with the node ahead of it
  have first : ∃ (d1 : List Nd) (A1 : List Bt) (b : Nat), partM d a n m = (d1, b) ∧ Fr d A d1 A1 q ∧ A1[b]? = some (q ++ (pathT T).take m) ∧ (∀ (j : Nat) (x : Bt), A[j]? = some x → x ≠ q → d1[j]? = d[j]?) ∧
      (∀ d2 A2 B, Rep d2 A2 B b (q ++ (pathT T).take m) → Fr d1 A1 d2 A2 (q ++ (pathT T).take m) → Rep d2 A2 (wrapT ((pathT T).take m) B) a q) := by
    by_cases h0 : m = 0
    · subst h0
      refine ⟨d, A, a, by unfold partM; rw [if_pos rfl], Fr.refl hl q, by simpa using hA, fun _ _ _ _ => rfl, fun d2 A2 B h _ => ?_⟩
      unfold wrapT
      simpa using h
    · have hne : (pathT T).take m ≠ [] := by
        intro e
        have := congrArg List.length e
        rw [List.length_take, List.length_nil] at this
        omega
      have h1 := Fr.set hl hA (extN ((pathT T).take m) (d.length : Int))
      have h2 := Fr.push h1.len (List.prefix_append q ((pathT T).take m)) noNd
      refine ⟨_, _, d.length, by unfold partM; rw [if_neg h0, hpath], h1.trans h2 (List.prefix_refl q), ?_, fun j x hx hne => ?_, fun d2 A2 B h hf => ?_⟩
      · rw [hl]; simp
      · have hj := (List.getElem?_eq_some_iff.1 hx).1
        rw [List.getElem?_append_left (by rw [List.length_set, hl]; exact hj)]
        by_cases e : a = j
        · subst e; rw [hA] at hx; exact absurd (Option.some.inj hx).symm hne
        · rw [List.getElem?_set_ne e]
      · have hA' : (A ++ [q ++ (pathT T).take m])[a]? = some q := h2.keep a q hA
        have hd' : d2[a]? = some (extN ((pathT T).take m) (d.length : Int)) := by
          rw [hf.same a q hA' (not_pre hne), List.getElem?_append_left (by rw [List.length_set]; exact ha)]
          exact set_here hl hA _
        unfold wrapT
        rw [if_neg hne]
        exact ⟨hf.keep a q hA', d.length, by omega, hd', h⟩
  obtain ⟨d1, A1, b, e1, F1, hb, hsame, hwrap⟩ := first
  have hb' : b < d1.length := by rw [F1.len]; exact (List.getElem?_eq_some_iff.1 hb).1
  have hq : q <+: q ++ (pathT T).take m := List.prefix_append _ _
  -- the end: the Branch, and what hangs on it
  have last : ∀ d2 A2, partD d a n m = d2 → Rep d2 A2 (prtB T m) b (q ++ (pathT T).take m) → Fr d1 A1 d2 A2 (q ++ (pathT T).take m) → ∃ A', Rep (partD d a n m) A' (partT T m) a q ∧ Fr d A (partD d a n m) A' q := by
    rintro d2 A2 e h hf
    rw [e]
    exact ⟨A2, hwrap d2 A2 _ h hf, F1.trans hf hq⟩
  have eD : partD d a n m = partN (d1, b) n m := by unfold partD; rw [e1]
  rcases hT with ⟨p, w, rfl⟩ | ⟨p, k, rfl⟩
  · have en : n = leafN p w := by rw [hR.2] at hn; exact (Option.some.inj hn).symm
    subst en
    cases hd : p.drop m with
    | nil =>
      have e2 : partN (d1, b) (leafN p w) m = d1.set b (brN true w no16) := by unfold partN; rw [show (leafN p w).path = p from rfl, hd]; rfl
      have eB : prtB (.leaf p w) m = .br true w fun _ => .none := by
        show (match p.drop m with | [] => Tr.br true w fun _ => .none | c :: r => Tr.br false [] (one c.toNat (.leaf r w)) : Tr) = _
        rw [hd]
      refine last _ A1 (eD.trans e2) ?_ (Fr.set F1.len hb _)
      rw [eB]
      exact ⟨hb, no16, rfl, set_here F1.len hb _, fun c hc => .inl ⟨rfl, no16_get hc⟩⟩
    | cons c r =>
      have hc : c.toNat < 16 := hp c (List.mem_of_mem_drop (i := m) (by show c ∈ p.drop m; rw [hd]; simp))
      have e2 : partN (d1, b) (leafN p w) m = d1.set b (brN false [] (no16.set c.toNat (d1.length : Int))) ++ [leafN r w] := by
        unfold partN; rw [show (leafN p w).path = p from rfl, hd]
        show (if (1 : Int) = 2 ∧ r = [] then _ else _) = _
        rw [if_neg (by simp)]; rfl
      have eB : prtB (.leaf p w) m = .br false [] (one c.toNat (.leaf r w)) := by
        show (match p.drop m with | [] => Tr.br true w fun _ => .none | c :: r => Tr.br false [] (one c.toNat (.leaf r w)) : Tr) = _
        rw [hd]
      have f1 := Fr.set F1.len hb (brN false [] (no16.set c.toNat (d1.length : Int)))
      have f2 := Fr.push f1.len (List.prefix_append (q ++ (pathT (.leaf p w)).take m) [c]) (leafN r w)
      refine last _ _ (eD.trans e2) ?_ (f1.trans f2 (List.prefix_refl _))
      rw [eB]
      refine rep_one (J := d1.length) (f2.keep _ _ hb) ?_ hc (by omega) ⟨?_, ?_⟩
      · rw [List.getElem?_append_left (by rw [List.length_set]; exact hb')]; exact set_here F1.len hb _
      · rw [F1.len]; simp
      · have := push_here (d1.set b (brN false [] (no16.set c.toNat (d1.length : Int)))) (leafN r w)
        rwa [List.length_set] at this
  · obtain ⟨_, j, hj0, h3, hk⟩ := hR
    have en : n = extN p (j : Int) := by rw [h3] at hn; exact (Option.some.inj hn).symm
    subst en
    have hlt : m < p.length := hx ⟨p, k, rfl⟩
    have hpne : p ≠ [] := by intro e; rw [e] at hlt; simp at hlt
    cases hd : p.drop m with
    | nil => have := congrArg List.length hd; rw [List.length_drop] at this; simp at this; omega
    | cons c r =>
      have hc : c.toNat < 16 := hp c (List.mem_of_mem_drop (i := m) (by show c ∈ p.drop m; rw [hd]; simp))
      have hqp : q ++ p = q ++ p.take m ++ [c] ++ r := by rw [List.append_assoc, List.append_assoc]; congr 1; show p = p.take m ++ (c :: r); rw [← hd, List.take_append_drop]
      -- what hangs on the Ext stays
      have hk2 : ∀ d2 A2, Fr d1 A1 d2 A2 (q ++ p.take m) → (∀ (i : Nat) (x : Bt), A1[i]? = some x → x ≠ q ++ p.take m → d2[i]? = d1[i]?) → Rep d2 A2 k j (q ++ p) := fun d2 A2 hf hs =>
        rep_frame hk fun i x hx hqx => by
          have n1 : x ≠ q := pre_ne hqx hpne
          have n2 : x ≠ q ++ p.take m := by
            rw [hqp, List.append_assoc] at hqx
            exact pre_ne hqx (by simp)
          exact ⟨hf.keep i x (F1.keep i x hx), (hs i x (F1.keep i x hx) n2).trans (hsame i x hx n1)⟩
      have hset : ∀ (N : Nd) (i : Nat) (x : Bt), A1[i]? = some x → x ≠ q ++ p.take m → (d1.set b N)[i]? = d1[i]? := fun N i x hx hne => by
        by_cases e : b = i
        · subst e
          have hb2 : A1[b]? = some (q ++ p.take m) := hb
          rw [hb2] at hx; exact absurd (Option.some.inj hx).symm hne
        · rw [List.getElem?_set_ne e]
      have e0 : (extN p (j : Int)).kids.getD 0 0 = (j : Int) := by simp [extN, no16]
      by_cases hr : r = []
      · subst hr
        have e2 : partN (d1, b) (extN p (j : Int)) m = d1.set b (brN false [] (no16.set c.toNat (j : Int))) := by
          unfold partN; rw [show (extN p (j : Int)).path = p from rfl, hd]
          show (if (2 : Int) = 2 ∧ ([] : Bt) = [] then _ else _) = _
          rw [if_pos ⟨rfl, rfl⟩, e0]
        have eB : prtB (.ext p k) m = .br false [] (one c.toNat k) := by
          show (match p.drop m with | [] => Tr.br true [] fun _ => .none | c :: r => Tr.br false [] (one c.toNat (if r = [] then k else .ext r k)) : Tr) = _
          rw [hd]; rfl
        have f1 := Fr.set F1.len hb (brN false [] (no16.set c.toNat (j : Int)))
        refine last _ A1 (eD.trans e2) ?_ f1
        rw [eB]
        refine rep_one (J := j) hb (set_here F1.len hb _) hc hj0 ?_
        have := hk2 _ A1 f1 (hset _)
        rw [hqp, List.append_nil] at this
        exact this
      · have e2 : partN (d1, b) (extN p (j : Int)) m = d1.set b (brN false [] (no16.set c.toNat (d1.length : Int))) ++ [extN r (j : Int)] := by
          unfold partN; rw [show (extN p (j : Int)).path = p from rfl, hd]
          show (if (2 : Int) = 2 ∧ r = [] then _ else _) = _
          rw [if_neg (fun h => hr h.2)]; rfl
        have eB : prtB (.ext p k) m = .br false [] (one c.toNat (.ext r k)) := by
          show (match p.drop m with | [] => Tr.br true [] fun _ => .none | c :: r => Tr.br false [] (one c.toNat (if r = [] then k else .ext r k)) : Tr) = _
          rw [hd]; show Tr.br false [] (one c.toNat (if r = [] then k else .ext r k)) = _; rw [if_neg hr]
        have f1 := Fr.set F1.len hb (brN false [] (no16.set c.toNat (d1.length : Int)))
        have f2 := Fr.push f1.len (List.prefix_append (q ++ (pathT (.ext p k)).take m) [c]) (extN r (j : Int))
        have f3 := f1.trans f2 (List.prefix_refl _)
        refine last _ _ (eD.trans e2) ?_ f3
        rw [eB]
        refine rep_one (J := d1.length) (f2.keep _ _ hb) ?_ hc (by omega) ⟨?_, j, hj0, ?_, ?_⟩
        · rw [List.getElem?_append_left (by rw [List.length_set]; exact hb')]; exact set_here F1.len hb _
        · rw [F1.len]; simp
        · have := push_here (d1.set b (brN false [] (no16.set c.toNat (d1.length : Int)))) (extN r (j : Int))
          rwa [List.length_set] at this
        · have := hk2 _ _ f3 fun i x hx hne => by
            rw [List.getElem?_append_left (by rw [List.length_set, F1.len]; exact (List.getElem?_eq_some_iff.1 hx).1)]
            exact hset _ i x hx hne
          rw [hqp] at this
          exact this
end Go.Proofs.YtjpjcojabjkaaaaDoor
namespace Go.Proofs.YtjpjcojabjkaaaaDoor
set_option maxRecDepth 20000

/-- What becomes of a tree. -/
structure Done (d : List Nd) (A : List Bt) (T : Tr) (a : Nat) (q r v : Bt) (d' : List Nd) (A' : List Bt) (T' : Tr) : Prop where
  rep : Rep d' A' T' a q
  fr : Fr d A d' A' q
  nf : NF T'
  upd : Upd T T' r v
  br : isBr T → isBr T'
theorem noNd_kind : noNd.kind = 0 := rfl
/-- Where a Leaf or an Ext parts from halves. -/
theorem com_leaf {p r : Bt} (h : p ≠ r) : ∃ m, comN p r = m ∧ m ≤ p.length ∧ m ≤ r.length ∧ begB (p.take m) r = true ∧ (p.drop m ≠ [] ∨ r.drop m ≠ []) ∧ ∀ c x d y, p.drop m = c :: x → r.drop m = d :: y → c ≠ d := by
  have hf := comN_facts p r
  refine ⟨_, rfl, hf.1, hf.2.1, begB_iff.2 ?_, ?_, fun c x d y h1 h2 e => ?_⟩
  · rw [List.length_take, Nat.min_eq_left hf.1]; exact hf.2.2.1.symm
  · by_cases h1 : p.drop (comN p r) = []
    · by_cases h2 : r.drop (comN p r) = []
      · exfalso
        apply h
        have e1 := List.take_append_drop (comN p r) p
        have e2 := List.take_append_drop (comN p r) r
        rw [h1, hf.2.2.1] at e1
        rw [h2] at e2
        exact e1.symm.trans e2
      · exact .inr h2
    · exact .inl h1
  · have hr := comN_rest p r
    rw [h1, h2, e] at hr
    have : comN (d :: x) (d :: y) = comN x y + 1 := by show (if d = d then _ else _) = _; rw [if_pos rfl]
    omega
theorem half_drop {p : Bt} (h : Half p) (m : Nat) : Half (p.drop m) := fun c hc => h c (List.mem_of_mem_drop hc)
theorem half_take {p : Bt} (h : Half p) (m : Nat) : Half (p.take m) := fun c hc => h c (List.mem_of_mem_take hc)
theorem one_ge {c : Nat} (hc : c < 16) (T : Tr) (x : Nat) (h : 16 ≤ x) : one c T x = .none := if_neg (by omega)
/-- A tree with a Branch where halves part from it: with something put there it will be in its one form. -/
theorem pre_wrap {p r : Bt} {B : Tr} (hp : Half p) (hB : isBr B) (hb : begB p r = true) (hpre : Pre B (r.drop p.length)) : Pre (wrapT p B) r := by
  unfold wrapT
  split
  · rename_i e; subst e; exact hpre
  · rename_i e
    exact ⟨e, hp, hB, fun _ => hpre, fun h => by rw [hb] at h; cases h⟩
theorem wgt_wrap {p r : Bt} {B : Tr} (hB : isBr B) (hb : begB p r = true) : wgt (wrapT p B) r = 2 * r.length + 3 := by
  obtain ⟨b, w, ks, rfl⟩ := isBr_form hB
  unfold wrapT
  split
  · rfl
  · show (if begB p r = true then _ else _) = _; rw [if_pos hb]
theorem pre_part {T : Tr} {r : Bt} (hT : (∃ p w, T = .leaf p w) ∨ ∃ p k, T = .ext p k) (hP : Pre T r) (hr : Half r) (hne : ∀ p w, T = .leaf p w → p ≠ r) (hnb : ∀ p k, T = .ext p k → begB p r = false) :
    ∃ m, comN (pathT T) r = m ∧ m ≤ (pathT T).length ∧ ((∃ p k, T = .ext p k) → m < (pathT T).length) ∧ Half (pathT T) ∧ Pre (partT T m) r ∧ wgt (partT T m) r = 2 * r.length + 3 ∧ wgt T r = 2 * r.length + 4 ∧ (isBr T → False) := by
  rcases hT with ⟨p, w, rfl⟩ | ⟨p, k, rfl⟩
  · obtain ⟨m, e, h1, h2, h3, h4, h5⟩ := com_leaf (hne p w rfl)
    have hp : Half p := hP
    have hl : (p.take m).length = m := by rw [List.length_take]; omega
    have hB : isBr (prtB (.leaf p w) m) := by
      show isBr (match p.drop m with | [] => Tr.br true w fun _ => .none | c :: r => Tr.br false [] (one c.toNat (.leaf r w)) : Tr)
      cases p.drop m <;> trivial
    refine ⟨m, e, h1, (fun ⟨_, _, h⟩ => by cases h), hp, pre_wrap (half_take hp m) hB h3 ?_, wgt_wrap hB h3, rfl, fun h => h⟩
    rw [show (List.take m (pathT (.leaf p w))).length = m from hl]
    show Pre (match p.drop m with | [] => Tr.br true w fun _ => .none | c :: r => Tr.br false [] (one c.toNat (.leaf r w)) : Tr) _
    cases hd : p.drop m with
    | nil =>
      cases hd' : r.drop m with
      | nil => rw [hd, hd'] at h4; simp at h4
      | cons d y => exact And.intro (fun h => by cases h) (And.intro (fun _ _ => rfl) (And.intro (.inl rfl) (And.intro (fun _ _ => .inl rfl) trivial)))
    | cons c x =>
      have hc : c.toNat < 16 := half_drop hp m c (by rw [hd]; simp)
      have hx : Half x := fun z hz => half_drop hp m z (by rw [hd]; simp [hz])
      have h0 : one c.toNat (.leaf x w) c.toNat = .leaf x w := if_pos rfl
      have hn : one c.toNat (.leaf x w) c.toNat ≠ .none := by rw [h0]; intro h; cases h
      have hall : ∀ z, one c.toNat (.leaf x w) z = .none ∨ NF (one c.toNat (.leaf x w) z) := fun z => by
        by_cases e : z = c.toNat
        · subst e; right; rw [h0]; exact hx
        · left; exact if_neg e
      cases hd' : r.drop m with
      | nil => exact And.intro (fun _ => rfl) (And.intro (fun z hz => one_ge hc _ z hz) (And.intro ⟨c.toNat, hn⟩ hall))
      | cons d y =>
        have hcd := h5 c x d y hd hd'
        have hcd' : c.toNat ≠ d.toNat := fun h => hcd (UInt8.toNat_inj.1 h)
        refine And.intro (fun _ => rfl) (And.intro (fun z hz => one_ge hc _ z hz) (And.intro (.inr ⟨c.toNat, hcd', hn⟩) (And.intro (fun z _ => hall z) ?_)))
        rw [show one c.toNat (Tr.leaf x w) d.toNat = .none from if_neg (Ne.symm hcd')]
        trivial
  · have hb := hnb p k rfl
    have hne' : p ≠ r := by rintro rfl; rw [begB_iff.2 (by simp)] at hb; cases hb
    obtain ⟨m, e, h1, h2, h3, h4, h5⟩ := com_leaf hne'
    obtain ⟨g1, hp, hkb, _, hk⟩ := hP
    have hk := hk hb
    have hl : (p.take m).length = m := by rw [List.length_take]; omega
    have hlt : m < p.length := by
      by_cases x : m < p.length
      · exact x
      · exfalso
        rw [List.take_of_length_le (by omega)] at h3
        rw [h3] at hb; cases hb
    have hB : isBr (prtB (.ext p k) m) := by
      show isBr (match p.drop m with | [] => Tr.br true [] fun _ => .none | c :: r => Tr.br false [] (one c.toNat (if r = [] then k else .ext r k)) : Tr)
      cases p.drop m <;> trivial
    refine ⟨m, e, h1, fun _ => hlt, hp, pre_wrap (half_take hp m) hB h3 ?_, wgt_wrap hB h3, ?_, fun h => h⟩
    · rw [show (List.take m (pathT (.ext p k))).length = m from hl]
      show Pre (match p.drop m with | [] => Tr.br true [] fun _ => .none | c :: r => Tr.br false [] (one c.toNat (if r = [] then k else .ext r k)) : Tr) _
      cases hd : p.drop m with
      | nil => have := congrArg List.length hd; rw [List.length_drop, List.length_nil] at this; omega
      | cons c x =>
        have hc : c.toNat < 16 := half_drop hp m c (by rw [hd]; simp)
        have hx : Half x := fun z hz => half_drop hp m z (by rw [hd]; simp [hz])
        have hX : NF (if x = [] then k else .ext x k) := by
          split
          · exact hk
          · rename_i hx'; exact ⟨hx', hx, hkb, hk⟩
        show Pre (Tr.br false [] (one c.toNat (if x = [] then k else .ext x k))) _
        generalize (if x = [] then k else Tr.ext x k) = X at hX
        have h0 : one c.toNat X c.toNat = X := if_pos rfl
        have hn : one c.toNat X c.toNat ≠ .none := by rw [h0]; intro h; rw [h] at hX; exact hX
        have hall : ∀ z, one c.toNat X z = .none ∨ NF (one c.toNat X z) := fun z => by
          by_cases e : z = c.toNat
          · subst e; right; rw [h0]; exact hX
          · left; exact if_neg e
        cases hd' : r.drop m with
        | nil => exact And.intro (fun _ => rfl) (And.intro (fun z hz => one_ge hc _ z hz) (And.intro ⟨c.toNat, hn⟩ hall))
        | cons d y =>
          have hcd := h5 c x d y hd hd'
          have hcd' : c.toNat ≠ d.toNat := fun h => hcd (UInt8.toNat_inj.1 h)
          refine And.intro (fun _ => rfl) (And.intro (fun z hz => one_ge hc _ z hz) (And.intro (.inr ⟨c.toNat, hcd', hn⟩) (And.intro (fun z _ => hall z) ?_)))
          rw [show one c.toNat X d.toNat = .none from if_neg (Ne.symm hcd')]
          trivial
    · show (if begB p r = true then _ else _) = _
      rw [hb]; rfl
theorem upd_ext {p : Bt} {k k' : Tr} {r v : Bt} (hb : begB p r = true) (h : Upd k k' (r.drop p.length) v) : Upd (.ext p k) (.ext p k') r v := fun x => by
  show (if begB p x = true then lookT k' (x.drop p.length) else .none) = if x = r then some v else (if begB p x = true then lookT k (x.drop p.length) else .none)
  by_cases hx : begB p x = true
  · rw [if_pos hx, if_pos hx, h]
    by_cases e : x = r
    · rw [if_pos e, e, if_pos rfl]
    · rw [if_neg e, if_neg fun h' => e (by rw [beg_split hx, beg_split hb, h'])]
  · rw [if_neg hx, if_neg hx, if_neg fun e => hx (by rw [e]; exact hb)]
theorem upd_br {h : Bool} {w : Bt} {ks : Nat → Tr} {c : UInt8} {k' : Tr} {r v : Bt} (hu : Upd (ks c.toNat) k' r v) : Upd (.br h w ks) (.br h w (upd ks c.toNat k')) (c :: r) v := fun x => by
  cases x with
  | nil => rfl
  | cons d x =>
    rw [lookB_cons, lookB_cons]
    unfold upd
    by_cases e : d = c
    · subst e
      rw [if_pos rfl, hu x]
      by_cases e : x = r
      · rw [if_pos e, e, if_pos rfl]
      · rw [if_neg e, if_neg fun h => e (List.cons.inj h).2]
    · rw [if_neg fun h => e (UInt8.toNat_inj.1 h), if_neg fun h => e (List.cons.inj h).1]
theorem nf_upd {h : Bool} {w : Bt} {ks : Nat → Tr} {c : UInt8} {k' : Tr} {r : Bt} (hc : c.toNat < 16) (hP : Pre (.br h w ks) (c :: r)) (hk : NF k') : NF (.br h w (upd ks c.toNat k')) := by
  obtain ⟨h1, h2, h3, h4, _⟩ := hP
  have hn : upd ks c.toNat k' c.toNat ≠ .none := by
    unfold upd; rw [if_pos rfl]; intro e; rw [e] at hk; exact hk
  have ho : ∀ d, d ≠ c.toNat → upd ks c.toNat k' d = ks d := fun d hd => if_neg hd
  refine ⟨h1, fun d hd => ?_, fun d => ?_, ?_⟩
  · rw [ho d (by omega)]; exact h2 d hd
  · by_cases e : d = c.toNat
    · subst e; right; unfold upd; rw [if_pos rfl]; exact hk
    · rw [ho d e]; exact h4 d e
  · rcases h3 with h3 | ⟨d, hd, h3⟩
    · exact .inl ⟨h3, _, hn⟩
    · exact .inr ⟨d, c.toNat, hd, by rw [ho d hd]; exact h3, hn⟩
theorem sib_ne {q : Bt} {c d : Nat} (hc : c < 16) (hd : d < 16) (h : c ≠ d) {x : Bt} (hx : (q ++ [UInt8.ofNat d]) <+: x) : ¬ (q ++ [UInt8.ofNat c]) <+: x := by
  rintro ⟨s, hs⟩
  obtain ⟨t, ht⟩ := hx
  rw [← ht, List.append_assoc, List.append_assoc] at hs
  have := (List.cons.inj (List.append_cancel_left hs)).1
  have := congrArg UInt8.toNat this
  rw [u8_nat hc, u8_nat hd] at this
  exact h this
/-- A text is put there. -/
theorem put_rep : ∀ (f : Nat) (T : Tr) (d : List Nd) (A : List Bt) (a : Nat) (q r v : Bt), Rep d A T a q → d.length = A.length → Pre T r → Half r → wgt T r ≤ f →
    ∃ d' A' T', putM f d (a : Int) r v = some d' ∧ Done d A T a q r v d' A' T'
  | 0, T, d, A, a, q, r, v, hR, hl, hP, hr, hw => by
    exfalso
    cases T with
    | ext p k =>
      change (if begB p r = true then 2 * r.length + 3 else 2 * r.length + 4) ≤ 0 at hw
      split at hw <;> omega
    | none => exact hR
    | hole => change 1 ≤ 0 at hw; omega
    | leaf p w => change 2 * r.length + 4 ≤ 0 at hw; omega
    | br b w ks => change 2 * r.length + 3 ≤ 0 at hw; omega
  | f + 1, T, d, A, a, q, r, v, hR, hl, hP, hr, hw => by
    have hA := rep_at hR
    have step : ∀ n, d[a]? = some n → putM (f + 1) d (a : Int) r v = if n = noNd ∨ n = leafN r n.val then some (d.set a (leafN r v))
      else if n.kind = 3 ∧ r = [] then some (d.set a {n with has := true, val := v})
      else if n.kind = 3 then (if 16 ≤ (r.headD 0).toNat then none else putM f (kidD d a n (r.headD 0).toNat) (kidA d n (r.headD 0).toNat) (r.drop 1) v)
      else if n.kind = 2 ∧ begB n.path r = true then putM f d (n.kids.getD 0 0) (r.drop n.path.length) v
      else putM f (partD d a n (comN n.path r)) a r v := fun n hn => by
        show (if (a : Int) < 0 then none else match d[(a : Int).toNat]? with | none => none | some n => _) = _
        rw [if_neg (by omega), show ((a : Int)).toNat = a from rfl, hn]
    -- where it parts
    have parts : ((∃ p w, T = .leaf p w) ∨ ∃ p k, T = .ext p k) → (∀ p w, T = .leaf p w → p ≠ r) → (∀ p k, T = .ext p k → begB p r = false) →
        ∀ n, d[a]? = some n → n.path = pathT T → putM (f + 1) d (a : Int) r v = putM f (partD d a n (comN n.path r)) a r v → ∃ d' A' T', putM (f + 1) d (a : Int) r v = some d' ∧ Done d A T a q r v d' A' T' := by
      intro hT h1 h2 n hn hpath hstep
      obtain ⟨m, e, g1, g2, g3, g4, g5, g6, g7⟩ := pre_part hT hP hr h1 h2
      obtain ⟨A1, R1, F1⟩ := part_rep hl hR hT hn g1 g2 g3
      rw [hstep, hpath, e]
      obtain ⟨d', A', T', h3, D⟩ := put_rep f (partT T m) _ A1 a q r v R1 F1.len g4 hr (by omega)
      refine ⟨d', A', T', h3, D.rep, F1.trans D.fr (List.prefix_refl q), D.nf, fun x => ?_, fun h => (g7 h).elim⟩
      rw [D.upd x, part_look hT g1 g2]
    cases T with
    | none => exact hR.elim
    | hole =>
      have hs := step noNd hR.2
      rw [if_pos (.inl rfl)] at hs
      refine ⟨_, A, .leaf r v, hs, ⟨hA, set_here hl hA _⟩, Fr.set hl hA _, hr, fun x => rfl, fun h => h.elim⟩
    | leaf p w =>
      by_cases e : p = r
      · subst e
        have hs := step (leafN p w) hR.2
        rw [if_pos (.inr rfl)] at hs
        refine ⟨_, A, .leaf p v, hs, ⟨hA, set_here hl hA _⟩, Fr.set hl hA _, hr, fun x => ?_, fun h => h.elim⟩
        show (if x = p then some v else .none) = if x = p then some v else (if x = p then some w else .none)
        by_cases e : x = p
        · rw [if_pos e, if_pos e]
        · rw [if_neg e, if_neg e, if_neg e]
      · refine parts (.inl ⟨p, w, rfl⟩) (fun p' w' h => by cases h; exact e) (fun p' k h => by cases h) (leafN p w) hR.2 rfl ?_
        rw [step _ hR.2, if_neg, if_neg, if_neg, if_neg]
        · exact fun h => absurd (show (1 : Int) = 2 from h.1) (by decide)
        · exact fun h => absurd (show (1 : Int) = 3 from h) (by decide)
        · exact fun h => absurd (show (1 : Int) = 3 from h.1) (by decide)
        · rintro (h | h)
          · exact absurd (congrArg Nd.kind h) (by show ¬ (1 : Int) = 0; decide)
          · exact e (congrArg Nd.path h)
    | ext p k =>
      obtain ⟨_, j, hj0, h3, hk⟩ := id hR
      have n1 : ¬ (extN p (j : Int) = noNd ∨ extN p (j : Int) = leafN r (extN p (j : Int)).val) := by
        rintro (h | h)
        · exact absurd (congrArg Nd.kind h) (by show ¬ (2 : Int) = 0; decide)
        · exact absurd (congrArg Nd.kind h) (by show ¬ (2 : Int) = 1; decide)
      have n2 : ¬ (extN p (j : Int)).kind = 3 := by show ¬ (2 : Int) = 3; decide
      by_cases hb : begB p r = true
      · have hs := step _ h3
        rw [if_neg n1, if_neg (fun h => n2 h.1), if_neg n2, if_pos ⟨rfl, hb⟩] at hs
        rw [show (extN p (j : Int)).kids.getD 0 0 = (j : Int) by simp [extN, no16], show (extN p (j : Int)).path.length = p.length from rfl] at hs
        obtain ⟨hpne, hph, hkb, hkp, _⟩ := hP
        have hw' : wgt k (r.drop p.length) ≤ f := by
          change (if begB p r = true then 2 * r.length + 3 else 2 * r.length + 4) ≤ f + 1 at hw
          rw [if_pos hb] at hw
          have := wgt_le k (r.drop p.length)
          rw [List.length_drop] at this
          have hlen := begB_len hb
          have : p.length ≠ 0 := fun h => hpne (List.eq_nil_of_length_eq_zero h)
          omega
        obtain ⟨d', A', k', e1, D⟩ := put_rep f k d A j (q ++ p) (r.drop p.length) v hk hl (hkp hb) (half_drop hr _) hw'
        refine ⟨d', A', .ext p k', hs.trans e1, ⟨D.fr.keep a q hA, j, hj0, (D.fr.same a q hA (not_pre hpne)).trans h3, D.rep⟩, D.fr.wide (List.prefix_append _ _), ⟨hpne, hph, D.br hkb, D.nf⟩, upd_ext hb D.upd, fun h => h.elim⟩
      · refine parts (.inr ⟨p, k, rfl⟩) (fun p' w' h => by cases h) (fun p' k' h => by cases h; simpa using hb) (extN p (j : Int)) h3 rfl ?_
        rw [step _ h3, if_neg n1, if_neg (fun h => n2 h.1), if_neg n2, if_neg (fun h => hb h.2)]
    | br b w ks =>
      obtain ⟨_, kk, hkl, h3, hk⟩ := id hR
      have n1 : ¬ (brN b w kk = noNd ∨ brN b w kk = leafN r (brN b w kk).val) := by
        rintro (h | h)
        · exact absurd (congrArg Nd.kind h) (by show ¬ (3 : Int) = 0; decide)
        · exact absurd (congrArg Nd.kind h) (by show ¬ (3 : Int) = 1; decide)
      have hs := step _ h3
      rw [if_neg n1] at hs
      cases r with
      | nil =>
        rw [if_pos ⟨rfl, rfl⟩] at hs
        have f1 := Fr.set hl hA (brN true v kk)
        refine ⟨_, A, .br true v ks, hs, ⟨hA, kk, hkl, set_here hl hA _, fun c hc => ?_⟩, f1, ?_, fun x => ?_, fun _ => trivial⟩
        · rcases hk c hc with x | ⟨j, j0, j1, j2⟩
          · exact .inl x
          · refine .inr ⟨j, j0, j1, rep_frame j2 fun i x hx hq => ⟨hx, ?_⟩⟩
            have hne := pre_ne hq (by simp)
            by_cases e : a = i
            · subst e; rw [hA] at hx; exact absurd (Option.some.inj hx).symm hne
            · rw [List.getElem?_set_ne e]
        · obtain ⟨p1, p2, p3, p4⟩ := hP
          exact ⟨fun h => by (cases h), p2, p4, .inl ⟨rfl, p3⟩⟩
        · cases x with
          | nil => rfl
          | cons c x => rw [if_neg (by simp)]; rfl
      | cons c r =>
        have hc : c.toNat < 16 := hr c (by simp)
        have hr' : Half r := fun x hx => hr x (by simp [hx])
        rw [if_neg (fun h => by cases h.2), if_pos (show (brN b w kk).kind = 3 from rfl), if_neg (show ¬ 16 ≤ ((c :: r).headD 0).toNat by show ¬ 16 ≤ c.toNat; omega)] at hs
        change putM (f + 1) d (a : Int) (c :: r) v = putM f (kidD d a (brN b w kk) c.toNat) (kidA d (brN b w kk) c.toNat) r v at hs
        have hcu : UInt8.ofNat c.toNat = c := UInt8.ofNat_toNat
        have hw' : 2 * r.length + 4 ≤ f := by
          change 2 * (r.length + 1) + 3 ≤ f + 1 at hw; omega
        -- the child is there, or an empty place
        have child : ∃ (d1 : List Nd) (A1 : List Bt) (k1 : Tr) (kk1 : List Int) (j : Nat), kidD d a (brN b w kk) c.toNat = d1 ∧ kidA d (brN b w kk) c.toNat = (j : Int) ∧ j ≠ 0 ∧ Fr d A d1 A1 q ∧ d1[a]? = some (brN b w kk1) ∧ kk1.length = 16 ∧ kk1[c.toNat]? = some (j : Int) ∧ (∀ e, e ≠ c.toNat → kk1[e]? = kk[e]?) ∧
            (∀ (i : Nat) (x : Bt), A[i]? = some x → x ≠ q → d1[i]? = d[i]?) ∧ Rep d1 A1 k1 j (q ++ [c]) ∧ Pre k1 r ∧ wgt k1 r ≤ f ∧ ∀ k', Upd k1 k' r v → Upd (ks c.toNat) k' r v := by
          rcases hk c.toNat hc with ⟨e1, e2⟩ | ⟨j, j0, j1, j2⟩
          · have e3 : (brN b w kk).kids.getD c.toNat 0 = 0 := by show kk.getD c.toNat 0 = 0; rw [List.getD_eq_getElem?_getD, e2]; rfl
            have f1 := Fr.set hl hA (brN b w (kk.set c.toNat (d.length : Int)))
            have f2 := Fr.push f1.len (List.prefix_append q [c]) noNd
            have ha : a < d.length := by rw [hl]; exact (List.getElem?_eq_some_iff.1 hA).1
            refine ⟨_, _, .hole, kk.set c.toNat (d.length : Int), d.length, by unfold kidD; rw [if_neg (fun h => h e3)]; rfl, by unfold kidA; rw [if_neg (fun h => h e3)], by omega, f1.trans f2 (List.prefix_refl q), ?_, by simpa using hkl, ?_, ?_, ?_, ⟨?_, ?_⟩, trivial, by show 1 ≤ f; omega, ?_⟩
            · rw [List.getElem?_append_left (by rw [List.length_set]; exact ha)]; exact set_here hl hA _
            · rw [List.getElem?_set_self (by omega)]
            · intro e he; rw [List.getElem?_set_ne (Ne.symm he)]
            · intro i x hx hne
              rw [List.getElem?_append_left (by rw [List.length_set, hl]; exact (List.getElem?_eq_some_iff.1 hx).1)]
              by_cases e : a = i
              · subst e; rw [hA] at hx; exact absurd (Option.some.inj hx).symm hne
              · rw [List.getElem?_set_ne e]
            · exact pushA_here hl _
            · have := push_here (d.set a (brN b w (kk.set c.toNat (d.length : Int)))) noNd
              rwa [List.length_set] at this
            · intro k' hu; rw [e1]; exact hu
          · have e3 : (brN b w kk).kids.getD c.toNat 0 = (j : Int) := by show kk.getD c.toNat 0 = _; rw [List.getD_eq_getElem?_getD, j1]; rfl
            have e4 : (brN b w kk).kids.getD c.toNat 0 ≠ 0 := by rw [e3]; omega
            rw [hcu] at j2
            exact ⟨d, A, ks c.toNat, kk, j, by unfold kidD; rw [if_pos e4], by unfold kidA; rw [if_pos e4, e3], j0, Fr.refl hl q, h3, hkl, j1, fun _ _ => rfl, fun _ _ _ _ => rfl, j2, hP.2.2.2.2, Nat.le_trans (wgt_le _ _) hw', fun _ h => h⟩
        obtain ⟨d1, A1, k1, kk1, j, e1, e2, j0, F1, g1, g2, g3, g4, g5, g6, g7, g8, g9⟩ := child
        rw [e1, e2] at hs
        obtain ⟨d', A', k', e3, D⟩ := put_rep f k1 d1 A1 j (q ++ [c]) r v g6 F1.len g7 hr' g8
        have hA1 := F1.keep a q hA
        refine ⟨d', A', .br b w (upd ks c.toNat k'), hs.trans e3, ⟨D.fr.keep a q hA1, kk1, g2, (D.fr.same a q hA1 (not_pre (by simp))).trans g1, fun e he => ?_⟩, F1.trans D.fr (List.prefix_append _ _), nf_upd hc hP D.nf, upd_br (g9 k' D.upd), fun _ => trivial⟩
        by_cases hec : e = c.toNat
        · subst hec
          refine .inr ⟨j, j0, g3, ?_⟩
          unfold upd
          rw [if_pos rfl, hcu]
          exact D.rep
        · rw [show upd ks c.toNat k' e = ks e from if_neg hec, g4 e hec]
          rcases hk e he with x | ⟨i, i0, i1, i2⟩
          · exact .inl x
          · refine .inr ⟨i, i0, i1, rep_frame i2 fun y x hx hq => ?_⟩
            have hx1 := F1.keep y x hx
            refine ⟨D.fr.keep y x hx1, (D.fr.same y x hx1 ?_).trans (g5 y x hx (pre_ne hq (by simp)))⟩
            rw [← hcu]
            exact sib_ne hc he (Ne.symm hec) hq
end Go.Proofs.YtjpjcojabjkaaaaDoor
namespace Go.Proofs.YtjpjcojabjkaaaaDoor
open Go.RowKit
set_option maxRecDepth 20000
set_option linter.unusedVariables false

theorem beq_bs (a b : ByteArray) : (a.toList == b.toList) = decide (L a = L b) := by
  rw [toList_L, toList_L, Bool.eq_iff_iff, beq_iff_eq, decide_eq_true_eq]
theorem pre_cut (p r : Bt) (h : p.length ≤ r.length) : (((bs r).extract 0 (bs p).size).toList == (bs p).toList) = begB p r := by
  rw [beq_bs, L_extract, L_bs, L_bs, List.drop_zero, bs_size]
  unfold begB
  rw [decide_eq_true h, Bool.true_and]
set_option maxHeartbeats 1000000 in
theorem hasPrefix_lib (r p : Bt) (w : World) : Calls Tryd.prog 50 #[.string (bs r), .string (bs p)] w fun e w' => e = .returned (.bool (begB p r)) ∧ w' = w := by
  by_cases h : p.length ≤ r.length
  · have hb : ((bs p).size : Int) ≤ ((bs r).size : Int) := by rw [bs_size, bs_size]; omega
    have hb' : decide (((bs r).size : Int) < ((bs p).size : Int)) = false := decide_eq_false (by omega)
    have hc := pre_cut p r h
    have hn : (bs p).size ≤ (bs r).size := by rw [bs_size, bs_size]; exact h
    generalize begB p r = b at *
    go_enter Tryd.func50, Tryd.ntmps50
    go_wp2_with fail
    go_ret
    exact ⟨rfl, rfl⟩
  · have hb : ((bs p).size : Int) ≤ ((bs r).size : Int) ↔ False := by rw [bs_size, bs_size]; exact iff_of_false (by omega) id
    have hc : begB p r = false := by unfold begB; rw [decide_eq_false h]; rfl
    rw [hc]
    clear hc
    go_enter Tryd.func50, Tryd.ntmps50
    go_wp2_with fail
    go_ret
    exact ⟨rfl, rfl⟩
theorem hasPrefix_any (r p : Bt) (w : World) : Calls Tryd.prog 41 #[.string (bs r), .string (bs p)] w fun e w' => e = .returned (.bool (begB p r)) ∧ w' = w := by
  have hc := fun W => hasPrefix_lib r p W
  go_enter Tryd.func41, Tryd.ntmps41
  go_wp2_with fail
  refine Calls.mono (hc _) ?_
  rintro _ _ ⟨rfl, rfl⟩
  go_wp2_with fail
  go_ret
  exact ⟨rfl, rfl⟩
theorem beq_empty (r : Bt) : ((bs r).toList.isEmpty) = decide (r = []) := by
  rw [toList_L, L_bs, Bool.eq_iff_iff, List.isEmpty_iff, decide_eq_true_eq]
theorem kid_cell {w : World} {B : Nat} {m : Nd} (R : Row w B (ndA m) 55) (h : m.kids.length = 16) {c : Nat} (hc : c < 16) : w.cell? ⟨B, 4 + c, none⟩ = some (.int .i64 (m.kids.getD c 0)) := by
  refine R.has (4 + c) ?_
  unfold ndA ndC
  rw [show 4 + c = c + 1 + 1 + 1 + 1 by omega]
  simp only [List.getElem?_toArray, List.getElem?_cons_succ]
  rw [List.getElem?_map, getD_some (d := 0) (by omega)]; rfl
set_option maxHeartbeats 4000000 in
/-- next: the child to which halves lead, and how many of them do so. -/
theorem next_any {w : World} {m : Nd} {r : Bt} (hk : m.kids.length = 16) (hr : ∀ c ∈ r, c.toNat < 16) (hl : m.path.length ≤ 4000) :
    Calls Tryd.prog 46 #[.agg (ndA m), .string (bs r)] w fun e w' => e = .returned (.tuple #[.int .i64 (nxt m r).1, .int .i64 ((nxt m r).2 : Nat)]) ∧ New w w' := by
  have hnA : (ndA m).size = 20 := ndA_size hk
  have HK : Hid (m.kids.length = 16) := hk
  have hpre := fun W => hasPrefix_any r m.path W
  have hpl : ((bs m.path).size : Int) = ((m.path.length : Nat) : Int) := by rw [bs_size]
  clear hl
  have HR : Hid (∀ c ∈ r, c.toNat < 16) := hr
  have bx : ∀ (kd : Int), m.kind = kd → ∀ W : World, Row W w.heap.size (ndA m) 55 → W.cell? ⟨w.heap.size, 0, none⟩ = some (.int .i64 kd) ∧ W.cell? ⟨w.heap.size, 1, none⟩ = some (.string (bs m.path)) ∧ W.cell? ⟨w.heap.size, 4, none⟩ = some (.int .i64 (m.kids.getD 0 0)) :=
    fun kd h W R => ⟨by have := R.has 0 (v := .int .i64 m.kind) rfl; rw [h] at this; exact this, R.has 1 rfl, kid_cell R hk (c := 0) (by decide)⟩
  have kb : ∀ (c : UInt8), c.toNat < 16 → ∀ W : World, Row W w.heap.size (ndA m) 55 → W.cell? ⟨w.heap.size, 4 + c.toNat, none⟩ = some (.int .i64 (m.kids.getD c.toNat 0)) := fun c h W R => kid_cell R hk h
  clear hr hk
  by_cases h2 : m.kind = 2
  · have bx2 := bx 2 h2
    cases hp : begB m.path r
    · rw [nxt_ext_no h2 hp]
      rw [hp] at hpre
      clear hp h2 bx kb
      go_enter Tryd.func46, Tryd.ntmps46
      go_wp2_with (first
        | (refine wpList_box_at (by rfl) 2 (by rfl) 55 _ (by rfl) (ndA m) (by rfl) ?_; intro W1 R1 N1; obtain ⟨y0, y1, y4⟩ := bx2 W1 R1; clear R1 bx2; generalize w.heap.size = B at *))
      refine Calls.mono (hpre _) ?_
      rintro _ _ ⟨rfl, rfl⟩
      go_wp2_with fail
      go_ret2
      exact ⟨rfl, N1⟩
    · rw [nxt_ext h2 hp]
      rw [hp] at hpre
      clear hp h2 bx kb
      go_enter Tryd.func46, Tryd.ntmps46
      go_wp2_with (first
        | (refine wpList_box_at (by rfl) 2 (by rfl) 55 _ (by rfl) (ndA m) (by rfl) ?_; intro W1 R1 N1; obtain ⟨y0, y1, y4⟩ := bx2 W1 R1; clear R1 bx2; generalize w.heap.size = B at *))
      refine Calls.mono (hpre _) ?_
      rintro _ _ ⟨rfl, rfl⟩
      go_wp2_with fail
      go_region
      go_wp2_with fail
      go_ret2
      exact ⟨rfl, N1.trans (New.drew _)⟩
  have hk2 : (m.kind == 2) = false := by rw [beq_eq_false_iff_ne]; exact h2
  by_cases h3 : m.kind = 3
  · have bx2 := bx 3 h3
    have H3 : Hid (m.kind = 3) := h3
    clear bx hk2 h3
    cases r with
    | nil =>
      rw [nxt_end h2]
      have hne : (bs ([] : Bt)).toList.isEmpty = true := by rw [beq_empty]; simp
      clear h2 kb hpre
      go_enter Tryd.func46, Tryd.ntmps46
      go_wp2_with (first
        | (refine wpList_box_at (by rfl) 2 (by rfl) 55 _ (by rfl) (ndA m) (by rfl) ?_; intro W1 R1 N1; obtain ⟨y0, y1, y4⟩ := bx2 W1 R1; clear R1 bx2; generalize w.heap.size = B at *))
      go_ret2
      exact ⟨rfl, N1⟩
    | cons c r =>
      rw [nxt_br H3.out (by simp)]
      have hc := HR.out c (by simp)
      have kbc := kb c hc
      have hi : (c.toNat : Int) < 16 := by omega
      have hne : (bs (c :: r)).toList.isEmpty = false := by rw [beq_empty]; simp
      have hsz : (0 : Int) < ((bs (c :: r)).size : Int) := by rw [bs_size]; simp
      have hsz' : 0 < (bs (c :: r)).size := by rw [bs_size]; simp
      have hix : (bs (c :: r))[0]'hsz' = c := rfl
      clear h2 hpre kb HR
      go_enter Tryd.func46, Tryd.ntmps46
      go_wp2_with (first
        | (refine wpList_box_at (by rfl) 2 (by rfl) 55 _ (by rfl) (ndA m) (by rfl) ?_; intro W1 R1 N1; obtain ⟨y0, y1, y4⟩ := bx2 W1 R1; have yc := kbc W1 R1; clear R1 bx2 kbc; generalize w.heap.size = B at *))
      go_ret2
      exact ⟨rfl, N1⟩
  · have hk3 : (m.kind == 3) = false := by rw [beq_eq_false_iff_ne]; exact h3
    rw [nxt_leaf h2 h3]
    have bx2 := bx m.kind rfl
    clear bx kb h2 h3 hpre
    go_enter Tryd.func46, Tryd.ntmps46
    go_wp2_with (first
        | (refine wpList_box_at (by rfl) 2 (by rfl) 55 _ (by rfl) (ndA m) (by rfl) ?_; intro W1 R1 N1; obtain ⟨y0, y1, y4⟩ := bx2 W1 R1; clear R1 bx2; generalize w.heap.size = B at *))
    go_ret2
    exact ⟨rfl, N1⟩

/-- An answer in memory's cells. -/
def ansA (o : Option Bt) : Array Value := #[.bool o.isSome, .string (bs (o.getD []))]
theorem info27 : (Tryd.prog.info? 46).map (fun i => (i.zero, i.size, i.bytes)) = some (some (.agg (ansA none)), 2, 24) := by kernel_rfl
theorem i27 : (Tryd.prog.info? 46).map (·.size) = some 2 := by kernel_rfl
theorem built27 : Tryd.prog.built 46 [] = some (ansA none) := by kernel_rfl
theorem built27_2 (s : ByteArray) : Tryd.prog.built 46 [(0, .bool true), (1, .string s)] = some #[.bool true, .string s] := by kernel_rfl
theorem ans_one (o : Option Bt) : (ansA o).all (·.oneCell') = true := by simp [ansA, Value.oneCell']
theorem desc27 : ∃ d, Tryd.prog.underlying 46 = some d := ⟨_, Tryd.underlying46⟩
set_option maxHeartbeats 4000000 in
/-- answer: what a node says, where these halves are left. -/
theorem answer_any {w : World} {m : Nd} {r : Bt} (hk : m.kids.length = 16) (hv : m.val.length ≤ 4000) :
    Calls Tryd.prog 34 #[.agg (ndA m), .string (bs r)] w fun e w' => e = .returned (.agg (ansA (ansN m r))) ∧ New w w' := by
  have hnA : (ndA m).size = 20 := ndA_size hk
  have hcl := fun W => clone_any m.val hv W
  have bx : ∀ (hh : Bool), m.has = hh → ∀ W : World, Row W w.heap.size (ndA m) 55 → W.cell? ⟨w.heap.size, 2, none⟩ = some (.bool hh) ∧ W.cell? ⟨w.heap.size, 1, none⟩ = some (.string (bs m.path)) ∧ W.cell? ⟨w.heap.size, 3, none⟩ = some (.string (bs m.val)) :=
    fun kd h W R => ⟨by have := R.has 2 (v := .bool m.has) rfl; rw [h] at this; exact this, R.has 1 rfl, R.has 3 rfl⟩
  clear hk hv
  cases hh : m.has
  · have bx2 := bx false hh
    have e : ansN m r = none := by unfold ansN; rw [hh, if_neg (by rintro ⟨h, _⟩; cases h)]
    rw [e]
    clear bx hh e
    go_enter Tryd.func34, Tryd.ntmps34
    go_wp2_with (first
        | (refine wpList_box_at (by rfl) 2 (by rfl) 55 _ (by rfl) (ndA m) (by rfl) ?_; intro W1 R1 N1)
        | (refine wpList_alloc_at (by rfl) 4 (by rfl) 46 (by rfl) _ _ _ info27 ?_; intro W2 R2 N2; obtain ⟨y0, y1, y3⟩ := bx2 W2 (R1.after N2); clear R1 bx2)
        | refine wpList_build0 (by rfl) 46 (by rfl) _ built27 ?_
        | (refine wpList_store_new (by rfl) 46 _ _ (by rfl) W1.heap.size (ansA none) (by rfl) (by rfl) 46 _ R2 i27 rfl (ans_one _) ?_; intro W3 R3 B3; have N3 : New W1 W3 := B3.new N2 (Nat.le_refl _)))
    exact bodyPost_ret (results_cell_row rfl _ _ W1.heap.size 46 (ansA none) (0, 0) _ rfl R3 Tryd.underlying46 rfl i27) rfl ⟨rfl, N1.trans N3⟩
  · have bx2 := bx true hh
    by_cases hp : m.path = r
    · have e : ansN m r = some m.val := by unfold ansN; rw [if_pos ⟨hh, hp⟩]
      have hb : ((bs m.path).toList == (bs r).toList) = true := by rw [beq_bs, L_bs, L_bs]; exact decide_eq_true hp
      rw [e]
      clear bx hh e hp
      go_enter Tryd.func34, Tryd.ntmps34
      go_wp2_with (first
        | (refine wpList_box_at (by rfl) 2 (by rfl) 55 _ (by rfl) (ndA m) (by rfl) ?_; intro W1 R1 N1)
        | (refine wpList_alloc_at (by rfl) 4 (by rfl) 46 (by rfl) _ _ _ info27 ?_; intro W2 R2 N2; obtain ⟨y0, y1, y3⟩ := bx2 W2 (R1.after N2); clear R1 bx2))
      refine Calls.mono (hcl _) ?_
      rintro _ W3 ⟨rfl, N3⟩
      go_wp2_with (first
        | refine wpList_build2 (by rfl) 46 _ _ (by rfl) (.bool true) (.string (bs m.val)) (by rfl) (by rfl) (ansA (some m.val)) (built27_2 _) ?_
        | (refine wpList_store_new (by rfl) 46 _ _ (by rfl) W1.heap.size (ansA (some m.val)) (by rfl) (by rfl) 46 _ (R2.after N3) i27 rfl (ans_one _) ?_; intro W4 R4 B4; have N4 : New W1 W4 := B4.new (N2.trans N3) (Nat.le_refl _)))
      exact bodyPost_ret (results_cell_row rfl _ _ W1.heap.size 46 (ansA (some m.val)) (0, 0) _ rfl R4 Tryd.underlying46 rfl i27) rfl ⟨rfl, N1.trans N4⟩
    · have e : ansN m r = none := by unfold ansN; rw [if_neg (by rintro ⟨_, h⟩; exact hp h)]
      have hb : ((bs m.path).toList == (bs r).toList) = false := by rw [beq_bs, L_bs, L_bs]; exact decide_eq_false hp
      rw [e]
      clear bx hh e hp
      go_enter Tryd.func34, Tryd.ntmps34
      go_wp2_with (first
        | (refine wpList_box_at (by rfl) 2 (by rfl) 55 _ (by rfl) (ndA m) (by rfl) ?_; intro W1 R1 N1)
        | (refine wpList_alloc_at (by rfl) 4 (by rfl) 46 (by rfl) _ _ _ info27 ?_; intro W2 R2 N2; obtain ⟨y0, y1, y3⟩ := bx2 W2 (R1.after N2); clear R1 bx2)
        | refine wpList_build0 (by rfl) 46 (by rfl) _ built27 ?_
        | (refine wpList_store_new (by rfl) 46 _ _ (by rfl) W1.heap.size (ansA none) (by rfl) (by rfl) 46 _ R2 i27 rfl (ans_one _) ?_; intro W3 R3 B3; have N3 : New W1 W3 := B3.new N2 (Nat.le_refl _)))
      exact bodyPost_ret (results_cell_row rfl _ _ W1.heap.size 46 (ansA none) (0, 0) _ rfl R3 Tryd.underlying46 rfl i27) rfl ⟨rfl, N1.trans N3⟩
/-- May a key be? -/
def keyOk (k : Bt) : Bool := decide (1 ≤ k.length) && decide (k.length ≤ 8)
theorem key_any12 (k : Bt) (w : World) : Calls Tryd.prog 18 #[.string (bs k)] w fun e w' => e = .returned (.bool (keyOk k)) ∧ w' = w := by
  have hs : ((bs k).size : Int) = (k.length : Int) := by rw [bs_size]
  have e1 : (1 : Int) ≤ ((bs k).size : Int) → decide (((bs k).size : Int) ≤ 8) = keyOk k := fun h => by
    unfold keyOk; rw [hs] at h ⊢; rw [Bool.eq_iff_iff]; simp only [Bool.and_eq_true, decide_eq_true_eq]; omega
  have e2 : ((bs k).size : Int) < 1 → false = keyOk k := fun h => by
    unfold keyOk; rw [hs] at h; rw [Bool.eq_iff_iff]; simp only [Bool.and_eq_true, decide_eq_true_eq]; exact iff_of_false (by simp) (by omega)
  have H1 : Hid ((1 : Int) ≤ ((bs k).size : Int) → decide (((bs k).size : Int) ≤ 8) = keyOk k) := e1
  have H2 : Hid (((bs k).size : Int) < 1 → false = keyOk k) := e2
  clear e1 e2 hs
  go_enter Tryd.func18, Tryd.ntmps18
  go_wp2_with fail
  · rename_i h
    go_ret
    exact ⟨congrArg (fun b => Ending.returned (.bool b)) (H1.out h), rfl⟩
  · rename_i h
    go_ret
    exact ⟨congrArg (fun b => Ending.returned (.bool b)) (H2.out h), rfl⟩
end Go.Proofs.YtjpjcojabjkaaaaDoor
namespace Go.Proofs.YtjpjcojabjkaaaaDoor
open Go.RowKit
set_option maxRecDepth 20000

theorem tok_of {t : List Nd} (h16 : ∀ x ∈ t, x.kids.length = 16) (h : longB lenN 4000 noNd t = false) : TOk t := by
  obtain ⟨h1, h2⟩ := longB_small _ _ _ _ h
  exact ⟨h16, by omega, h2⟩
theorem prs_of {l : List Pr} (h : longB lenP 3000 ([], []) l = false) : l.length ≤ 3000 ∧ ∀ p ∈ l, p.1.length ≤ 4000 ∧ p.2.length ≤ 4000 := by
  obtain ⟨h1, h2⟩ := longB_small _ _ _ _ h
  exact ⟨h1, fun p hp => by have := h2 p hp; simp only [lenP] at this; omega⟩
theorem build_ok {l : List Pr} (h : mayB l = true) (hl : l.length ≤ 3001) : TOk (buildN l) := by
  refine ⟨build_k16 h, by have := build_few h; omega, fun x hx => ?_⟩
  by_cases hne : l = []
  · subst hne
    unfold buildN at hx; rw [trie_nil] at hx; simp at hx
  · have B := trie_blk h hne
    obtain ⟨m, hm, rfl⟩ := List.mem_map.1 hx
    constructor
    · have := goodB_len (blk_halves (may_fit h) B hm)
      rw [List.length_append] at this
      omega
    · have hval : m.1.has = true → m.1.val.length ≤ 4000 := fun hh => by
        have hmem : (m.2 ++ m.1.path, m.1.val) ∈ l.map halfP := by
          rw [← B.vals]
          exact List.mem_filterMap.2 ⟨m, hm, by unfold valOf; rw [if_pos hh]⟩
        obtain ⟨p, hp, he⟩ := List.mem_map.1 hmem
        have hv := (okP_key p ((mayB_rise l h).2 p hp)).2.2
        have : p.2 = m.1.val := congrArg Prod.snd he
        rw [← this]; omega
      rcases B.shape m hm with ⟨_, h2, _⟩ | ⟨_, _, h3, _⟩ | ⟨_, _, _, _, h4⟩
      · exact hval h2
      · rw [h3]; simp
      · cases hh : m.1.has
        · rw [h4 hh]; simp
        · exact hval hh

end Go.Proofs.YtjpjcojabjkaaaaDoor
