/-
  How many nodes pairs have, and one pair more. Plain mathematics. The document's own Of and All: a trie with pairs more, by definition. The document's own All. The fixed run of put's laws.
-/
import Derived.Test.YtjpjcojabjkaaaaDoorGar
import Derived.Test.YtjpjcojabjkaaaaDoorGan
import Derived.Test.YtjpjcojabjkaaaaDoorGav
import Derived.Test.YtjpjcojabjkaaaaDoorGaq
import Derived.Test.YtjpjcojabjkaaaaDoorGak
namespace Go.Proofs.YtjpjcojabjkaaaaDoor
set_option maxRecDepth 20000

theorem grow_len (f : Nat) (l : List Pr) (n b b' : Nat) : (grow f l n b).length = (grow f l n b').length := by
  have h := grow_same [] f l n b b'
  have e : l.map (pmP []) = l := by
    have : pmP [] = id := by funext p; rfl
    rw [this, List.map_id]
  rw [e, List.length_nil, Nat.zero_add] at h
  exact h
/-- The same keys have as many nodes, whatever the values. -/
def kyP (p : Pr) : Pr := (p.1, [])
theorem ky_headK (l : List Pr) : headK (l.map kyP) = headK l := by cases l <;> rfl
theorem ky_lastL (l : List Pr) : lastL (l.map kyP) = lastL l := by
  unfold lastL
  rw [List.getLast?_map]
  cases l.getLast? <;> rfl
theorem ky_comG (l : List Pr) (n : Nat) : comG (l.map kyP) n = comG l n := by unfold comG; rw [ky_headK, ky_lastL]
theorem ky_ends (l : List Pr) (n : Nat) : endsB (l.map kyP) n = endsB l n := by cases l <;> rfl
theorem ky_rest (l : List Pr) (n : Nat) : restL (l.map kyP) n = (restL l n).map kyP := by
  unfold restL
  rw [ky_ends]
  split
  · rw [List.map_tail]
  · rfl
theorem ky_grp (l : List Pr) (n h : Nat) : grp (l.map kyP) n h = (grp l n h).map kyP := by
  unfold grp
  rw [List.filter_map]
  rfl
theorem ky_fork (f : Nat) (ih : ∀ (l : List Pr) (n b b' : Nat), (grow f (l.map kyP) n b).length = (grow f l n b').length) (l : List Pr) (n b b' : Nat) :
    (forkW (fun g => grow f g (n + 1)) (l.map kyP) n b).length = (forkW (fun g => grow f g (n + 1)) l n b').length := by
  unfold forkW
  simp only [List.length_cons]
  congr 1
  have e : (fun h => grp (restL (l.map kyP) n) n h) = fun h => (grp (restL l n) n h).map kyP := by
    funext h; rw [ky_rest, ky_grp]
  rw [e]
  exact kidsW_same _ _ _ _ (fun h => by rw [List.map_eq_nil_iff]) (fun h c c' => ih _ _ _ _) _ _ 16
theorem grow_keys : ∀ (f : Nat) (l : List Pr) (n b b' : Nat), (grow f (l.map kyP) n b).length = (grow f l n b').length
  | 0, _, _, _, _ => rfl
  | f + 1, l, n, b, b' => by
    unfold grow
    rw [List.length_map, ky_comG]
    by_cases h0 : l.length = 0
    · rw [if_pos h0, if_pos h0]
    rw [if_neg h0, if_neg h0]
    by_cases h1 : l.length = 1
    · rw [if_pos h1, if_pos h1]; rfl
    rw [if_neg h1, if_neg h1]
    by_cases hc : comG l n = 0
    · rw [if_pos hc, if_pos hc]
      exact ky_fork f (grow_keys f) l n b b'
    · rw [if_neg hc, if_neg hc]
      simp only [List.length_cons]
      congr 1
      exact ky_fork f (grow_keys f) l (n + comG l n) (b + 1) (b' + 1)

/-- How many nodes pairs have, from a place on. -/
def cnt (l : List Pr) (n : Nat) : Nat := (grow 17 l n 0).length
theorem cnt_any {f : Nat} {l : List Pr} {n b : Nat} (h : 17 ≤ n + f) (hl : Fit l n) (hne : l ≠ []) : (grow f l n b).length = cnt l n := by
  unfold cnt
  rw [grow_fuel f 17 l n b h (by omega) hl hne]
  exact grow_len _ _ _ _ _
theorem cnt_nil (n : Nat) : cnt [] n = 0 := rfl
theorem cnt_one (p : Pr) (n : Nat) : cnt [p] n = 1 := rfl
theorem cnt_few {l : List Pr} {n : Nat} (h : Fit l n) (hne : l ≠ []) : 1 ≤ cnt l n ∧ cnt l n + 2 ≤ 3 * l.length := by
  have B := grow_blk 17 l n 0 (by omega) h hne
  exact ⟨B.ne, B.few⟩
def sumN (F : Nat → Nat) : Nat → Nat
  | 0 => 0
  | h + 1 => sumN F h + F h
theorem sumN_same {F G : Nat → Nat} : ∀ {h : Nat}, (∀ i, i < h → F i = G i) → sumN F h = sumN G h
  | 0, _ => rfl
  | h + 1, e => by
    show sumN F h + F h = sumN G h + G h
    rw [sumN_same fun i hi => e i (by omega), e h (by omega)]
theorem sumN_but {F G : Nat → Nat} {c : Nat} : ∀ {h : Nat}, c < h → (∀ i, i < h → i ≠ c → F i = G i) → sumN F h + G c = sumN G h + F c
  | 0, hc, _ => by omega
  | h + 1, hc, e => by
    show sumN F h + F h + G c = sumN G h + G h + F c
    by_cases hh : c = h
    · subst hh
      rw [sumN_same fun i hi => e i (by omega) (by omega)]; omega
    · have := sumN_but (h := h) (c := c) (by omega) fun i hi hn => e i (by omega) hn
      have := e h (by omega) (by omega)
      omega
theorem sumN_zero {F : Nat → Nat} {h : Nat} (e : ∀ i, i < h → F i = 0) : sumN F h = 0 := by
  rw [sumN_same (G := fun _ => 0) e]
  induction h with
  | zero => rfl
  | succ h ih => show sumN _ h + 0 = 0; rw [ih fun i hi => e i (by omega)]
theorem kidsW_sum (gs : Nat → List Pr) (k b : Nat) : ∀ h, (kidsW (fun g => grow 17 g k) gs b h).2.length = sumN (fun i => cnt (gs i) k) h
  | 0 => rfl
  | h + 1 => by
    show (if gs h = [] then _ else _ : List Int × List NP).2.length = sumN _ h + cnt (gs h) k
    have ih := kidsW_sum gs k b h
    by_cases e : gs h = []
    · rw [if_pos e, ih, e, cnt_nil, Nat.add_zero]
    · rw [if_neg e]
      simp only [List.length_append, ih]
      congr 1
      exact grow_len _ _ _ _ _
/-- The nodes of two pairs and more: an Ext, if they have nibbles in common, a Branch, its children's. -/
theorem cnt_fork {l : List Pr} {n : Nat} (h : Fit l n) (h2 : 2 ≤ l.length) :
    cnt l n = (if comG l n = 0 then 0 else 1) + (1 + sumN (fun i => cnt (grp (restL l (n + comG l n)) (n + comG l n) i) (n + comG l n + 1)) 16) := by
  have hne : l ≠ [] := by intro e; rw [e] at h2; simp at h2
  rw [← cnt_any (f := 18) (b := 0) (by omega) h hne]
  unfold grow
  rw [if_neg (by omega), if_neg (by omega)]
  by_cases hc : comG l n = 0
  · rw [if_pos hc, if_pos hc, show n + comG l n = n by omega]
    unfold forkW
    rw [List.length_cons, kidsW_sum]; omega
  · rw [if_neg hc, if_neg hc, List.length_cons]
    unfold forkW
    rw [List.length_cons, kidsW_sum]; omega
theorem comN_ge : ∀ {a b : Bt} {k : Nat}, a.take k = b.take k → k ≤ a.length → k ≤ b.length → k ≤ comN a b
  | _, _, 0, _, _, _ => Nat.zero_le _
  | [], _, k + 1, _, h, _ => by simp at h
  | _ :: _, [], k + 1, _, _, h => by simp at h
  | x :: a, y :: b, k + 1, e, h1, h2 => by
    simp only [List.take_succ_cons, List.cons.injEq] at e
    show k + 1 ≤ (if x = y then comN a b + 1 else 0)
    rw [if_pos e.1]
    have := comN_ge e.2 (by simpa using h1) (by simpa using h2)
    omega
/-- What all have in common the first and the last have. -/
theorem comG_ge {l : List Pr} {n k : Nat} (h : Fit l (n + k)) (hne : l ≠ []) : k ≤ comG l n := by
  obtain ⟨p, hp, e1, _⟩ := headK_mem hne
  obtain ⟨q, hq, e2, _⟩ := lastL_mem hne
  unfold comG
  rw [← e1, ← e2]
  have hp' := (h.len p hp).1
  have hq' := (h.len q hq).1
  refine comN_ge ?_ (by rw [List.length_drop]; omega) (by rw [List.length_drop]; omega)
  have hs := h.same p hp q hq
  rw [List.take_drop, List.take_drop, hs]
theorem nib_of_take {p q : Pr} {m k : Nat} (h : p.1.take k = q.1.take k) (hm : m < k) : nib p m = nib q m := by
  unfold nib
  have e : ∀ r : Pr, r.1.getD m 0 = (r.1.take k).getD m 0 := fun r => by
    rw [List.getD_eq_getElem?_getD, List.getD_eq_getElem?_getD, List.getElem?_take, if_pos hm]
  rw [e p, e q, h]
theorem Fit.more {l : List Pr} {n m : Nat} (h : Fit l n) (_hm : n ≤ m) (hl : ∀ p ∈ l, m ≤ p.1.length) (hs : ∀ p ∈ l, ∀ q ∈ l, p.1.take m = q.1.take m) : Fit l m :=
  ⟨fun p hp => ⟨hl p hp, (h.len p hp).2⟩, h.half, h.rise, hs⟩
theorem Fit.less {l : List Pr} {n m : Nat} (h : Fit l m) (hm : n ≤ m) : Fit l n :=
  ⟨fun p hp => ⟨Nat.le_trans hm (h.len p hp).1, (h.len p hp).2⟩, h.half, h.rise, fun p hp q hq => by
    have := congrArg (List.take n) (h.same p hp q hq)
    rwa [List.take_take, List.take_take, Nat.min_eq_left hm] at this⟩
/-- A place further on in what they have in common: the same nodes, but for the Ext. -/
theorem cnt_shift {l : List Pr} {n m : Nat} (h : Fit l m) (hnm : n < m) (h2 : 2 ≤ l.length) : cnt l m ≤ cnt l n ∧ cnt l n ≤ cnt l m + 1 := by
  have hne : l ≠ [] := by intro e; rw [e] at h2; simp at h2
  obtain ⟨k, rfl⟩ : ∃ k, m = n + k := ⟨m - n, by omega⟩
  have hn := h.less (n := n) (by omega)
  have e1 : n + comG l n = n + k + comG l (n + k) := by
    have hc := comG_ge h hne
    have h1 := (hn.com hne).1
    have h3 := (h.com hne).1
    have : comG l n - k ≤ comG l (n + k) := comG_ge (n := n + k) (k := comG l n - k) (by rw [show n + k + (comG l n - k) = n + comG l n by omega]; exact h1) hne
    have : k + comG l (n + k) ≤ comG l n := comG_ge (n := n) (k := k + comG l (n + k)) (by rw [← Nat.add_assoc]; exact h3) hne
    omega
  have hc0 : comG l n ≠ 0 := by have := comG_ge h hne; omega
  rw [cnt_fork hn h2, cnt_fork h h2, e1, if_neg hc0]
  split <;> omega
theorem ltL_short {a x : Bt} : ¬ ltL (a ++ x) a := fun h => by
  have := (ltL_append a x []).1 (by simpa using h)
  cases x <;> exact this.elim

variable {A B : List Pr} {p : Pr} {n : Nat}
theorem mem_mid : p ∈ A ++ p :: B := by simp
theorem sub_mid : (A ++ B).Sublist (A ++ p :: B) := List.Sublist.append (List.Sublist.refl A) (List.sublist_cons_self p B)
/-- One that ends where all part is the first. -/
theorem first_mid {m : Nat} (F : Fit (A ++ p :: B) m) (hp : p.1.length = m) : A = [] := by
  cases A with
  | nil => rfl
  | cons a A =>
    exfalso
    have hr := F.rise
    have hlt : ltL a.1 p.1 := (List.pairwise_append.1 hr).2.2 a (by simp) p (by simp)
    have hs := F.same a (by simp) p (by simp)
    rw [List.take_of_length_le (l := p.1) (by omega)] at hs
    have e : a.1 = p.1 ++ a.1.drop m := by rw [← hs, List.take_append_drop]
    rw [e] at hlt
    exact ltL_short hlt
theorem grp_mid (m h : Nat) : grp (A ++ p :: B) m h = if nib p m = h then grp A m h ++ p :: grp B m h else grp (A ++ B) m h := by
  unfold grp
  rw [List.filter_append, List.filter_append]
  by_cases e : nib p m = h
  · rw [if_pos e, List.filter_cons_of_pos (by simpa using e)]
  · rw [if_neg e, List.filter_cons_of_neg (by simpa using e)]
/-- Where none of the others ends: what the Branch passes on. -/
theorem rest_mid {m : Nat} (F : Fit (A ++ p :: B) m) (hp : m < p.1.length) (hne : A ++ B ≠ []) : ∃ A2 B2, restL (A ++ p :: B) m = A2 ++ p :: B2 ∧ restL (A ++ B) m = A2 ++ B2 := by
  cases A with
  | nil =>
    rw [List.nil_append] at F hne ⊢
    have h1 : endsB (p :: B) m = false := decide_eq_false (by omega)
    have h2 : endsB B m = false := by
      cases B with
      | nil => rfl
      | cons q B =>
        refine decide_eq_false fun hq => ?_
        have hlt : ltL p.1 q.1 := (List.pairwise_cons.1 F.rise).1 q (by simp)
        have hs := F.same p (by simp) q (by simp)
        rw [List.take_of_length_le (l := q.1) (by omega)] at hs
        have e : p.1 = q.1 ++ p.1.drop m := by rw [← hs, List.take_append_drop]
        rw [e] at hlt
        exact ltL_short hlt
    refine ⟨[], B, ?_, ?_⟩
    · unfold restL; rw [h1]; rfl
    · unfold restL; rw [List.nil_append, h2]; rfl
  | cons a A =>
    have e1 : endsB (a :: A ++ p :: B) m = endsB (a :: A ++ B) m := rfl
    cases hb : endsB (a :: A ++ B) m
    · refine ⟨a :: A, B, ?_, ?_⟩
      · unfold restL; rw [e1, hb]; rfl
      · unfold restL; rw [hb]; rfl
    · refine ⟨A, B, ?_, ?_⟩
      · unfold restL; rw [e1, hb]; rfl
      · unfold restL; rw [hb]; rfl
/-- One pair more: no node less, at most three more. -/
theorem cnt_ins : ∀ (d n : Nat) (A B : List Pr) (p : Pr), 17 ≤ n + d → Fit (A ++ p :: B) n → cnt (A ++ B) n ≤ cnt (A ++ p :: B) n ∧ cnt (A ++ p :: B) n ≤ cnt (A ++ B) n + 3
  | 0, n, A, B, p, h, F => by
    have := F.len p mem_mid
    omega
  | d + 1, n, A, B, p, h, F => by
    have hl : (A ++ p :: B).length = (A ++ B).length + 1 := by simp; omega
    have hne' : A ++ p :: B ≠ [] := by simp
    have hfew := cnt_few F hne'
    have Fl : Fit (A ++ B) n := F.sub sub_mid
    by_cases h0 : A ++ B = []
    · rw [h0, cnt_nil]
      rw [hl, h0] at hfew
      simp at hfew
      omega
    by_cases h1 : (A ++ B).length = 1
    · have := (cnt_few Fl h0)
      rw [h1] at this
      rw [hl, h1] at hfew
      omega
    have h2 : 2 ≤ (A ++ B).length := by
      have : (A ++ B).length ≠ 0 := fun e => h0 (List.eq_nil_of_length_eq_zero e)
      omega
    have h2' : 2 ≤ (A ++ p :: B).length := by omega
    obtain ⟨c', hc'⟩ : ∃ c, comG (A ++ p :: B) n = c := ⟨_, rfl⟩
    obtain ⟨c, hc⟩ : ∃ c, comG (A ++ B) n = c := ⟨_, rfl⟩
    have K' := F.fork h2'
    have K := Fl.fork h2
    have E' := cnt_fork F h2'
    have E := cnt_fork Fl h2
    rw [hc'] at K' E'
    rw [hc] at K E
    have hle : c' ≤ c := by rw [← hc]; exact comG_ge (K'.fit.sub sub_mid) h0
    have hpl := (K'.fit.len p mem_mid).1
    by_cases hcc : c' = c
    · subst hcc
      by_cases hp : p.1.length = n + c'
      · have hA := first_mid K'.fit hp
        subst hA
        rw [List.nil_append] at *
        show cnt B n ≤ cnt (p :: B) n ∧ cnt (p :: B) n ≤ cnt B n + 3
        have r1 : restL (p :: B) (n + c') = B := by
          unfold restL
          rw [show endsB (p :: B) (n + c') = true from decide_eq_true hp]; rfl
        have r2 : restL B (n + c') = B := by
          unfold restL
          have : endsB B (n + c') = false := by
            cases hb : endsB B (n + c')
            · rfl
            · exfalso
              have hq := (ends_iff h0).1 hb
              obtain ⟨q, hqm, e, _⟩ := headK_mem h0
              rw [← e] at hq
              have hlt : ltL p.1 q.1 := (List.pairwise_cons.1 F.rise).1 q hqm
              have hs := K'.fit.same p (by simp) q (List.mem_cons_of_mem _ hqm)
              rw [List.take_of_length_le (by omega), List.take_of_length_le (by omega)] at hs
              rw [hs] at hlt
              exact ltL_irrefl _ hlt
          rw [this]; rfl
        rw [r1] at E'
        rw [r2] at E
        omega
      · have hp' : n + c' < p.1.length := by omega
        obtain ⟨A2, B2, r1, r2⟩ := rest_mid K'.fit hp' h0
        rw [r1] at E'
        rw [r2] at E
        have hg := K'.group (nib p (n + c'))
        rw [r1, grp_mid, if_pos rfl] at hg
        have ih := cnt_ins d (n + c' + 1) _ _ p (by omega) hg
        have hn16 := K'.fit.nib_lt (mem_mid (A := A) (B := B)) hp'
        have hs := sumN_but (F := fun i => cnt (grp (A2 ++ p :: B2) (n + c') i) (n + c' + 1)) (G := fun i => cnt (grp (A2 ++ B2) (n + c') i) (n + c' + 1)) (c := nib p (n + c')) hn16 (fun i _ hi => by
          show cnt (grp (A2 ++ p :: B2) (n + c') i) _ = _
          rw [grp_mid, if_neg (Ne.symm hi)])
        have e1 : grp (A2 ++ p :: B2) (n + c') (nib p (n + c')) = grp A2 (n + c') (nib p (n + c')) ++ p :: grp B2 (n + c') (nib p (n + c')) := by rw [grp_mid, if_pos rfl]
        have e2 : grp (A2 ++ B2) (n + c') (nib p (n + c')) = grp A2 (n + c') (nib p (n + c')) ++ grp B2 (n + c') (nib p (n + c')) := by unfold grp; rw [List.filter_append]
        simp only [e1, e2] at hs
        omega
    · have hlt : c' < c := by omega
      have hlong : ∀ q ∈ A ++ B, n + c' < q.1.length := fun q hq => by have := (K.fit.len q hq).1; omega
      obtain ⟨q0, hq0⟩ : ∃ q, q ∈ A ++ B := List.exists_mem_of_ne_nil _ h0
      have hnib : ∀ q ∈ A ++ B, nib q (n + c') = nib q0 (n + c') := fun q hq => nib_of_take (K.fit.same q hq q0 hq0) (by omega)
      have Fm : Fit (A ++ B) (n + c' + 1) := K.fit.less (by omega)
      have hsh := cnt_shift (n := n) Fm (by omega) h2
      have hg0 : ∀ i, grp (A ++ B) (n + c') i = if nib q0 (n + c') = i then A ++ B else [] := fun i => by
        unfold grp
        by_cases e : nib q0 (n + c') = i
        · rw [if_pos e]
          exact List.filter_eq_self.2 fun q hq => by rw [hnib q hq]; simpa using e
        · rw [if_neg e]
          exact List.filter_eq_nil_iff.2 fun q hq => by rw [hnib q hq]; simpa using e
      have h16 := K'.fit.nib_lt (sub_mid.subset hq0 : q0 ∈ A ++ p :: B) (hlong q0 hq0)
      by_cases hp : p.1.length = n + c'
      · have hA := first_mid K'.fit hp
        subst hA
        rw [List.nil_append] at *
        show cnt B n ≤ cnt (p :: B) n ∧ cnt (p :: B) n ≤ cnt B n + 3
        have r1 : restL (p :: B) (n + c') = B := by
          unfold restL
          rw [show endsB (p :: B) (n + c') = true from decide_eq_true hp]; rfl
        rw [r1] at E'
        have hs := sumN_but (F := fun i => cnt (grp B (n + c') i) (n + c' + 1)) (G := fun _ => 0) (c := nib q0 (n + c')) h16 (fun i _ hi => by
          show cnt (grp B (n + c') i) _ = 0
          rw [hg0 i, if_neg (Ne.symm hi)]; rfl)
        rw [sumN_zero (F := fun _ => 0) (fun _ _ => rfl)] at hs
        have hx : cnt (grp B (n + c') (nib q0 (n + c'))) (n + c' + 1) = cnt B (n + c' + 1) := by rw [hg0, if_pos rfl]
        simp only [hx] at hs
        rw [E']
        split <;> omega
      · have hp' : n + c' < p.1.length := by omega
        have hdiff : nib p (n + c') ≠ nib q0 (n + c') := fun e => by
          have hall : ∀ r ∈ A ++ p :: B, n + c' < r.1.length ∧ nib r (n + c') = nib q0 (n + c') := fun r hr => by
            rcases List.mem_append.1 hr with x | x
            · exact ⟨hlong r (by simp [x]), hnib r (by simp [x])⟩
            · rcases List.mem_cons.1 x with rfl | x
              · exact ⟨hp', e⟩
              · exact ⟨hlong r (by simp [x]), hnib r (by simp [x])⟩
          have : Fit (A ++ p :: B) (n + c' + 1) := K'.fit.more (by omega) (fun r hr => (hall r hr).1) fun r hr s hs => by
            rw [take_succ_nib (hall r hr).1, take_succ_nib (hall s hs).1, K'.fit.same r hr s hs, (hall r hr).2, (hall s hs).2]
          have := comG_ge (n := n + c') (k := 1) this hne'
          have := K'.part
          omega
        have r1 : restL (A ++ p :: B) (n + c') = A ++ p :: B := by
          unfold restL
          have : endsB (A ++ p :: B) (n + c') = false := by
            cases hb : endsB (A ++ p :: B) (n + c')
            · rfl
            · have hq := (ends_iff hne').1 hb
              obtain ⟨q, hqm, e, _⟩ := headK_mem hne'
              rw [← e] at hq
              rcases List.mem_append.1 hqm with x | x
              · have := hlong q (by simp [x]); omega
              · rcases List.mem_cons.1 x with rfl | x
                · omega
                · have := hlong q (by simp [x]); omega
          rw [this]; rfl
        rw [r1] at E'
        have hp16 := K'.fit.nib_lt (mem_mid (A := A) (B := B)) hp'
        have s1 := sumN_but (F := fun i => cnt (grp (A ++ p :: B) (n + c') i) (n + c' + 1)) (G := fun i => cnt (grp (A ++ B) (n + c') i) (n + c' + 1)) (c := nib p (n + c')) hp16 (fun i _ hi => by
          show cnt (grp (A ++ p :: B) (n + c') i) _ = _
          rw [grp_mid, if_neg (Ne.symm hi)])
        have s2 := sumN_but (F := fun i => cnt (grp (A ++ B) (n + c') i) (n + c' + 1)) (G := fun _ => 0) (c := nib q0 (n + c')) h16 (fun i _ hi => by
          show cnt (grp (A ++ B) (n + c') i) _ = 0
          rw [hg0 i, if_neg (Ne.symm hi)]; rfl)
        rw [sumN_zero (F := fun _ => 0) (fun _ _ => rfl)] at s2
        have gp : grp (A ++ B) (n + c') (nib p (n + c')) = [] := by rw [hg0, if_neg (Ne.symm hdiff)]
        have gA : grp A (n + c') (nib p (n + c')) = [] ∧ grp B (n + c') (nib p (n + c')) = [] := by
          have : grp A (n + c') (nib p (n + c')) ++ grp B (n + c') (nib p (n + c')) = [] := by rw [← gp]; unfold grp; rw [List.filter_append]
          exact List.append_eq_nil_iff.1 this
        have x1 : cnt (grp (A ++ p :: B) (n + c') (nib p (n + c'))) (n + c' + 1) = 1 := by rw [grp_mid, if_pos rfl, gA.1, gA.2]; rfl
        have x2 : cnt (grp (A ++ B) (n + c') (nib p (n + c'))) (n + c' + 1) = 0 := by rw [gp]; rfl
        have x3 : cnt (grp (A ++ B) (n + c') (nib q0 (n + c'))) (n + c' + 1) = cnt (A ++ B) (n + c' + 1) := by rw [hg0, if_pos rfl]
        simp only [x1, x2] at s1
        simp only [x3] at s2
        rw [E']
        split <;> omega

theorem build_cnt (l : List Pr) : (buildN l).length = cnt (l.map halfP) 0 := by
  unfold buildN trieL cnt
  rw [List.length_map]
/-- A pair that is new makes up to three nodes more; one in place of one that is there none. -/
theorem set_nodes {l : List Pr} (h : mayB l = true) {k v : Bt} (hk : keyOk k = true) (hv : v.length ≤ 16) :
    ((lookL l k).isSome = true → (buildN (setL l k v)).length = (buildN l).length) ∧ ((buildN l).length ≤ (buildN (setL l k v)).length ∧ (buildN (setL l k v)).length ≤ (buildN l).length + 3) := by
  have hm := set_may h hk hv
  obtain ⟨A, B, _, _, a3, a4⟩ := set_form (rise_may h) k v
  rw [build_cnt, build_cnt]
  rcases a4 with ⟨e, hn⟩ | ⟨u, e⟩
  · have hnone : (lookL l k).isSome = false := by
      rw [look_in]
      unfold inB
      rw [List.any_eq_false]
      intro p hp
      simpa using hn p hp
    have hf := may_fit hm
    rw [a3, List.map_append, List.map_cons] at hf
    have := cnt_ins 17 0 _ _ _ (by omega) hf
    rw [← List.map_append, ← e] at this
    rw [a3, List.map_append, List.map_cons]
    exact ⟨fun x => (by rw [hnone] at x; cases x), this⟩
  · have : cnt ((setL l k v).map halfP) 0 = cnt (l.map halfP) 0 := by
      unfold cnt
      rw [← grow_keys 17 ((setL l k v).map halfP) 0 0 0, ← grow_keys 17 (l.map halfP) 0 0 0]
      congr 2
      rw [a3, e, List.map_append, List.map_append, List.map_append, List.map_append]
      rfl
    rw [this]
    exact ⟨fun _ => rfl, by omega⟩
end Go.Proofs.YtjpjcojabjkaaaaDoor
namespace Go.Proofs.YtjpjcojabjkaaaaDoor
open Go.RowKit
set_option maxRecDepth 20000
set_option linter.unusedVariables false

theorem build_ok' {l : List Pr} (h : mayB l = true) (hl : (buildN l).length ≤ 10000) : TOk (buildN l) := by
  refine ⟨build_k16 h, hl, fun x hx => ?_⟩
  by_cases hne : l = []
  · subst hne
    unfold buildN at hx; rw [trie_nil] at hx; simp at hx
  · have B := trie_blk h hne
    obtain ⟨m, hm, rfl⟩ := List.mem_map.1 hx
    constructor
    · have := goodB_len (blk_halves (may_fit h) B hm)
      rw [List.length_append] at this
      omega
    · have hval : m.1.has = true → m.1.val.length ≤ 4000 := fun hh => by
        have hmem : (m.2 ++ m.1.path, m.1.val) ∈ l.map halfP := by
          rw [← B.vals]
          exact List.mem_filterMap.2 ⟨m, hm, by unfold valOf; rw [if_pos hh]⟩
        obtain ⟨p, hp, he⟩ := List.mem_map.1 hmem
        have hv := (okP_key p ((mayB_rise l h).2 p hp)).2.2
        have : p.2 = m.1.val := congrArg Prod.snd he
        rw [← this]; omega
      rcases B.shape m hm with ⟨_, h2, _⟩ | ⟨_, _, h3, _⟩ | ⟨_, _, _, _, h4⟩
      · exact hval h2
      · rw [h3]; simp
      · cases hh : m.1.has
        · rw [h4 hh]; simp
        · exact hval hh
theorem readF_le {t : List Nd} (K : TOk t) {s : List Pr × List Bt} (h : readF t = some s) : s.1.length ≤ t.length :=
  (gat_ok (fun m hm => (K.len m hm).2) (Nat.le_refl _) (readF_gat h)).few
theorem readF_build {l : List Pr} (h : mayB l = true) : ∃ ps, readF (buildN l) = some (l, ps) := ⟨_, readF_iff.2 ⟨h, rfl, rfl⟩⟩
theorem allP_none {t : List Nd} (h : readF t = none) (l : List Pr) : allP t l = ([], 1) := by unfold allP; rw [h]
theorem allP_some {t : List Nd} {s : List Pr × List Bt} (h : readF t = some s) (l : List Pr) : allP t l = if (allL s.1 l).2 = 0 then (buildN (allL s.1 l).1, 0) else ([], (allL s.1 l).2) := by unfold allP; rw [h]
theorem allP_build {c : List Pr} (h : mayB c = true) (l : List Pr) : allP (buildN c) l = if (allL c l).2 = 0 then (buildN (allL c l).1, 0) else ([], (allL c l).2) := by
  obtain ⟨ps, hr⟩ := readF_build h
  rw [allP_some hr]
theorem allL_one (c : List Pr) (p : Pr) : allL c [p] = if errP p = 0 then (setL c p.1 p.2, 0) else ([], errP p) := rfl
theorem allP_one {t : List Nd} {s : List Pr × List Bt} (h : readF t = some s) (p : Pr) : allP t [p] = if errP p = 0 then (buildN (setL s.1 p.1 p.2), 0) else ([], errP p) := by
  rw [allP_some h, allL_one]
  by_cases e : errP p = 0
  · rw [if_pos e, if_pos e, if_pos rfl]
  · rw [if_neg e, if_neg e, if_neg e]
theorem allP_one_build {c : List Pr} (h : mayB c = true) (p : Pr) : allP (buildN c) [p] = if errP p = 0 then (buildN (setL c p.1 p.2), 0) else ([], errP p) := by
  obtain ⟨ps, hr⟩ := readF_build h
  exact allP_one hr p
set_option maxHeartbeats 4000000 in
theorem rof_any13 {w : World} {v : Value} {t : List Nd} (P : Ls w 20 v (t.map ndC)) (K : TOk t) (ht : t.length ≤ 9000) (k u : Bt) :
    Calls Tryd.prog 12 #[v, .string (bs k), .string (bs u)] w fun e w' => ∃ v', e = .returned (.tuple #[v', .int .i64 (allP t [(k, u)]).2]) ∧ Ls w' 20 v' ((allP t [(k, u)]).1.map ndC) ∧ New w w' := by
  have hp := r_pairs P K
  have hky := fun W => key_any12 k W
  have hus := bs_size u
  cases hr : readF t with
  | none =>
    rw [allP_none hr]
    rw [hr] at hp
    clear P K hr
    go_enter Tryd.func12, Tryd.ntmps12
    go_wp2_with fail
    refine Calls.mono hp ?_
    rintro _ W1 ⟨a, n, c, rfl, _, N1⟩
    clear hp
    go_wp2_with (first
      | (refine wpList_alloc_at (by rfl) 8 (by rfl) 57 (by rfl) _ _ _ info37 ?_; intro W2 R2 N2)
      | (refine wpList_store_new (by rfl) 57 _ _ (by rfl) W1.heap.size #[.slice a n c, .bool false] (by rfl) (by rfl) 57 _ R2 i37 rfl (got_one _ _ _ _) ?_; intro W3 R3 B3; have N3 : New W1 W3 := B3.new N2 (Nat.le_refl _); have y1 := R3.has 1 (v := .bool false) rfl))
    go_ret2
    exact ⟨.slice none 0 0, rfl, Ls.nil _ _, N1.trans N3⟩
  | some s =>
    rw [hr] at hp
    have hmay := (readF_ok hr).1
    have hle := readF_le K hr
    have hrl : rL t = s.1 := by unfold rL; rw [hr]
    rw [hrl] at hp
    cases hk : keyOk k
    · have he : errP (k, u) = 9 := by unfold errP; rw [if_pos hk]
      rw [allP_one hr, he, if_neg (by decide)]
      rw [hk] at hky
      clear P K hr hk he hmay hle hrl
      go_enter Tryd.func12, Tryd.ntmps12
      go_wp2_with fail
      refine Calls.mono hp ?_
      rintro _ W1 ⟨a, n, c, rfl, _, N1⟩
      clear hp
      go_wp2_with (first
        | (refine wpList_alloc_at (by rfl) 8 (by rfl) 57 (by rfl) _ _ _ info37 ?_; intro W2 R2 N2)
        | (refine wpList_store_new (by rfl) 57 _ _ (by rfl) W1.heap.size #[.slice a n c, .bool true] (by rfl) (by rfl) 57 _ R2 i37 rfl (got_one _ _ _ _) ?_; intro W3 R3 B3; have N3 : New W1 W3 := B3.new N2 (Nat.le_refl _); have y1 := R3.has 1 (v := .bool true) rfl))
      refine Calls.mono (hky _) ?_
      rintro _ W3 ⟨rfl, rfl⟩
      go_wp2_with fail
      go_ret2
      exact ⟨.slice none 0 0, rfl, Ls.nil _ _, N1.trans N3⟩
    · rw [hk] at hky
      by_cases h16 : u.length ≤ 16
      · have he : errP (k, u) = 0 := by unfold errP; rw [if_neg (by rw [hk]; simp), if_neg (by show ¬ 16 < u.length; omega)]
        rw [allP_one hr, he, if_pos rfl]
        have h16b : decide ((16 : Int) < ((bs u).size : Int)) = false := decide_eq_false (by omega)
        have hsm := set_may hmay hk h16
        have hset := fun {W : World} {x : Value} (L : Ls W 2 x (s.1.map prC)) => set_any L (by omega) k u
        rw [setEnd (rise_may hmay)] at hset
        have hsl : (setL s.1 k u).length ≤ 10000 := by
          have := set_len (rise_may hmay) k u
          split at this <;> omega
        have hbd := fun {W : World} {x : Value} (L : Ls W 2 x ((setL s.1 k u).map prC)) => r_build L hsl (fun p hp => by have := okP_key p ((mayB_rise _ hsm).2 p hp); omega)
        have hbx : bX (setL s.1 k u) = buildN (setL s.1 k u) := by unfold bX; rw [if_pos hsm]
        rw [hbx] at hbd
        clear P K hr hk he hmay hle hrl hsm hsl hbx h16 hus
        go_enter Tryd.func12, Tryd.ntmps12
        go_wp2_with fail
        refine Calls.mono hp ?_
        rintro _ W1 ⟨a, n, c, rfl, L1, N1⟩
        have HL1 : Hid (Ls W1 2 (.slice a n c) (s.1.map prC)) := L1
        clear hp L1
        go_wp2_with (first
          | (refine wpList_alloc_at (by rfl) 8 (by rfl) 57 (by rfl) _ _ _ info37 ?_; intro W2 R2 N2)
          | (refine wpList_store_new (by rfl) 57 _ _ (by rfl) W1.heap.size #[.slice a n c, .bool true] (by rfl) (by rfl) 57 _ R2 i37 rfl (got_one _ _ _ _) ?_; intro W3 R3 B3; have N3 : New W1 W3 := B3.new N2 (Nat.le_refl _); have y1 := R3.has 1 (v := .bool true) rfl; have y0 := R3.has 0 (v := .slice a n c) rfl))
        refine Calls.mono (hky _) ?_
        rintro _ W3 ⟨rfl, rfl⟩
        clear hky
        go_wp2_with fail
        refine Calls.mono (hset (HL1.out.after N3)) ?_
        rintro _ W4 ⟨v4, rfl, Q4, N4⟩
        have HQ4 : Hid (Pl W4 (Fresh W3) 25 2 v4 ((setL s.1 k u).map prC)) := Q4
        clear hset Q4
        go_wp2_with fail
        refine Calls.mono (hbd HQ4.out.ls) ?_
        rintro _ W5 ⟨a5, n5, c5, b5, m5, d5, rfl, L5, _, N5⟩
        have HL5 : Hid (Ls W5 20 (.slice a5 n5 c5) ((buildN (setL s.1 k u)).map ndC)) := L5
        have hf := field_T a5 n5 c5 b5 m5 d5 (mayB (setL s.1 k u))
        clear hbd L5
        go_wp2_with fail
        go_ret2
        exact ⟨_, rfl, HL5.out, ((N1.trans N3).trans N4).trans N5⟩
      · have he : errP (k, u) = 10 := by unfold errP; rw [if_neg (by rw [hk]; simp), if_pos (by show 16 < u.length; omega)]
        rw [allP_one hr, he, if_neg (by decide)]
        have h16b : decide ((16 : Int) < ((bs u).size : Int)) = true := decide_eq_true (by omega)
        clear P K hr hk he hmay hle hrl h16 hus
        go_enter Tryd.func12, Tryd.ntmps12
        go_wp2_with fail
        refine Calls.mono hp ?_
        rintro _ W1 ⟨a, n, c, rfl, _, N1⟩
        clear hp
        go_wp2_with (first
          | (refine wpList_alloc_at (by rfl) 8 (by rfl) 57 (by rfl) _ _ _ info37 ?_; intro W2 R2 N2)
          | (refine wpList_store_new (by rfl) 57 _ _ (by rfl) W1.heap.size #[.slice a n c, .bool true] (by rfl) (by rfl) 57 _ R2 i37 rfl (got_one _ _ _ _) ?_; intro W3 R3 B3; have N3 : New W1 W3 := B3.new N2 (Nat.le_refl _); have y1 := R3.has 1 (v := .bool true) rfl))
        refine Calls.mono (hky _) ?_
        rintro _ W3 ⟨rfl, rfl⟩
        go_wp2_with fail
        go_ret2
        exact ⟨.slice none 0 0, rfl, Ls.nil _ _, N1.trans N3⟩
end Go.Proofs.YtjpjcojabjkaaaaDoor
namespace Go.Proofs.YtjpjcojabjkaaaaDoor
open Go.RowKit
set_option maxRecDepth 20000
set_option linter.unusedVariables false

section
variable {P : Program} {Q : Exit → Act → World → Prop}
/-- A region that draws: what it reads first, then what is left. -/
theorem region_reads {id : Nat} {a : Act} {w : World} {l : List Oper} (rs : List Nat) (n z : Nat) (S : World → Prop) (hS : S w.drew) (hm : P.follows .mixedOrders = true)
    (hB : (Region.noSelect l.toArray && insideB l.length rs && readsB .any l.toArray z rs (Array.replicate l.toArray.size false) && (rs.length + n == l.length)) = true) (hQ : ∀ d v c a w, Q (.panic c) (a.put d v) w → Q (.panic c) a w)
    (h : wpQuiet P l.toArray S (fun a' => wpG P .any l.toArray Q S z n (fullAt rs (Array.replicate l.toArray.size false)) a' w.drew) (pick l rs) a) : (Code.region id l.toArray true).wp P Q a w := by
  simp only [Bool.and_eq_true, beq_iff_eq] at hB
  obtain ⟨⟨⟨h1, h2⟩, h3⟩, h4⟩ := hB
  refine wpG.region z S hm ?_
  have := wpG.reads (P := P) (Q := Q) (S := S) (z := z) (md := .any) h1 hQ rs n (Array.replicate l.toArray.size false) a w.drew hS h2 h3 h
  rw [h4] at this
  exact this
end
/-- What is known behind so many pairs. -/
structure RAl (s l : List Pr) (B k : Nat) (cur : List Pr) : Prop where
  may : mayB cur = true
  few : (buildN cur).length ≤ B + 3 * k
  rest : allL s l = allL cur (l.drop k)
theorem RAl.step {s l : List Pr} {B k : Nat} {cur : List Pr} (h : RAl s l B k cur) (hk : k < l.length) {p : Pr} (hp : l.getD k ([], []) = p) (h0 : errP p = 0) : RAl s l B (k + 1) (setL cur p.1 p.2) := by
  obtain ⟨h1, h2⟩ := errP_zero h0
  refine ⟨set_may h.may h1 h2, ?_, ?_⟩
  · have := (set_nodes h.may h1 h2).2.2
    have := h.few
    omega
  · rw [h.rest, List.drop_eq_getElem_cons hk]
    have : l[k] = p := by rw [← hp, List.getD_eq_getElem?_getD, List.getElem?_eq_getElem hk]; rfl
    rw [this]
    show (if errP p = 0 then _ else _) = _
    rw [if_pos h0]
theorem RAl.bad {s l : List Pr} {B k : Nat} {cur : List Pr} (h : RAl s l B k cur) (hk : k < l.length) {p : Pr} (hp : l.getD k ([], []) = p) (h0 : errP p ≠ 0) : allL s l = ([], errP p) := by
  rw [h.rest, List.drop_eq_getElem_cons hk]
  have : l[k] = p := by rw [← hp, List.getD_eq_getElem?_getD, List.getElem?_eq_getElem hk]; rfl
  rw [this]
  show (if errP p = 0 then _ else _) = _
  rw [if_neg h0]
set_option maxHeartbeats 8000000 in
theorem rall_any13 {w : World} {v lv : Value} {t : List Nd} {l : List Pr} (P : Ls w 20 v (t.map ndC)) (K : TOk t) (ht : t.length ≤ 4000) (L : Ls w 2 lv (l.map prC)) (hl : l.length ≤ 1000) :
    Calls Tryd.prog 14 #[v, lv] w fun e w' => ∃ v', e = .returned (.tuple #[v', .int .i64 (allP t l).2]) ∧ Ls w' 20 v' ((allP t l).1.map ndC) ∧ New w w' := by
  have hg := refGood_any26 P K
  have HP : Hid (Ls w 20 v (t.map ndC)) := P
  obtain ⟨a0, c0, hv0⟩ := P.size
  obtain ⟨al, cl, rfl, hcl, HS⟩ := L.open ([], [])
  unfold okT at hg
  cases hr : readF t with
  | none =>
    rw [allP_none hr]
    rw [hr] at hg
    clear P K hr L HS hv0
    go_enter Tryd.func14, Tryd.ntmps14
    go_wp2_with fail
    refine Calls.mono hg ?_
    rintro _ W1 ⟨rfl, N1⟩
    go_wp2_with fail
    go_ret2
    exact ⟨.slice none 0 0, rfl, Ls.nil _ _, N1⟩
  | some s =>
    rw [hr] at hg
    have HA : Hid (allP t l = if (allL s.1 l).2 = 0 then (buildN (allL s.1 l).1, 0) else ([], (allL s.1 l).2)) := allP_some hr l
    have hok := readF_ok hr
    have HR0 : Hid (RAl s.1 l 4000 0 s.1) := ⟨hok.1, by rw [← hok.2.1]; omega, by rw [List.drop_zero]⟩
    have HT : Hid (t = buildN s.1) := hok.2.1
    clear P K hr L hv0 hok
    go_enter Tryd.func14, Tryd.ntmps14
    go_wp2_with fail
    refine Calls.mono hg ?_
    rintro _ W1 ⟨rfl, N1⟩
    clear hg
    go_wp2_with fail
    go_loopw [0, 6] (fun s0 i wr => ∃ (k : Nat) (cur : List Pr), k ≤ l.length ∧ i = .int .i64 (k : Int) ∧ Hid (Ls wr 20 s0 ((buildN cur).map ndC)) ∧ Hid (New w wr) ∧ Hid (RAl s.1 l 4000 k cur)) (fun _ i _ => l.length - (intOf i).toNat)
    case atStart => exact ⟨0, s.1, by omega, rfl, by show Ls _ _ _ _; rw [← HT.out]; exact HP.out.after N1, N1, HR0.out⟩
    case round =>
      clear N1 HR0
      obtain ⟨k, cur, hk, rfl, hq, hN, hR⟩ := hrel
      by_cases hlt : k < l.length
      · obtain ⟨gl, o, rfl, hgl, hrr⟩ := HS.out (by omega)
        have R2 := hrr wr hN.out k hlt
        obtain ⟨p, hp⟩ : ∃ p, l.getD k ([], []) = p := ⟨_, rfl⟩
        rw [hp] at R2
        have hki : (k : Int) < (l.length : Int) := by omega
        have hkn : (0 : Int) ≤ (k : Int) := by omega
        have c0 : wr.cell? ⟨gl, o + k * 2, none⟩ = some (.string (bs p.1)) := by have := R2 0 (.string (bs p.1)) rfl; simpa using this
        have c1 : wr.cell? ⟨gl, o + k * 2 + 1, none⟩ = some (.string (bs p.2)) := R2 1 (.string (bs p.2)) rfl
        have hf9 := hR.out.few
        have hrf := fun {W : World} {x : Value} (Lx : Ls W 20 x ((buildN cur).map ndC)) => rof_any13 Lx (build_ok' hR.out.may (by omega)) (by omega) p.1 p.2
        rw [allP_one_build hR.out.may] at hrf
        obtain ⟨av, cv, hav, _⟩ := id hq.out
        rw [List.length_map] at hav
        subst hav
        have HLT : Hid (k < l.length) := hlt
        by_cases he : errP p = 0
        · rw [if_pos he] at hrf
          have HNX : Hid (RAl s.1 l 4000 (k + 1) (setL cur p.1 p.2)) := hR.out.step hlt hp he
          clear hp he hrr R2 hf9
          go_wp2_with fail
          have hS : HasL [(gl, o + k * 2, .string (bs p.1)), (gl, o + k * 2 + 1, .string (bs p.2))] wr.drew := HasL.of fun x hx => by
            simp only [List.mem_cons, List.not_mem_nil, or_false] at hx
            rcases hx with rfl | rfl
            · exact c0
            · exact c1
          have hne : Nonempty (CsW [(gl, o + k * 2, .string (bs p.1)), (gl, o + k * 2 + 1, .string (bs p.2))]) := ⟨hS.choose⟩
          have q0 : ∀ q : CsW [(gl, o + k * 2, .string (bs p.1)), (gl, o + k * 2 + 1, .string (bs p.2))], q.v.cell? ⟨gl, o + k * 2, none⟩ = some (.string (bs p.1)) := fun q => q.h (gl, o + k * 2, .string (bs p.1)) (by simp)
          have q1 : ∀ q : CsW [(gl, o + k * 2, .string (bs p.1)), (gl, o + k * 2 + 1, .string (bs p.2))], q.v.cell? ⟨gl, o + k * 2 + 1, none⟩ = some (.string (bs p.2)) := fun q => q.h (gl, o + k * 2 + 1, .string (bs p.2)) (by simp)
          refine region_reads [0, 1, 2, 3, 4, 5, 6, 7, 8, 9, 10] 6 16 (HasL [(gl, o + k * 2, .string (bs p.1)), (gl, o + k * 2 + 1, .string (bs p.2))]) hS (by kernel_rfl) (by kernel_rfl) (fun d _ _ _ _ h => by cases d <;> exact h) ?_
          simp only [pick, List.getElem?_cons_succ, List.getElem?_cons_zero, Option.toList_some, List.cons_append, List.nil_append]
          unfold HasL
          repeat (go_big_quiet_step (fail))
          refine wpQuiet_nil ?_
          clear q0 q1 hne c0 c1
          refine wpG.one 11 (by kernel_rfl) ?_
          refine wpOp_call (some 30) 12 #[.slice av (buildN cur).length cv, .string (bs p.1), .string (bs p.2)] (by rfl) (by rfl) (by rfl) (by go_simp) ?_
          refine Calls.mono (hrf (hq.out.after (New.drew wr))) ?_
          rintro _ W3 ⟨v3, rfl, L3, N3⟩
          have hS3 := hS.new N3
          refine ⟨_, rfl, fun _ => hS3, ?_⟩
          simp only [Act.put, List.setIfInBounds_toArray, List.set_cons_zero, List.set_cons_succ]
          refine wpG.one 12 (by kernel_rfl) ?_
          refine wpOp_run (some 18) (.tuple #[v3, .int .i64 0]) W3 (by rfl) (by rfl) (by rfl) (by go_simp) ⟨fun _ => hS3, ?_⟩
          simp only [Act.put, List.setIfInBounds_toArray, List.set_cons_zero, List.set_cons_succ]
          refine wpG.take (i := 13) (some 31) (v := v3) (by rfl) (by kernel_rfl) (by intro _ _ _ h; exact h) (by rfl) (by rfl) hS3 (fun W _ => by go_simp) ?_
          simp only [Act.put, List.setIfInBounds_toArray, List.set_cons_zero, List.set_cons_succ]
          refine wpG.take (i := 14) (some 32) (v := .int .i64 0) (by rfl) (by kernel_rfl) (by intro _ _ _ h; exact h) (by rfl) (by rfl) hS3 (fun W _ => by go_simp) ?_
          simp only [Act.put, List.setIfInBounds_toArray, List.set_cons_zero, List.set_cons_succ]
          refine wpG.one 15 (by kernel_rfl) ?_
          refine wpOp_run (some 7) v3 W3 (by rfl) (by rfl) (by rfl) (by go_simp) ⟨fun _ => hS3, ?_⟩
          simp only [Act.put, List.setIfInBounds_toArray, List.set_cons_zero, List.set_cons_succ]
          refine wpG.one 16 (by kernel_rfl) ?_
          refine wpOp_run (some 8) (.int .i64 0) W3 (by rfl) (by rfl) (by rfl) (by go_simp) ⟨fun h => absurd rfl h, ?_⟩
          simp only [Act.put, List.setIfInBounds_toArray, List.set_cons_zero, List.set_cons_succ]
          refine wpG.done (by kernel_rfl) ?_ _
          have HL3 : Hid (Ls W3 20 v3 ((buildN (setL cur p.1 p.2)).map ndC)) := L3
          have HN3 : Hid (New w W3) := (hN.out.trans (New.drew wr)).trans N3
          clear hrf L3 N3 hS hS3
          go_wp2_with fail
          exact ⟨⟨k + 1, setL cur p.1 p.2, by omega, by go_num, HL3.out, HN3.out, HNX.out⟩, by simp [intOf]; omega⟩
        · rw [if_neg he] at hrf
          have HBAD : Hid (allP t l = ([], errP p)) := by
            show _ = _
            rw [HA.out, hR.out.bad hlt hp he, if_neg he]
          have hE : errP p = 9 ∨ errP p = 10 := errP_nine.resolve_left he
          obtain ⟨E, hEe⟩ : ∃ x, errP p = x := ⟨_, rfl⟩
          rw [hEe] at hrf HBAD hE
          clear hEe hp he hrr R2 hf9
          rcases hE with rfl | rfl
          · go_wp2_with fail
            have hS : HasL [(gl, o + k * 2, .string (bs p.1)), (gl, o + k * 2 + 1, .string (bs p.2))] wr.drew := HasL.of fun x hx => by
              simp only [List.mem_cons, List.not_mem_nil, or_false] at hx
              rcases hx with rfl | rfl
              · exact c0
              · exact c1
            have hne : Nonempty (CsW [(gl, o + k * 2, .string (bs p.1)), (gl, o + k * 2 + 1, .string (bs p.2))]) := ⟨hS.choose⟩
            have q0 : ∀ q : CsW [(gl, o + k * 2, .string (bs p.1)), (gl, o + k * 2 + 1, .string (bs p.2))], q.v.cell? ⟨gl, o + k * 2, none⟩ = some (.string (bs p.1)) := fun q => q.h (gl, o + k * 2, .string (bs p.1)) (by simp)
            have q1 : ∀ q : CsW [(gl, o + k * 2, .string (bs p.1)), (gl, o + k * 2 + 1, .string (bs p.2))], q.v.cell? ⟨gl, o + k * 2 + 1, none⟩ = some (.string (bs p.2)) := fun q => q.h (gl, o + k * 2 + 1, .string (bs p.2)) (by simp)
            refine region_reads [0, 1, 2, 3, 4, 5, 6, 7, 8, 9, 10] 6 16 (HasL [(gl, o + k * 2, .string (bs p.1)), (gl, o + k * 2 + 1, .string (bs p.2))]) hS (by kernel_rfl) (by kernel_rfl) (fun d _ _ _ _ h => by cases d <;> exact h) ?_
            simp only [pick, List.getElem?_cons_succ, List.getElem?_cons_zero, Option.toList_some, List.cons_append, List.nil_append]
            unfold HasL
            repeat (go_big_quiet_step (fail))
            refine wpQuiet_nil ?_
            clear q0 q1 hne c0 c1
            refine wpG.one 11 (by kernel_rfl) ?_
            refine wpOp_call (some 30) 12 #[.slice av (buildN cur).length cv, .string (bs p.1), .string (bs p.2)] (by rfl) (by rfl) (by rfl) (by go_simp) ?_
            refine Calls.mono (hrf (hq.out.after (New.drew wr))) ?_
            rintro _ W3 ⟨v3, rfl, L3, N3⟩
            have hS3 := hS.new N3
            refine ⟨_, rfl, fun _ => hS3, ?_⟩
            simp only [Act.put, List.setIfInBounds_toArray, List.set_cons_zero, List.set_cons_succ]
            refine wpG.one 12 (by kernel_rfl) ?_
            refine wpOp_run (some 18) (.tuple #[v3, .int .i64 9]) W3 (by rfl) (by rfl) (by rfl) (by go_simp) ⟨fun _ => hS3, ?_⟩
            simp only [Act.put, List.setIfInBounds_toArray, List.set_cons_zero, List.set_cons_succ]
            refine wpG.take (i := 13) (some 31) (v := v3) (by rfl) (by kernel_rfl) (by intro _ _ _ h; exact h) (by rfl) (by rfl) hS3 (fun W _ => by go_simp) ?_
            simp only [Act.put, List.setIfInBounds_toArray, List.set_cons_zero, List.set_cons_succ]
            refine wpG.take (i := 14) (some 32) (v := .int .i64 9) (by rfl) (by kernel_rfl) (by intro _ _ _ h; exact h) (by rfl) (by rfl) hS3 (fun W _ => by go_simp) ?_
            simp only [Act.put, List.setIfInBounds_toArray, List.set_cons_zero, List.set_cons_succ]
            refine wpG.one 15 (by kernel_rfl) ?_
            refine wpOp_run (some 7) v3 W3 (by rfl) (by rfl) (by rfl) (by go_simp) ⟨fun _ => hS3, ?_⟩
            simp only [Act.put, List.setIfInBounds_toArray, List.set_cons_zero, List.set_cons_succ]
            refine wpG.one 16 (by kernel_rfl) ?_
            refine wpOp_run (some 8) (.int .i64 9) W3 (by rfl) (by rfl) (by rfl) (by go_simp) ⟨fun h => absurd rfl h, ?_⟩
            simp only [Act.put, List.setIfInBounds_toArray, List.set_cons_zero, List.set_cons_succ]
            refine wpG.done (by kernel_rfl) ?_ _
            have HN3 : Hid (New w W3) := (hN.out.trans (New.drew wr)).trans N3
            clear hrf N3 hS hS3 L3
            go_wp2_with fail
            go_ret2
            exact ⟨.slice none 0 0, by rw [HBAD.out]; rfl, by rw [HBAD.out]; exact Ls.nil _ _, HN3.out⟩
          · go_wp2_with fail
            have hS : HasL [(gl, o + k * 2, .string (bs p.1)), (gl, o + k * 2 + 1, .string (bs p.2))] wr.drew := HasL.of fun x hx => by
              simp only [List.mem_cons, List.not_mem_nil, or_false] at hx
              rcases hx with rfl | rfl
              · exact c0
              · exact c1
            have hne : Nonempty (CsW [(gl, o + k * 2, .string (bs p.1)), (gl, o + k * 2 + 1, .string (bs p.2))]) := ⟨hS.choose⟩
            have q0 : ∀ q : CsW [(gl, o + k * 2, .string (bs p.1)), (gl, o + k * 2 + 1, .string (bs p.2))], q.v.cell? ⟨gl, o + k * 2, none⟩ = some (.string (bs p.1)) := fun q => q.h (gl, o + k * 2, .string (bs p.1)) (by simp)
            have q1 : ∀ q : CsW [(gl, o + k * 2, .string (bs p.1)), (gl, o + k * 2 + 1, .string (bs p.2))], q.v.cell? ⟨gl, o + k * 2 + 1, none⟩ = some (.string (bs p.2)) := fun q => q.h (gl, o + k * 2 + 1, .string (bs p.2)) (by simp)
            refine region_reads [0, 1, 2, 3, 4, 5, 6, 7, 8, 9, 10] 6 16 (HasL [(gl, o + k * 2, .string (bs p.1)), (gl, o + k * 2 + 1, .string (bs p.2))]) hS (by kernel_rfl) (by kernel_rfl) (fun d _ _ _ _ h => by cases d <;> exact h) ?_
            simp only [pick, List.getElem?_cons_succ, List.getElem?_cons_zero, Option.toList_some, List.cons_append, List.nil_append]
            unfold HasL
            repeat (go_big_quiet_step (fail))
            refine wpQuiet_nil ?_
            clear q0 q1 hne c0 c1
            refine wpG.one 11 (by kernel_rfl) ?_
            refine wpOp_call (some 30) 12 #[.slice av (buildN cur).length cv, .string (bs p.1), .string (bs p.2)] (by rfl) (by rfl) (by rfl) (by go_simp) ?_
            refine Calls.mono (hrf (hq.out.after (New.drew wr))) ?_
            rintro _ W3 ⟨v3, rfl, L3, N3⟩
            have hS3 := hS.new N3
            refine ⟨_, rfl, fun _ => hS3, ?_⟩
            simp only [Act.put, List.setIfInBounds_toArray, List.set_cons_zero, List.set_cons_succ]
            refine wpG.one 12 (by kernel_rfl) ?_
            refine wpOp_run (some 18) (.tuple #[v3, .int .i64 10]) W3 (by rfl) (by rfl) (by rfl) (by go_simp) ⟨fun _ => hS3, ?_⟩
            simp only [Act.put, List.setIfInBounds_toArray, List.set_cons_zero, List.set_cons_succ]
            refine wpG.take (i := 13) (some 31) (v := v3) (by rfl) (by kernel_rfl) (by intro _ _ _ h; exact h) (by rfl) (by rfl) hS3 (fun W _ => by go_simp) ?_
            simp only [Act.put, List.setIfInBounds_toArray, List.set_cons_zero, List.set_cons_succ]
            refine wpG.take (i := 14) (some 32) (v := .int .i64 10) (by rfl) (by kernel_rfl) (by intro _ _ _ h; exact h) (by rfl) (by rfl) hS3 (fun W _ => by go_simp) ?_
            simp only [Act.put, List.setIfInBounds_toArray, List.set_cons_zero, List.set_cons_succ]
            refine wpG.one 15 (by kernel_rfl) ?_
            refine wpOp_run (some 7) v3 W3 (by rfl) (by rfl) (by rfl) (by go_simp) ⟨fun _ => hS3, ?_⟩
            simp only [Act.put, List.setIfInBounds_toArray, List.set_cons_zero, List.set_cons_succ]
            refine wpG.one 16 (by kernel_rfl) ?_
            refine wpOp_run (some 8) (.int .i64 10) W3 (by rfl) (by rfl) (by rfl) (by go_simp) ⟨fun h => absurd rfl h, ?_⟩
            simp only [Act.put, List.setIfInBounds_toArray, List.set_cons_zero, List.set_cons_succ]
            refine wpG.done (by kernel_rfl) ?_ _
            have HN3 : Hid (New w W3) := (hN.out.trans (New.drew wr)).trans N3
            clear hrf N3 hS hS3 L3
            go_wp2_with fail
            go_ret2
            exact ⟨.slice none 0 0, by rw [HBAD.out]; rfl, by rw [HBAD.out]; exact Ls.nil _ _, HN3.out⟩
      · obtain rfl : k = l.length := by omega
        have hrest := hR.out.rest
        rw [List.drop_length] at hrest
        have hrest2 : allL s.1 l = (cur, 0) := hrest
        have HFIN : Hid (allP t l = (buildN cur, 0)) := by
          show _ = _
          rw [HA.out, hrest2, if_pos rfl]
        clear hrest hrest2
        go_wp2_with fail
        go_ret2
        exact ⟨u0, by rw [HFIN.out]; rfl, by rw [HFIN.out]; exact hq.out, hN.out⟩
end Go.Proofs.YtjpjcojabjkaaaaDoor
namespace Go.Proofs.YtjpjcojabjkaaaaDoor
open Go.RowKit
set_option maxRecDepth 20000
set_option linter.unusedVariables false

def wa : List Pr := [([97], [49])]
def wm : List Pr := [([97, 98], [50]), ([98], []), ([97], [51])]
def wz : List Pr := [([97], [51]), ([97, 98], [50]), ([98], [])]
def wg : Bt := [48, 49, 50, 51, 52, 53, 54, 55, 56, 57, 97, 98, 99, 100, 101, 102, 103]
theorem wa_may : mayB wa = true := by decide
theorem wz_may : mayB wz = true := by decide
theorem wa_len : (buildN wa).length = 1 := by decide +kernel
theorem wz_len : (buildN wz).length = 5 := by decide +kernel
theorem wa_tok : TOk (buildN wa) := build_ok' wa_may (by rw [wa_len]; decide)
theorem no_tok : TOk [] := ⟨(fun _ h => by cases h), Nat.zero_le _, (fun _ h => by cases h)⟩
theorem w_1 : allP [] [([97], [49])] = (buildN wa, 0) := by
  have := allP_build (c := []) rfl [([97], [49])]
  rw [bN_nil] at this
  rw [this]; rfl
theorem w_2 : allP (buildN wa) wm = (buildN wz, 0) := by
  have e : allL wa wm = (wz, 0) := by decide +kernel
  rw [allP_build wa_may, e, if_pos rfl]
theorem w_3 : allP (buildN wa) [([], [49])] = ([], 9) := by
  rw [allP_one_build wa_may]; rfl
theorem w_4 : allP (buildN wa) [([97], wg)] = ([], 10) := by
  rw [allP_one_build wa_may]; rfl
theorem wz_bX : bX wz = buildN wz := by unfold bX; rw [if_pos wz_may]
set_option maxHeartbeats 16000000 in
theorem wakes_any (w : World) (hT : Tab w) :
    Calls Tryd.prog 10 #[] w fun e w' => e = .returned (.bool true) ∧ New w w' := by
  have h1 := of_any13 (Ls.nil w 20) no_tok hT [97] [49]
  rw [w_1] at h1
  have h2 := fun {W : World} {v lv : Value} (N : New w W) (P : Ls W 20 v ((buildN wa).map ndC)) (L : Ls W 2 lv (wm.map prC)) => all_any13 P wa_tok (hT.kept N) L (by decide)
  rw [w_2] at h2
  have h3 := fun {W : World} {v : Value} (N : New w W) (P : Ls W 20 v ((buildN wa).map ndC)) => of_any13 P wa_tok (hT.kept N) [] [49]
  rw [w_3] at h3
  have h4 := fun {W : World} {v : Value} (N : New w W) (P : Ls W 20 v ((buildN wa).map ndC)) => of_any13 P wa_tok (hT.kept N) [97] wg
  rw [w_4] at h4
  rw [show bs [97] = (⟨#[97]⟩ : ByteArray) from rfl, show bs [49] = (⟨#[49]⟩ : ByteArray) from rfl] at h1
  rw [show bs [] = (⟨#[]⟩ : ByteArray) from rfl, show bs [49] = (⟨#[49]⟩ : ByteArray) from rfl] at h3
  rw [show bs [97] = (⟨#[97]⟩ : ByteArray) from rfl, show bs wg = (⟨#[48, 49, 50, 51, 52, 53, 54, 55, 56, 57, 97, 98, 99, 100, 101, 102, 103]⟩ : ByteArray) from rfl] at h4
  clear hT
  go_enter Tryd.func10, Tryd.ntmps10
  go_wp2_with fail
  refine Calls.mono h1 ?_
  rintro _ W1 ⟨v1, rfl, Q1, N1⟩
  have L1 : Ls W1 20 v1 ((buildN wa).map ndC) := Q1.ls
  obtain ⟨a1, c1, e⟩ := L1.size
  rw [List.length_map, wa_len] at e
  subst e
  have HL1 : Hid (Ls W1 20 (.slice a1 1 c1) ((buildN wa).map ndC)) := L1
  have N1 : New w W1 := N1
  clear h1 Q1 L1
  go_wp2_with fail
  have N2 : New W1 (W1.alloc (.cells ((wm.map prC).flatten.toArray) 25)) := (New.refl W1).alloc _
  refine Calls.mono (h2 (N1.trans N2) (HL1.out.after N2) (rows_ls (l := wm) (Row.new W1 ((wm.map prC).flatten.toArray) 25) rfl (by decide))) ?_
  rintro _ W3 ⟨v3, rfl, Q3, N3⟩
  have M3 : New w W3 := (N1.trans N2).trans N3
  have HL3 : Hid (Ls W3 20 (.slice a1 1 c1) ((buildN wa).map ndC)) := (HL1.out.after N2).after N3
  have L3 : Ls W3 20 v3 ((buildN wz).map ndC) := Q3.ls
  obtain ⟨a3, c3, e⟩ := L3.size
  rw [List.length_map, wz_len] at e
  subst e
  have HM3 : Hid (Ls W3 20 (.slice a3 5 c3) ((buildN wz).map ndC)) := L3
  clear h2 Q3 L3 N2 N3 HL1 N1
  go_wp2_with fail
  refine Calls.mono (h3 M3 HL3.out) ?_
  rintro _ W4 ⟨v4, rfl, _, N4⟩
  have M4 := M3.trans N4
  have HL4 : Hid (Ls W4 20 (.slice a1 1 c1) ((buildN wa).map ndC)) := HL3.out.after N4
  have HM4 : Hid (Ls W4 20 (.slice a3 5 c3) ((buildN wz).map ndC)) := HM3.out.after N4
  clear h3 HL3 HM3 M3 N4
  go_wp2_with fail
  refine Calls.mono (h4 M4 HL4.out) ?_
  rintro _ W5 ⟨v5, rfl, _, N5⟩
  have M5 := M4.trans N5
  have HM5 : Hid (Ls W5 20 (.slice a3 5 c3) ((buildN wz).map ndC)) := HM4.out.after N5
  clear h4 HL4 HM4 M4 N5
  go_wp2_with fail
  have N6 : New W5 (W5.alloc (.cells ((wz.map prC).flatten.toArray) 25)) := (New.refl W5).alloc _
  have hb := r_build (rows_ls (l := wz) (Row.new W5 ((wz.map prC).flatten.toArray) 25) rfl (by decide)) (by decide) (by decide)
  rw [wz_may, wz_bX] at hb
  refine Calls.mono hb ?_
  rintro _ W7 ⟨a, n, c, b, m, d, rfl, L7, _, N7⟩
  have HL7 : Hid (Ls W7 20 (.slice a n c) ((buildN wz).map ndC)) := L7
  have M7 : New w W7 := (M5.trans N6).trans N7
  have HM7 : Hid (Ls W7 20 (.slice a3 5 c3) ((buildN wz).map ndC)) := (HM5.out.after N6).after N7
  have hf := field_T a n c b m d true
  clear hb L7 HM5 M5 N6 N7
  go_wp2_with fail
  have h16 := build_k16 wz_may
  refine Calls.mono (keepTrie_any HM7.out HL7.out h16 h16 (by rw [wz_len]; decide) (by rw [wz_len]; decide)) ?_
  rw [decide_eq_true rfl]
  rintro _ W8 ⟨rfl, N8⟩
  have M8 : New w W8 := M7.trans N8
  clear HM7 HL7 M7 N8 hf
  go_wp2_with fail
  go_ret
  exact ⟨rfl, M8⟩
end Go.Proofs.YtjpjcojabjkaaaaDoor
