/-
  With one text ahead of all keys a trie is the same, but for its first node's Path. Plain mathematics.
-/
import Derived.Test.YtelaiblhnhbgiaaDoorTrRead
namespace Go.Proofs.YtelaiblhnhbgiaaDoor
set_option maxRecDepth 20000

def pmP (q : Bt) (p : Pr) : Pr := (q ++ p.1, p.2)
theorem pm_drop (q a : Bt) (n : Nat) : (q ++ a).drop (q.length + n) = a.drop n := by
  rw [List.drop_append, List.drop_eq_nil_of_le (by omega), List.nil_append]; congr 1; omega
theorem pm_headK (q : Bt) {l : List Pr} (h : l ≠ []) : headK (l.map (pmP q)) = q ++ headK l := by
  cases l with
  | nil => exact absurd rfl h
  | cons p r => rfl
theorem pm_lastL (q : Bt) {l : List Pr} (h : l ≠ []) : lastL (l.map (pmP q)) = q ++ lastL l := by
  unfold lastL
  rw [List.getLast?_map, List.getLast?_eq_some_getLast h]; rfl
theorem pm_comG (q : Bt) (l : List Pr) (n : Nat) : comG (l.map (pmP q)) (q.length + n) = comG l n := by
  by_cases h : l = []
  · subst h
    unfold comG
    simp [headK, lastL, comN]
  · unfold comG
    rw [pm_headK q h, pm_lastL q h, pm_drop, pm_drop]
theorem pm_ends (q : Bt) (l : List Pr) (n : Nat) : endsB (l.map (pmP q)) (q.length + n) = endsB l n := by
  cases l with
  | nil => rfl
  | cons p r =>
    show decide ((q ++ p.1).length = q.length + n) = decide (p.1.length = n)
    rw [List.length_append, Bool.eq_iff_iff, decide_eq_true_eq, decide_eq_true_eq]; omega
theorem pm_rest (q : Bt) (l : List Pr) (n : Nat) : restL (l.map (pmP q)) (q.length + n) = (restL l n).map (pmP q) := by
  unfold restL
  rw [pm_ends]
  split
  · rw [List.map_tail]
  · rfl
theorem pm_nib (q : Bt) (p : Pr) (n : Nat) : nib (pmP q p) (q.length + n) = nib p n := by
  unfold nib pmP
  rw [List.getD_eq_getElem?_getD, List.getD_eq_getElem?_getD, List.getElem?_append_right (by omega), show q.length + n - q.length = n by omega]
theorem pm_grp (q : Bt) (l : List Pr) (n h : Nat) : grp (l.map (pmP q)) (q.length + n) h = (grp l n h).map (pmP q) := by
  unfold grp
  rw [List.filter_map]
  congr 1
  apply List.filter_congr
  intro p _
  show (nib (pmP q p) (q.length + n) == h) = _
  rw [pm_nib]
theorem kidsW_same (G G' : List Pr → Nat → List NP) (gs gs' : Nat → List Pr) (hg : ∀ h, gs h = [] ↔ gs' h = []) (hG : ∀ h b b', (G (gs h) b).length = (G' (gs' h) b').length) (b b' : Nat) : ∀ h, (kidsW G gs b h).2.length = (kidsW G' gs' b' h).2.length
  | 0 => rfl
  | h + 1 => by
    have ih := kidsW_same G G' gs gs' hg hG b b' h
    show (if gs h = [] then _ else _ : List Int × List NP).2.length = (if gs' h = [] then _ else _ : List Int × List NP).2.length
    by_cases e : gs h = []
    · rw [if_pos e, if_pos ((hg h).1 e)]; exact ih
    · rw [if_neg e, if_neg (fun e' => e ((hg h).2 e'))]
      simp only [List.length_append, ih]
      rw [hG h _ (b' + (kidsW G' gs' b' h).2.length)]
theorem fork_same (q : Bt) (f : Nat) (ih : ∀ (l : List Pr) (n b b' : Nat), (grow f (l.map (pmP q)) (q.length + n) b).length = (grow f l n b').length) (l : List Pr) (n b b' : Nat) :
    (forkW (fun g => grow f g (q.length + n + 1)) (l.map (pmP q)) (q.length + n) b).length = (forkW (fun g => grow f g (n + 1)) l n b').length := by
  unfold forkW
  simp only [List.length_cons]
  congr 1
  have e : (fun h => grp (restL (l.map (pmP q)) (q.length + n)) (q.length + n) h) = fun h => (grp (restL l n) n h).map (pmP q) := by
    funext h; rw [pm_rest, pm_grp]
  rw [e]
  exact kidsW_same _ _ _ _ (fun h => by rw [List.map_eq_nil_iff]) (fun h c c' => by rw [Nat.add_assoc]; exact ih _ _ _ _) _ _ 16
theorem grow_same (q : Bt) : ∀ (f : Nat) (l : List Pr) (n b b' : Nat), (grow f (l.map (pmP q)) (q.length + n) b).length = (grow f l n b').length
  | 0, _, _, _, _ => rfl
  | f + 1, l, n, b, b' => by
    unfold grow
    rw [List.length_map, pm_comG]
    by_cases h0 : l.length = 0
    · rw [if_pos h0, if_pos h0]
    rw [if_neg h0, if_neg h0]
    by_cases h1 : l.length = 1
    · rw [if_pos h1, if_pos h1]; rfl
    rw [if_neg h1, if_neg h1]
    by_cases hc : comG l n = 0
    · rw [if_pos hc, if_pos hc]
      exact fork_same q f (grow_same q f) l n b b'
    · rw [if_neg hc, if_neg hc]
      simp only [List.length_cons]
      congr 1
      rw [Nat.add_assoc q.length]
      exact fork_same q f (grow_same q f) l (n + comG l n) (b + 1) (b' + 1)
theorem comN_append (q a b : Bt) : comN (q ++ a) (q ++ b) = q.length + comN a b := by
  induction q with
  | nil => simp
  | cons x q ih =>
    show (if x = x then comN (q ++ a) (q ++ b) + 1 else 0) = _
    rw [if_pos rfl, ih]; simp only [List.length_cons]; omega
/-- A pair with a byte ahead of its key. -/
def byP (y : UInt8) (p : Pr) : Pr := (y :: p.1, p.2)
theorem byP_half (y : UInt8) (l : List Pr) : (l.map (byP y)).map halfP = (l.map halfP).map (pmP [hi y, lo y]) := by
  rw [List.map_map, List.map_map]; rfl
theorem by_ok (y : UInt8) (p : Pr) (h : okP p = true) (h8 : p.1.length < 8) : okP (byP y p) = true := by
  have hk := okP_key p h
  unfold okP byP
  simp only [List.length_cons, Bool.and_eq_true, decide_eq_true_eq]; omega
theorem by_may (y : UInt8) : ∀ {l : List Pr}, mayB l = true → (∀ p ∈ l, p.1.length < 8) → mayB (l.map (byP y)) = true
  | [], _, _ => rfl
  | [p], h, h7 => by
    have h1 : okP p = true := by simpa [mayB] using h
    have := by_ok y p h1 (h7 p (by simp))
    simpa [mayB] using this
  | p :: q :: r, h, h7 => by
    have h : (okP p && (upB p.1 q.1 && mayB (q :: r))) = true := h
    rw [Bool.and_eq_true, Bool.and_eq_true] at h
    obtain ⟨h1, h2, h3⟩ := h
    have ih := by_may y h3 (fun p hp => h7 p (List.mem_cons_of_mem _ hp))
    show (okP (byP y p) && (upB (y :: p.1) (y :: q.1) && mayB ((q :: r).map (byP y)))) = true
    rw [Bool.and_eq_true, Bool.and_eq_true]
    refine ⟨by_ok y p h1 (h7 p (by simp)), ?_, ih⟩
    unfold upB at h2 ⊢
    rw [less_cons, h2]; simp
/-- What a prefix does to a trie. -/
def PreSays (q : Bt) (t u : List Nd) : Prop := ∃ t0 u0 tr ur, t = t0 :: tr ∧ u = u0 :: ur ∧
  ((t0.kind = 3 ∧ ur.length = tr.length + 1 ∧ u0.kind = 2 ∧ u0.path = q ∧ ∃ u1 us, ur = u1 :: us ∧ u1.kind = 3) ∨ (t0.kind ≠ 3 ∧ ur.length = tr.length ∧ u0.kind = t0.kind ∧ u0.path = q ++ t0.path))
theorem pre_says {l : List Pr} (y : UInt8) (hne : l ≠ []) : PreSays [hi y, lo y] (buildN l) (buildN (l.map (byP y))) := by
  have hln : l.map halfP ≠ [] := by simpa using hne
  unfold buildN trieL
  rw [byP_half]
  generalize l.map halfP = k at hln
  have h0 : k.length ≠ 0 := fun e => hln (List.length_eq_zero_iff.1 e)
  generalize hq : ([hi y, lo y] : Bt) = q
  have hql : q.length = 2 := by rw [← hq]; rfl
  unfold grow
  rw [List.length_map, if_neg h0, if_neg h0]
  by_cases h1 : k.length = 1
  · rw [if_pos h1, if_pos h1]
    refine ⟨_, _, [], [], rfl, rfl, .inr ⟨by show (1 : Int) ≠ 3; decide, rfl, rfl, ?_⟩⟩
    show (headK (k.map (pmP q))).drop 0 = q ++ (headK k).drop 0
    rw [pm_headK q hln]; rfl
  rw [if_neg h1, if_neg h1]
  have hcg : comG (k.map (pmP q)) 0 = q.length + comG k 0 := by
    unfold comG
    rw [pm_headK q hln, pm_lastL q hln]
    exact comN_append q (headK k) (lastL k)
  have hpos : comG (k.map (pmP q)) 0 ≠ 0 := by rw [hcg, hql]; omega
  rw [if_neg hpos, hcg]
  simp only [Nat.zero_add]
  have hfs := fork_same q 16 (grow_same q 16) k (comG k 0)
  by_cases hc : comG k 0 = 0
  · rw [if_pos hc]
    have hfs1 := hfs 1 0
    rw [hc] at hfs1
    simp only [Nat.add_zero, Nat.zero_add] at hfs1
    simp only [hc, Nat.add_zero]
    refine ⟨_, _, _, _, rfl, rfl, .inl ⟨rfl, ?_, rfl, ?_, _, _, rfl, rfl⟩⟩
    · rw [List.length_map]
      show (forkW (fun g => grow 16 g (q.length + 1)) (k.map (pmP q)) q.length 1).length = _
      rw [hfs1]
      unfold forkW; simp
    · show ((headK (k.map (pmP q))).drop 0).take q.length = q
      rw [pm_headK q hln, List.drop_zero, List.take_left]
  · rw [if_neg hc]
    refine ⟨_, _, _, _, rfl, rfl, .inr ⟨by show (2 : Int) ≠ 3; decide, ?_, rfl, ?_⟩⟩
    · rw [List.length_map, List.length_map]
      exact hfs 1 1
    · show ((headK (k.map (pmP q))).drop 0).take (q.length + comG k 0) = q ++ ((headK k).drop 0).take (comG k 0)
      rw [pm_headK q hln, List.drop_zero, List.drop_zero, List.take_append]
      congr 1
      · rw [List.take_of_length_le (by omega)]
      · congr 1; omega

end Go.Proofs.YtelaiblhnhbgiaaDoor
