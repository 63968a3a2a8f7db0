/-
  How long what is gathered may be, and what comes of a step. Plain mathematics.
-/
import Derived.Test.YtelaiblhnhbgiaaDoorTrCmp
namespace Go.Proofs.YtelaiblhnhbgiaaDoor
set_option maxRecDepth 20000

theorem kidP_len {kind : Int} {e : Bt} {c : Nat} (h : e.length ≤ 16) : (kidP kind e c).length ≤ 17 := by
  unfold kidP
  split
  · omega
  · rw [List.length_append]; simp; omega
theorem kidsG_succ {len i : Nat} {kind : Int} {e : Bt} {ks : List Int} {ps q : List Bt} {c : Nat} (h : kidsG len i kind e ks ps c = some q) : kidsG len i kind e ks ps (c + 1) =
    if ks.getD c 0 = 0 then some q else if ks.getD c 0 ≤ (i : Int) ∨ (len : Int) ≤ ks.getD c 0 then none else some (q.set (ks.getD c 0).toNat (kidP kind e c)) := by
  show (match kidsG len i kind e ks ps c with | none => none | some q => _) = _
  rw [h]
theorem kidsG_len {len i : Nat} {kind : Int} {e : Bt} {ks : List Int} {ps : List Bt} (he : e.length ≤ 16) (hp : ∀ x ∈ ps, x.length ≤ 17) : ∀ {c : Nat} {q : List Bt}, kidsG len i kind e ks ps c = some q → ∀ x ∈ q, x.length ≤ 17
  | 0, q, h => by rw [← Option.some.inj h]; exact hp
  | c + 1, q, h => by
    cases hq : kidsG len i kind e ks ps c with
    | none =>
      have := kidsG_none hq 1
      rw [this] at h; cases h
    | some q' =>
      rw [kidsG_succ hq] at h
      have ih := kidsG_len he hp hq
      split at h
      · rw [← Option.some.inj h]; exact ih
      · split at h
        · cases h
        · rw [← Option.some.inj h]
          intro x hx
          rcases List.mem_or_eq_of_mem_set hx with h1 | rfl
          · exact ih x h1
          · exact kidP_len he
theorem goodB_len {l : Bt} (h : goodB l = true) : l.length ≤ 16 := by
  unfold goodB at h; rw [Bool.and_eq_true, decide_eq_true_eq] at h; exact h.1
structure GatOk (t : List Nd) (i : Nat) (s : List Pr × List Bt) : Prop where
  few : s.1.length ≤ i
  len : s.2.length = t.length
  pair : ∀ p ∈ s.1, p.1.length ≤ 8 ∧ p.2.length ≤ 4000
  path : ∀ x ∈ s.2, x.length ≤ 17
theorem gatN_succ {t : List Nd} {i : Nat} {s : List Pr × List Bt} (h : gatN t i = some s) : gatN t (i + 1) = gatS t i s := by
  show (match gatN t i with | none => none | some s => gatS t i s) = _
  rw [h]
theorem gat_ok {t : List Nd} (hv : ∀ m ∈ t, m.val.length ≤ 4000) : ∀ {i : Nat} {s : List Pr × List Bt}, i ≤ t.length → gatN t i = some s → GatOk t i s
  | 0, s, _, h => by
    rw [← Option.some.inj h]
    exact ⟨Nat.le_refl _, by simp, fun p hp => by simp at hp, fun x hx => by rw [(List.mem_replicate.1 hx).2]; simp⟩
  | i + 1, s, hi, h => by
    cases hq : gatN t i with
    | none =>
      have := gatN_none hq 1
      rw [this] at h; cases h
    | some s' =>
      rw [gatN_succ hq] at h
      have ih := gat_ok hv (by omega) hq
      unfold gatS at h
      split at h
      · cases h
      · next hg =>
        have hg16 : (s'.2.getD i [] ++ (t.getD i noNd).path).length ≤ 16 := goodB_len (eq_true_of_ne_false hg)
        split at h
        · cases h
        · split at h
          · cases h
          · next ps hps =>
            rw [← Option.some.inj h]
            refine ⟨?_, by rw [kidsG_length hps]; exact ih.len, ?_, kidsG_len hg16 ih.path hps⟩
            · have h1 := ih.few
              show (if (t.getD i noNd).has = true then s'.1 ++ [(joinL (s'.2.getD i [] ++ (t.getD i noNd).path), (t.getD i noNd).val)] else s'.1).length ≤ i + 1
              split
              · rw [List.length_append, List.length_singleton]; omega
              · omega
            · intro p hp
              simp only at hp
              split at hp
              · rcases List.mem_append.1 hp with h1 | h1
                · exact ih.pair p h1
                · obtain rfl := List.mem_singleton.1 h1
                  refine ⟨?_, hv _ (getD_mem (by omega))⟩
                  show (joinL (s'.2.getD i [] ++ (t.getD i noNd).path)).length ≤ 8
                  rw [joinL_length]; omega
              · exact ih.pair p hp
/-- The ways of a step. -/
theorem gatS_bad {t : List Nd} {i : Nat} {s : List Pr × List Bt} {m : Nd} {e : Bt} (hm : t.getD i noNd = m) (he : s.2.getD i [] ++ m.path = e) (h : goodB e = false) : gatS t i s = none := by
  unfold gatS; rw [hm, he, if_pos h]
theorem gatS_key {t : List Nd} {i : Nat} {s : List Pr × List Bt} {m : Nd} {e : Bt} (hm : t.getD i noNd = m) (he : s.2.getD i [] ++ m.path = e) (h : goodB e = true) (hk : (m.has && !keyB e) = true) : gatS t i s = none := by
  unfold gatS; rw [hm, he, if_neg (by rw [h]; simp), if_pos hk]
theorem gatS_go {t : List Nd} {i : Nat} {s : List Pr × List Bt} {m : Nd} {e : Bt} (hm : t.getD i noNd = m) (he : s.2.getD i [] ++ m.path = e) (h : goodB e = true) (hk : (m.has && !keyB e) = false) : gatS t i s =
    (match kidsG t.length i m.kind e m.kids s.2 16 with | none => none | some ps => some (if m.has then s.1 ++ [(joinL e, m.val)] else s.1, ps)) := by
  unfold gatS; rw [hm, he, if_neg (by rw [h]; simp), if_neg (by rw [hk]; simp)]
  cases kidsG t.length i m.kind e m.kids s.2 16 <;> rfl

end Go.Proofs.YtelaiblhnhbgiaaDoor
