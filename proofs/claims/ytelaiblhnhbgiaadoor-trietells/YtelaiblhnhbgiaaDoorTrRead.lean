/-
  read, Pairs, Paths, Good: of nodes the pairs whose nodes they are.
-/
import Derived.Test.YtelaiblhnhbgiaaDoorTrGath
namespace Go.Proofs.YtelaiblhnhbgiaaDoor
open Go.RowKit
set_option maxRecDepth 20000

theorem build_k16 {l : List Pr} (h : mayB l = true) : ∀ x ∈ buildN l, x.kids.length = 16 := by
  by_cases hne : l = []
  · subst hne
    unfold buildN; rw [trie_nil]; intro x hx; simp at hx
  · intro x hx
    obtain ⟨m, hm, rfl⟩ := List.mem_map.1 hx
    exact blk_kids16 (trie_blk h hne) hm
theorem build_few {l : List Pr} (h : mayB l = true) : (buildN l).length ≤ 3 * l.length := by
  by_cases hne : l = []
  · subst hne
    unfold buildN; rw [trie_nil]; simp
  · have := (trie_blk h hne).few
    unfold buildN
    rw [List.length_map]
    rw [List.length_map] at this
    omega
/-- What read says of nodes. -/
def ReadSays (t : List Nd) (w : World) (e : Ending) (w' : World) : Prop := New w w' ∧
  ((readF t = none ∧ e = .returned (.tuple #[.slice none 0 0, .slice none 0 0, .bool false])) ∨
   (∃ s v1 v2, readF t = some s ∧ e = .returned (.tuple #[v1, v2, .bool true]) ∧ Pl w' (Fresh w) 52 2 v1 (s.1.map prC) ∧ Pl w' (Fresh w) 9 1 v2 (s.2.map txC)))
structure TOk (t : List Nd) : Prop where
  k16 : ∀ x ∈ t, x.kids.length = 16
  few : t.length ≤ 10000
  len : ∀ x ∈ t, x.path.length ≤ 4000 ∧ x.val.length ≤ 4000

set_option maxHeartbeats 2000000 in
theorem read_any {w : World} {v : Value} {t : List Nd} (P : Ls w 20 v (t.map ndC)) (K : TOk t) (hT : Tab w) :
    Calls Tryd.prog 27 #[v] w (ReadSays t w) := by
  have hg := gather_any P K.k16 K.few K.len hT
  have HP : Hid (Ls w 20 v (t.map ndC)) := P
  have hk := K.k16
  have hf := K.few
  have hvl := fun m hm => (K.len m hm).2
  clear P K
  go_enter Tryd.func27, Tryd.ntmps27
  go_wp2_with fail
  refine Calls.mono hg ?_
  rintro _ w1 ⟨N1, ⟨hn, rfl⟩ | ⟨s, v1, v2, hs, rfl, Q1, Q2⟩⟩
  · have HN : Hid (readF t = none) := by
      show _ = _
      unfold readF; rw [hn]
    clear hg hn hk hvl
    go_wp2_with fail
    go_ret3
    exact ⟨N1, .inl ⟨HN.out, rfl⟩⟩
  · have hok := gat_ok hvl (Nat.le_refl _) hs
    have hl4 : s.1.length ≤ 10000 := Nat.le_trans hok.few hf
    have hkl : ∀ p ∈ s.1, p.1.length ≤ 4000 ∧ p.2.length ≤ 4000 := fun p hp => ⟨by have := (hok.pair p hp).1; omega, (hok.pair p hp).2⟩
    have HQ1 : Hid (Pl w1 (Fresh w) 52 2 v1 (s.1.map prC)) := Q1
    have HQ2 : Hid (Pl w1 (Fresh w) 9 1 v2 (s.2.map txC)) := Q2
    have HS : Hid (gatN t t.length = some s) := hs
    obtain ⟨mb, hmb⟩ : ∃ b, mayB s.1 = b := ⟨_, rfl⟩
    cases mb
    · have hb := build_no Q1.ls hl4 hkl hmb
      have HN : Hid (readF t = none) := by
        show _ = _
        unfold readF; rw [hs]
        simp [hmb]
      clear hg hs hk hvl hmb Q1 Q2 hok hkl
      go_wp2_with fail
      refine Calls.mono hb ?_
      rintro _ w2 ⟨rfl, N2⟩
      clear hb
      go_wp2_with fail
      go_ret3
      exact ⟨N1.trans N2, .inl ⟨HN.out, rfl⟩⟩
    · have hb := build_yes Q1.ls hl4 hkl hmb
      have hb16 := build_k16 hmb
      have hbf := build_few hmb
      have HM : Hid (mayB s.1 = true) := hmb
      have hsame := fun {w2 : World} {u : Value} (N : New w w2) (P2 : Ls w2 20 u ((buildN s.1).map ndC)) => same_any (HP.out.after N) P2 hk hb16 (by omega) (by omega)
      clear hg hs hvl hmb Q1 Q2 hok hkl hb16 hk
      go_wp2_with fail
      refine Calls.mono hb ?_
      rintro _ w2 ⟨v3, rfl, Q3, N2⟩
      have hsm := hsame (N1.trans N2) Q3.ls
      clear hb hsame Q3
      obtain ⟨db, hdb⟩ : ∃ b, decide (t = buildN s.1) = b := ⟨_, rfl⟩
      rw [hdb] at hsm
      have HDB : Hid (decide (t = buildN s.1) = db) := hdb
      clear hdb
      cases db
      all_goals
        go_wp2_with (first
          | (go_at_call 20; refine Calls.mono hsm ?_; rintro _ w3 ⟨rfl, N3⟩))
        go_ret3
      · refine ⟨(N1.trans N2).trans N3, .inl ⟨?_, rfl⟩⟩
        unfold readF; rw [HS.out]
        have := of_decide_eq_false HDB.out
        simp only [HM.out, Bool.true_and]
        rw [if_neg]
        intro h
        exact this (of_decide_eq_true h).symm
      · refine ⟨(N1.trans N2).trans N3, .inr ⟨s, v1, v2, ?_, rfl, (HQ1.out.after N2).after N3, (HQ2.out.after N2).after N3⟩⟩
        unfold readF; rw [HS.out]
        have := of_decide_eq_true HDB.out
        simp only [HM.out, Bool.true_and]
        rw [if_pos]
        exact decide_eq_true this.symm

set_option maxHeartbeats 1000000 in
theorem good_trie {w : World} {v : Value} {t : List Nd} (P : Ls w 20 v (t.map ndC)) (K : TOk t) (hT : Tab w) :
    Calls Tryd.prog 19 #[v] w fun e w' => e = .returned (.bool (readF t).isSome) ∧ New w w' := by
  have hr := read_any P K hT
  clear P K
  go_enter Tryd.func19, Tryd.ntmps19
  go_wp2_with fail
  refine Calls.mono hr ?_
  rintro _ w1 ⟨N1, ⟨hn, rfl⟩ | ⟨s, v1, v2, hs, rfl, Q1, Q2⟩⟩
  · have HN : Hid (readF t = none) := hn
    clear hr hn
    go_wp2_with fail
    go_ret
    exact ⟨ret_bool (by rw [HN.out]; rfl), N1⟩
  · have HN : Hid (readF t = some s) := hs
    clear hr hs Q1 Q2
    go_wp2_with fail
    go_ret
    exact ⟨ret_bool (by rw [HN.out]; rfl), N1⟩

set_option maxHeartbeats 1000000 in
theorem paths_any {w : World} {v : Value} {t : List Nd} (P : Ls w 20 v (t.map ndC)) (K : TOk t) (hT : Tab w) :
    Calls Tryd.prog 15 #[v] w fun e w' => New w w' ∧ ((readF t = none ∧ e = .returned (.tuple #[.slice none 0 0, .bool false])) ∨ (∃ s v2, readF t = some s ∧ e = .returned (.tuple #[v2, .bool true]) ∧ Pl w' (Fresh w) 9 1 v2 (s.2.map txC))) := by
  have hr := read_any P K hT
  clear P K
  go_enter Tryd.func15, Tryd.ntmps15
  go_wp2_with fail
  refine Calls.mono hr ?_
  rintro _ w1 ⟨N1, ⟨hn, rfl⟩ | ⟨s, v1, v2, hs, rfl, Q1, Q2⟩⟩
  · have HN : Hid (readF t = none) := hn
    clear hr hn
    go_wp2_with fail
    go_ret2
    exact ⟨N1, .inl ⟨HN.out, rfl⟩⟩
  · have HN : Hid (readF t = some s) := hs
    have HQ : Hid (Pl w1 (Fresh w) 9 1 v2 (s.2.map txC)) := Q2
    clear hr hs Q1 Q2
    go_wp2_with fail
    go_ret2
    exact ⟨N1, .inr ⟨s, v2, HN.out, rfl, HQ.out⟩⟩

end Go.Proofs.YtelaiblhnhbgiaaDoor
