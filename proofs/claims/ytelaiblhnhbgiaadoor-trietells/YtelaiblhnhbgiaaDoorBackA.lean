/-
  TrieBack's walk: whatever pairs and nodes, the call returns true, where the table of upper halves lies as its initialiser lays it.
-/
import Derived.Test.YtelaiblhnhbgiaaDoorTrLong
import Derived.Test.YtelaiblhnhbgiaaDoorTrWakes
namespace Go.Proofs.YtelaiblhnhbgiaaDoor
open Go.RowKit
set_option maxRecDepth 20000

theorem tok_of {t : List Nd} (h16 : ∀ x ∈ t, x.kids.length = 16) (h : longB lenN 4000 noNd t = false) : TOk t := by
  obtain ⟨h1, h2⟩ := longB_small _ _ _ _ h
  exact ⟨h16, by omega, h2⟩
theorem prs_of {l : List Pr} (h : longB lenP 3000 ([], []) l = false) : l.length ≤ 3000 ∧ ∀ p ∈ l, p.1.length ≤ 4000 ∧ p.2.length ≤ 4000 := by
  obtain ⟨h1, h2⟩ := longB_small _ _ _ _ h
  exact ⟨h1, fun p hp => by have := h2 p hp; simp only [lenP] at this; omega⟩
theorem build_ok {l : List Pr} (h : mayB l = true) (hl : l.length ≤ 3001) : TOk (buildN l) := by
  refine ⟨build_k16 h, by have := build_few h; omega, fun x hx => ?_⟩
  by_cases hne : l = []
  · subst hne
    unfold buildN at hx; rw [trie_nil] at hx; simp at hx
  · have B := trie_blk h hne
    obtain ⟨m, hm, rfl⟩ := List.mem_map.1 hx
    constructor
    · have := goodB_len (blk_halves (may_fit h) B hm)
      rw [List.length_append] at this
      omega
    · have hval : m.1.has = true → m.1.val.length ≤ 4000 := fun hh => by
        have hmem : (m.2 ++ m.1.path, m.1.val) ∈ l.map halfP := by
          rw [← B.vals]
          exact List.mem_filterMap.2 ⟨m, hm, by unfold valOf; rw [if_pos hh]⟩
        obtain ⟨p, hp, he⟩ := List.mem_map.1 hmem
        have hv := (okP_key p ((mayB_rise l h).2 p hp)).2.2
        have : p.2 = m.1.val := congrArg Prod.snd he
        rw [← this]; omega
      rcases B.shape m hm with ⟨_, h2, _⟩ | ⟨_, _, h3, _⟩ | ⟨_, _, _, _, h4⟩
      · exact hval h2
      · rw [h3]; simp
      · cases hh : m.1.has
        · rw [h4 hh]; simp
        · exact hval hh

set_option maxHeartbeats 4000000 in
theorem back_any {w : World} {v u : Value} {l : List Pr} {t : List Nd} (P : Ls w 2 v (l.map prC)) (P' : Ls w 20 u (t.map ndC)) (h16 : ∀ x ∈ t, x.kids.length = 16) (hl : l.length ≤ maxLen) (ht : t.length ≤ maxLen) (hT : Tab w) :
    Calls Tryd.prog 4 #[v, u] w fun e w' => e = .returned (.bool true) ∧ New w w' := by
  unfold maxLen at hl ht
  have hlp := longPairs_any P (by omega)
  have hlt := fun {w1 : World} (n : New w w1) => longTrie_any (P'.after n) (by omega)
  have HT : Hid (Tab w) := hT
  obtain ⟨b1, hb1⟩ : ∃ b, longB lenP 3000 ([], []) l = b := ⟨_, rfl⟩
  obtain ⟨b2, hb2⟩ : ∃ b, longB lenN 4000 noNd t = b := ⟨_, rfl⟩
  rw [hb1] at hlp
  rw [hb2] at hlt
  have HB1 : Hid (longB lenP 3000 ([], []) l = b1) := hb1
  have HB2 : Hid (longB lenN 4000 noNd t = b2) := hb2
  have HP : Hid (Ls w 2 v (l.map prC)) := P
  have HP' : Hid (Ls w 20 u (t.map ndC)) := P'
  have H16 : Hid (∀ x ∈ t, x.kids.length = 16) := h16
  clear hb1 hb2 P P' h16 hT
  cases b1
  case true =>
    clear hlt
    go_enter Tryd.func4, Tryd.ntmps4
    go_wp2_with fail
    refine Calls.mono hlp ?_
    rintro _ W1 ⟨rfl, N1⟩
    have hw := wakes_any W1 (HT.out.kept N1)
    clear hlp
    go_wp2_with fail
    refine Calls.mono hw ?_
    rintro _ W2 ⟨rfl, N2⟩
    clear hw
    go_wp2_with fail
    go_ret
    exact ⟨rfl, N1.trans N2⟩
  cases b2
  case true =>
    go_enter Tryd.func4, Tryd.ntmps4
    go_wp2_with fail
    refine Calls.mono hlp ?_
    rintro _ W1 ⟨rfl, N1⟩
    have hlt1 := hlt N1
    clear hlp hlt
    go_wp2_with fail
    refine Calls.mono hlt1 ?_
    rintro _ W2 ⟨rfl, N2⟩
    have hw := wakes_any W2 (HT.out.kept (N1.trans N2))
    clear hlt1
    go_wp2_with fail
    refine Calls.mono hw ?_
    rintro _ W3 ⟨rfl, N3⟩
    clear hw
    go_wp2_with fail
    go_ret
    exact ⟨rfl, (N1.trans N2).trans N3⟩
  obtain ⟨hs1, hs2⟩ := prs_of HB1.out
  have K := tok_of H16.out HB2.out
  have HK : Hid (TOk t) := K
  obtain ⟨mb, hmb⟩ : ∃ b, mayB l = b := ⟨_, rfl⟩
  have HMB : Hid (mayB l = mb) := hmb
  have hmay := fun {w1 : World} (n : New w w1) => refMay_any (HP.out.after n) (by omega) hs2
  rw [hmb] at hmay
  have HS : Hid (∀ p ∈ l, p.1.length ≤ 4000 ∧ p.2.length ≤ 4000) := hs2
  clear hmb K hs2
  cases mb
  go_enter Tryd.func4, Tryd.ntmps4
  go_wp2_with fail
  refine Calls.mono hlp ?_
  rintro _ W1 ⟨rfl, N1⟩
  have hlt1 := hlt N1
  clear hlp hlt
  go_wp2_with fail
  refine Calls.mono hlt1 ?_
  rintro _ W2 ⟨rfl, N2⟩
  have N2' := N1.trans N2
  have hb := build_no (HP.out.after N2') (by omega) HS.out HMB.out
  clear hlt1 N1 N2
  go_wp2_with fail
  refine Calls.mono hb ?_
  rintro _ W3 ⟨rfl, N3⟩
  have N3' := N2'.trans N3
  have hm := hmay N3'
  clear hb hmay N2' N3
  go_wp2_with fail
  refine Calls.mono hm ?_
  rintro _ WX ⟨rfl, N4⟩
  have NX := N3'.trans N4
  clear hm N3' N4
  go_wp2_with fail
  rotate_left
  have HBO : Hid (TOk (buildN l)) := build_ok HMB.out (by omega)
  have HRB : Hid (readF (buildN l) = some (l, (trieL l).map (·.2))) := readF_iff.2 ⟨HMB.out, rfl, rfl⟩
  go_enter Tryd.func4, Tryd.ntmps4
  go_wp2_with fail
  refine Calls.mono hlp ?_
  rintro _ W1 ⟨rfl, N1⟩
  have hlt1 := hlt N1
  clear hlp hlt
  go_wp2_with fail
  refine Calls.mono hlt1 ?_
  rintro _ W2 ⟨rfl, N2⟩
  have N2' := N1.trans N2
  have hb := build_yes (HP.out.after N2') (by omega) HS.out HMB.out
  clear hlt1 N1 N2
  go_wp2_with fail
  refine Calls.mono hb ?_
  rintro _ W3 ⟨v3, rfl, Q3, N3⟩
  have N3' := N2'.trans N3
  have hm := hmay N3'
  have HQ3 : Hid (Pl W3 (Fresh W2) 49 20 v3 ((buildN l).map ndC)) := Q3
  clear hb hmay N2' N3 Q3
  go_wp2_with fail
  refine Calls.mono hm ?_
  rintro _ W4 ⟨rfl, N4⟩
  have N4' := N3'.trans N4
  have hp := pairs_any (HQ3.out.after N4).ls HBO.out (HT.out.kept N4')
  have HQ4 : Hid (Pl W4 (Fresh W2) 49 20 v3 ((buildN l).map ndC)) := HQ3.out.after N4
  clear hm N3' N4 HQ3
  go_wp2_with fail
  refine Calls.mono hp ?_
  rintro _ W5 ⟨N5, ⟨hn, _⟩ | ⟨s, v5, hs, rfl, Q5⟩⟩
  · rw [HRB.out] at hn; cases hn
  rw [HRB.out] at hs
  obtain rfl := Option.some.inj hs
  have N5' := N4'.trans N5
  have hk := keepPairs_any (l := l) (m := l) Q5.ls (HP.out.after N5') (by omega) (by omega)
  rw [decide_eq_true (rfl : l = l)] at hk
  have HQ5 : Hid (Pl W5 (Fresh W2) 49 20 v3 ((buildN l).map ndC)) := HQ4.out.after N5
  clear hp hs N4' N5 HQ4 Q5
  go_wp2_with fail
  refine Calls.mono hk ?_
  rintro _ W6 ⟨rfl, N6⟩
  have N6' := N5'.trans N6
  have hg := good_trie (HQ5.out.after N6).ls HBO.out (HT.out.kept N6')
  rw [HRB.out] at hg
  clear hk N5' N6 HQ5
  go_wp2_with fail
  refine Calls.mono hg ?_
  rintro _ WX ⟨rfl, N7⟩
  have NX := N6'.trans N7
  clear hg N6' N7 HBO HRB
  go_wp2_with fail
  all_goals
    have hp := pairs_any (HP'.out.after NX) HK.out (HT.out.kept NX)
    have hg := fun {W : World} (n : New w W) => good_trie (HP'.out.after n) HK.out (HT.out.kept n)
    refine Calls.mono hp ?_
    rintro _ W5 ⟨N5, ⟨hn, rfl⟩ | ⟨s, v5, hs, rfl, Q5⟩⟩
    · have NY := NX.trans N5
      have hg1 := hg NY
      rw [hn] at hg1
      clear hp hg hn N5
      go_wp2_with fail
      refine Calls.mono hg1 ?_
      rintro _ W6 ⟨rfl, N6⟩
      have NZ := NY.trans N6
      have hw := wakes_any W6 (HT.out.kept NZ)
      clear hg1 NY N6
      go_wp2_with fail
      refine Calls.mono hw ?_
      rintro _ W7 ⟨rfl, N7⟩
      clear hw
      go_wp2_with fail
      go_ret
      exact ⟨rfl, NZ.trans N7⟩
    · have NY := NX.trans N5
      have hg1 := hg NY
      rw [hs] at hg1
      have HRS : Hid (mayB s.1 = true ∧ t = buildN s.1) := ⟨(readF_ok hs).1, (readF_ok hs).2.1⟩
      have hfw := readF_few HK.out hs
      have hkl : ∀ p ∈ s.1, p.1.length ≤ 4000 ∧ p.2.length ≤ 4000 := fun p hp => by
        have := okP_key p ((mayB_rise _ HRS.out.1).2 p hp); omega
      have HQ5 : Hid (Pl W5 (Fresh WX) 52 2 v5 (s.1.map prC)) := Q5
      clear hp hg hs N5 Q5
      go_wp2_with fail
      refine Calls.mono hg1 ?_
      rintro _ W6 ⟨rfl, N6⟩
      have NZ := NY.trans N6
      have hb := build_yes (HQ5.out.after N6).ls hfw hkl HRS.out.1
      rw [← HRS.out.2] at hb
      clear hg1 NY N6 hkl hfw HQ5
      go_wp2_with fail
      refine Calls.mono hb ?_
      rintro _ W7 ⟨v7, rfl, Q7, N7⟩
      have NU := NZ.trans N7
      have hk := keepTrie_any (l := t) (m := t) Q7.ls (HP'.out.after NU) H16.out H16.out (by have := HK.out.few; omega) (by have := HK.out.few; omega)
      rw [decide_eq_true (rfl : t = t)] at hk
      clear hb NZ N7 Q7
      go_wp2_with fail
      refine Calls.mono hk ?_
      rintro _ W8 ⟨rfl, N8⟩
      have NV := NU.trans N8
      have hw := wakes_any W8 (HT.out.kept NV)
      clear hk NU N8
      go_wp2_with fail
      refine Calls.mono hw ?_
      rintro _ W9 ⟨rfl, N9⟩
      clear hw
      go_wp2_with fail
      go_ret
      exact ⟨rfl, NV.trans N9⟩

end Go.Proofs.YtelaiblhnhbgiaaDoor
