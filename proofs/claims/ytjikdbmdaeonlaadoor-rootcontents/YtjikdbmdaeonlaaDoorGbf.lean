/-
  RootContents's walk: whatever two lists of pairs, the call returns true, where the tables lie as their initialisers lay them.
-/
import Derived.Test.YtjikdbmdaeonlaaDoorGbe
namespace Go.Proofs.YtjikdbmdaeonlaaDoor
open Go.RowKit
set_option maxRecDepth 20000

set_option maxHeartbeats 16000000 in
theorem contents_any {w : World} {v v' : Value} {l m : List Pr} (P : Ls w 2 v (l.map prC)) (P' : Ls w 2 v' (m.map prC)) (hl : l.length ≤ maxLen) (hm : m.length ≤ maxLen) (hT : No.TT w) :
    Calls Tryd.prog 4 #[v, v'] w fun e w' => e = .returned (.bool true) ∧ New w w' := by
  unfold maxLen at hl hm
  have hwk := fun W (N : New w W) => wakes_any W (hT.after N)
  have hlp := longPairs_any P (by omega)
  have hlq := fun W (N : New w W) => longPairs_any (P'.after N) (by omega)
  have HT : Hid (No.TT w) := hT
  obtain ⟨b1, hb1⟩ : ∃ b, longB lenP 3000 ([], []) l = b := ⟨_, rfl⟩
  rw [hb1] at hlp
  have HB1 : Hid (longB lenP 3000 ([], []) l = b1) := hb1
  obtain ⟨b2, hb2⟩ : ∃ b, longB lenP 3000 ([], []) m = b := ⟨_, rfl⟩
  rw [hb2] at hlq
  have HB2 : Hid (longB lenP 3000 ([], []) m = b2) := hb2
  have HP : Hid (Ls w 2 v (l.map prC)) := P
  have HP' : Hid (Ls w 2 v' (m.map prC)) := P'
  obtain ⟨a, c, rfl, hc, _⟩ := P.open ([], [])
  obtain ⟨a', c', rfl, hc', _⟩ := P'.open ([], [])
  clear P P' hT hb1 hb2
  cases b1
  case true =>
    go_enter Tryd.func4, Tryd.ntmps4
    go_wp2_with fail
    refine Calls.mono hlp ?_
    rintro _ W1 ⟨rfl, N1⟩
    have N1 : New w W1 := N1
    clear hlp hlq
    go_wp2_with fail
    refine Calls.mono (hwk _ N1) ?_
    rintro _ W6 ⟨rfl, N6⟩
    have N6 : New W1 W6 := N6
    go_wp2_with fail
    go_ret
    exact ⟨rfl, N1.trans N6⟩
  cases b2
  case true =>
    go_enter Tryd.func4, Tryd.ntmps4
    go_wp2_with fail
    refine Calls.mono hlp ?_
    rintro _ W1 ⟨rfl, N1⟩
    have N1 : New w W1 := N1
    clear hlp
    go_wp2_with fail
    refine Calls.mono (hlq _ N1) ?_
    rintro _ W2 ⟨rfl, N2⟩
    have N2 : New W1 W2 := N2
    have M2 := N1.trans N2
    clear hlq
    go_wp2_with fail
    refine Calls.mono (hwk _ M2) ?_
    rintro _ W6 ⟨rfl, N6⟩
    have N6 : New W2 W6 := N6
    go_wp2_with fail
    go_ret
    exact ⟨rfl, M2.trans N6⟩
  obtain ⟨hs1, hs2⟩ := short_of HB1.out
  obtain ⟨hr1, hr2⟩ := short_of HB2.out
  have hmay := fun W (N : New w W) => refMay_any (HP.out.after N) hs1 hs2
  have hmaz := fun W (N : New w W) => refMay_any (HP'.out.after N) hr1 hr2
  obtain ⟨b3, hb3⟩ : ∃ b, mayB l = b := ⟨_, rfl⟩
  rw [hb3] at hmay
  have HB3 : Hid (mayB l = b3) := hb3
  obtain ⟨b4, hb4⟩ : ∃ b, mayB m = b := ⟨_, rfl⟩
  rw [hb4] at hmaz
  have HB4 : Hid (mayB m = b4) := hb4
  have HS2 : Hid (∀ p ∈ l, p.1.length ≤ 4000 ∧ p.2.length ≤ 4000) := hs2
  have HR2 : Hid (∀ p ∈ m, p.1.length ≤ 4000 ∧ p.2.length ≤ 4000) := hr2
  clear hb3 hb4 hs2 hr2
  cases b3
  case false =>
    go_enter Tryd.func4, Tryd.ntmps4
    go_wp2_with fail
    refine Calls.mono hlp ?_
    rintro _ W1 ⟨rfl, N1⟩
    have N1 : New w W1 := N1
    clear hlp
    go_wp2_with fail
    refine Calls.mono (hlq _ N1) ?_
    rintro _ W2 ⟨rfl, N2⟩
    have N2 : New W1 W2 := N2
    have M2 := N1.trans N2
    clear hlq
    go_wp2_with fail
    refine Calls.mono (hmay _ M2) ?_
    rintro _ W3 ⟨rfl, N3⟩
    have N3 : New W2 W3 := N3
    have M3 := M2.trans N3
    clear hmay
    clear hmaz
    go_wp2_with fail
    refine Calls.mono (hwk _ M3) ?_
    rintro _ W6 ⟨rfl, N6⟩
    have N6 : New _ W6 := N6
    go_wp2_with fail
    go_ret
    exact ⟨rfl, M3.trans N6⟩
  cases b4
  case false =>
    go_enter Tryd.func4, Tryd.ntmps4
    go_wp2_with fail
    refine Calls.mono hlp ?_
    rintro _ W1 ⟨rfl, N1⟩
    have N1 : New w W1 := N1
    clear hlp
    go_wp2_with fail
    refine Calls.mono (hlq _ N1) ?_
    rintro _ W2 ⟨rfl, N2⟩
    have N2 : New W1 W2 := N2
    have M2 := N1.trans N2
    clear hlq
    go_wp2_with fail
    refine Calls.mono (hmay _ M2) ?_
    rintro _ W3 ⟨rfl, N3⟩
    have N3 : New W2 W3 := N3
    have M3 := M2.trans N3
    clear hmay
    go_wp2_with fail
    refine Calls.mono (hmaz _ M3) ?_
    rintro _ W4 ⟨rfl, N4⟩
    have N4 : New W3 W4 := N4
    have M4 := M3.trans N4
    clear hmaz
    go_wp2_with fail
    refine Calls.mono (hwk _ M4) ?_
    rintro _ W6 ⟨rfl, N6⟩
    have N6 : New _ W6 := N6
    go_wp2_with fail
    go_ret
    exact ⟨rfl, M4.trans N6⟩
  by_cases h12 : 12 < l.length
  · have d12 : decide ((12 : Int) < (l.length : Int)) = true := decide_eq_true (by omega)
    go_enter Tryd.func4, Tryd.ntmps4
    go_wp2_with fail
    refine Calls.mono hlp ?_
    rintro _ W1 ⟨rfl, N1⟩
    have N1 : New w W1 := N1
    clear hlp
    go_wp2_with fail
    refine Calls.mono (hlq _ N1) ?_
    rintro _ W2 ⟨rfl, N2⟩
    have N2 : New W1 W2 := N2
    have M2 := N1.trans N2
    clear hlq
    go_wp2_with fail
    refine Calls.mono (hmay _ M2) ?_
    rintro _ W3 ⟨rfl, N3⟩
    have N3 : New W2 W3 := N3
    have M3 := M2.trans N3
    clear hmay
    go_wp2_with fail
    refine Calls.mono (hmaz _ M3) ?_
    rintro _ W4 ⟨rfl, N4⟩
    have N4 : New W3 W4 := N4
    have M4 := M3.trans N4
    clear hmaz
    go_wp2_with fail
    refine Calls.mono (hwk _ M4) ?_
    rintro _ W6 ⟨rfl, N6⟩
    have N6 : New _ W6 := N6
    go_wp2_with fail
    go_ret
    exact ⟨rfl, M4.trans N6⟩
  have d12 : decide ((12 : Int) < (l.length : Int)) = false := decide_eq_false (by omega)
  by_cases h13 : 12 < m.length
  · have d13 : decide ((12 : Int) < (m.length : Int)) = true := decide_eq_true (by omega)
    go_enter Tryd.func4, Tryd.ntmps4
    go_wp2_with fail
    refine Calls.mono hlp ?_
    rintro _ W1 ⟨rfl, N1⟩
    have N1 : New w W1 := N1
    clear hlp
    go_wp2_with fail
    refine Calls.mono (hlq _ N1) ?_
    rintro _ W2 ⟨rfl, N2⟩
    have N2 : New W1 W2 := N2
    have M2 := N1.trans N2
    clear hlq
    go_wp2_with fail
    refine Calls.mono (hmay _ M2) ?_
    rintro _ W3 ⟨rfl, N3⟩
    have N3 : New W2 W3 := N3
    have M3 := M2.trans N3
    clear hmay
    go_wp2_with fail
    refine Calls.mono (hmaz _ M3) ?_
    rintro _ W4 ⟨rfl, N4⟩
    have N4 : New W3 W4 := N4
    have M4 := M3.trans N4
    clear hmaz
    go_wp2_with fail
    refine Calls.mono (hwk _ M4) ?_
    rintro _ W6 ⟨rfl, N6⟩
    have N6 : New _ W6 := N6
    go_wp2_with fail
    go_ret
    exact ⟨rfl, M4.trans N6⟩
  have d13 : decide ((12 : Int) < (m.length : Int)) = false := decide_eq_false (by omega)
  have hbu := fun W (N : New w W) => r_build (HP.out.after N) hs1 HS2.out
  have hbz := fun W (N : New w W) => r_build (HP'.out.after N) hr1 HR2.out
  have hbX : bX l = buildN l := by unfold bX; rw [HB3.out]; rfl
  have hbY : bX m = buildN m := by unfold bX; rw [HB4.out]; rfl
  rw [HB3.out, hbX] at hbu
  rw [HB4.out, hbY] at hbz
  have htk1 := build_ok HB3.out (by omega)
  have htk2 := build_ok HB4.out (by omega)
  have hok1 := ok_build HB3.out
  have hok2 := ok_build HB4.out
  have hkp := fun W (N : New w W) => keepPairs_any (HP.out.after N) (HP'.out.after N) (by omega) (by omega)
  have HLm : Hid (l = m → buildN l = buildN m) := fun e => by rw [e]
  have hnil : buildN ([] : List Pr) = [] := by unfold buildN; rw [trie_nil]; rfl
  have HC : Hid (0 < (buildN l).length → 0 < (buildN m).length → (HL (buildN l)).getD 0 [] = (HL (buildN m)).getD 0 [] → (∀ (i k : Nat) a b, (buildN l)[i]? = some a → (buildN m)[k]? = some b → (HL (buildN l)).getD i [] = (HL (buildN m)).getD k [] → No.encL (itW a (HL (buildN l))) = No.encL (itW b (HL (buildN m)))) → l = m) := fun h1 h2 h3 H =>
    contents HB3.out HB4.out (by rintro rfl; rw [hnil] at h1; exact absurd h1 (by decide)) (by rintro rfl; rw [hnil] at h2; exact absurd h2 (by decide)) h3 H
  obtain ⟨kb, hkb⟩ : ∃ kb, decide (l = m) = kb := ⟨_, rfl⟩
  simp only [hkb] at hkp
  have HKB : Hid (decide (l = m) = kb) := hkb
  clear hbX hbY hkb hnil HB3 HB4 HS2 HR2 hs1 hr1 HB1 HB2 HP HP'
  generalize buildN m = u at *
  generalize buildN l = t at *
  have HOK1 : Hid (okT t = true) := hok1
  have HOK2 : Hid (okT u = true) := hok2
  have HTK1 : Hid (TOk t) := htk1
  have HTK2 : Hid (TOk u) := htk2
  have htl : t.length ≤ 10000 := htk1.few
  have hul : u.length ≤ 10000 := htk2.few
  clear hok1 hok2 htk1 htk2
  go_enter Tryd.func4, Tryd.ntmps4
  go_wp2_with fail
  refine Calls.mono hlp ?_
  rintro _ W1 ⟨rfl, N1⟩
  have N1 : New w W1 := N1
  clear hlp
  go_wp2_with fail
  refine Calls.mono (hlq _ N1) ?_
  rintro _ W2 ⟨rfl, N2⟩
  have N2 : New W1 W2 := N2
  have M2 := N1.trans N2
  clear hlq
  go_wp2_with fail
  refine Calls.mono (hmay _ M2) ?_
  rintro _ W3 ⟨rfl, N3⟩
  have N3 : New W2 W3 := N3
  have M3 := M2.trans N3
  clear hmay
  go_wp2_with fail
  refine Calls.mono (hmaz _ M3) ?_
  rintro _ W4 ⟨rfl, N4⟩
  have N4 : New W3 W4 := N4
  have M4 := M3.trans N4
  clear hmaz
  go_wp2_with fail
  refine Calls.mono (hbu _ M4) ?_
  rintro _ W5 ⟨ta, tn, tc, b, mm, d, rfl, Q5, _, N5⟩
  have N5 : New W4 W5 := N5
  have M5 := M4.trans N5
  obtain ⟨a', c', e, htc, _⟩ := Q5.open noNd
  cases e
  have HQ5 : Hid (Ls W5 20 (.slice ta t.length tc) (t.map ndC)) := Q5
  have hf := field_T ta t.length tc b mm d true
  clear hbu M4 Q5
  go_wp2_with fail
  refine Calls.mono (hbz _ M5) ?_
  rintro _ W6 ⟨ua, un, uc, b', m', d', rfl, Q6, _, N6⟩
  have N6 : New W5 W6 := N6
  have M6 := M5.trans N6
  obtain ⟨a', c', e, huc, _⟩ := Q6.open noNd
  cases e
  have HQ6 : Hid (Ls W6 20 (.slice ua u.length uc) (u.map ndC)) := Q6
  have HQ5' : Hid (Ls W6 20 (.slice ta t.length tc) (t.map ndC)) := HQ5.out.after N6
  have hf' := field_T ua u.length uc b' m' d' true
  clear hbz N5 N6 Q6 M5
  go_wp2_with fail
  have ha := root_any HQ5'.out HTK1.out (HT.out.after M6)
  rw [HOK1.out] at ha
  have HR1 : Hid (rootL t = if t.length = 0 then emptyH else (HL t).getD 0 []) := by show _ = _; unfold rootL; rw [HOK1.out]; rfl
  have HR2 : Hid (rootL u = if u.length = 0 then emptyH else (HL u).getD 0 []) := by show _ = _; unfold rootL; rw [HOK2.out]; rfl
  refine Calls.mono ha ?_
  rintro _ W7 ⟨rfl, N7⟩
  have N7 : New W6 W7 := N7
  have M7 := M6.trans N7
  clear ha hf hf'
  go_wp2_with fail
  have ha := root_any (HQ6.out.after N7) HTK2.out (HT.out.after M7)
  rw [HOK2.out] at ha
  refine Calls.mono ha ?_
  rintro _ W8 ⟨rfl, N8⟩
  have N8 : New W7 W8 := N8
  have M8 := M7.trans N8
  have N68 := N7.trans N8
  clear ha
  go_wp2_with fail
  have ha := all_any (HQ5'.out.after N68) HTK1.out (HT.out.after M8)
  rw [HOK1.out, allL_ok HOK1.out] at ha
  refine Calls.mono ha ?_
  rintro _ W9 ⟨va, rfl, Q9, N9⟩
  have N9 : New W8 W9 := N9
  have M9 := M8.trans N9
  obtain ⟨pa, pc, rfl, hpc, HA⟩ := Q9.open []
  rw [HL_len] at HA hpc ⊢
  have HPA : Hid (No.Tx W9 pa (HL t)) := ls_tx Q9
  have N69 := N68.trans N9
  clear ha Q9 M8 N8 N7 M7
  go_wp2_with fail
  have ha := all_any (HQ6.out.after N69) HTK2.out (HT.out.after M9)
  rw [HOK2.out, allL_ok HOK2.out] at ha
  refine Calls.mono ha ?_
  rintro _ Wa ⟨va, rfl, Qa, Na⟩
  have Na : New W9 Wa := Na
  have Ma := M9.trans Na
  obtain ⟨qa, qc, rfl, hqc, HB⟩ := Qa.open []
  rw [HL_len] at HB hqc ⊢
  have HQA : Hid (No.Tx Wa qa (HL u)) := ls_tx Qa
  have HPA8 : Hid (No.Tx Wa pa (HL t)) := HPA.out.after Na
  have HQ58 : Hid (Ls Wa 20 (.slice ta t.length tc) (t.map ndC)) := HQ5'.out.after (N69.trans Na)
  have HQ68 : Hid (Ls Wa 20 (.slice ua u.length uc) (u.map ndC)) := HQ6.out.after (N69.trans Na)
  clear ha Qa HA HB HPA HQ5' HQ6 HQ5 N69 N9 N68
  have hnb : ((t.length : Int) != (t.length : Int)) = false := by simp
  have hnb' : ((u.length : Int) != (u.length : Int)) = false := by simp
  go_wp2_with fail
  clear hnb hnb'
  refine Calls.mono (hkp _ Ma) ?_
  rintro _ Wb ⟨rfl, Nb⟩
  have Nb : New Wa Wb := Nb
  have Mb := Ma.trans Nb
  clear hkp
  cases kb
  case true =>
    obtain rfl := HLm.out (of_decide_eq_true HKB.out)
    have htx := No.texts_any (HL t) (HL t) pa qa pc qc (by rw [HL_len]; omega) Wb (HPA8.out.after Nb) (HQA.out.after Nb)
    rw [HL_len, beq_self_eq_true] at htx
    have hbb : ((bs (rootL t)).toList == (bs (rootL t)).toList) = true := beq_self_eq_true _
    clear HC HLm HKB HQA HPA8 HQ58 HQ68
    go_wp2_with fail
    refine Calls.mono htx ?_
    rintro _ Wc ⟨rfl, Nc⟩
    have Nc : New Wb Wc := Nc
    clear htx
    go_wp2_with fail
    refine Calls.mono (hwk _ (Mb.trans Nc)) ?_
    rintro _ Wd ⟨rfl, Nd'⟩
    have Nd' : New Wc Wd := Nd'
    go_wp2_with fail
    go_ret
    exact ⟨rfl, (Mb.trans Nc).trans Nd'⟩
  have HLM : Hid (¬ l = m) := of_decide_eq_false HKB.out
  have hbb := No.beq_bs (rootL t) (rootL u)
  have HPA9 : Hid (No.Tx Wb pa (HL t)) := HPA8.out.after Nb
  have HQA9 : Hid (No.Tx Wb qa (HL u)) := HQA.out.after Nb
  have HQ59 : Hid (Ls Wb 20 (.slice ta t.length tc) (t.map ndC)) := HQ58.out.after Nb
  have HQ69 : Hid (Ls Wb 20 (.slice ua u.length uc) (u.map ndC)) := HQ68.out.after Nb
  clear HLm HPA8 HQA HQ58 HQ68 HKB
  by_cases hrr : rootL t = rootL u
  case neg =>
    rw [show (rootL t == rootL u) = false by rw [beq_eq_false_iff_ne]; exact hrr] at hbb
    clear hrr HR1 HR2 HC
    generalize bs (rootL t) = rt at *
    generalize bs (rootL u) = ru at *
    have hbc : (rt.toList != ru.toList) = true := by show (!(rt.toList == ru.toList)) = true; rw [hbb]; rfl
    go_wp2_with fail
    refine Calls.mono (hwk _ Mb) ?_
    rintro _ Wd ⟨rfl, Nd'⟩
    have Nd' : New Wb Wd := Nd'
    go_wp2_with fail
    go_ret
    exact ⟨rfl, Mb.trans Nd'⟩
  rw [show (rootL t == rootL u) = true by rw [beq_iff_eq]; exact hrr] at hbb
  have HC2 : Hid (0 < t.length → 0 < u.length → (∀ (i k : Nat) a b, t[i]? = some a → u[k]? = some b → (HL t).getD i [] = (HL u).getD k [] → No.encL (itW a (HL t)) = No.encL (itW b (HL u))) → False) := fun h1 h2 H => by
    refine HLM.out (HC.out h1 h2 ?_ H)
    have e1 := HR1.out
    have e2 := HR2.out
    rw [if_neg (by omega)] at e1 e2
    rw [← e1, ← e2, hrr]
  clear hrr HR1 HR2 HC HLM
  generalize bs (rootL t) = rt at *
  generalize bs (rootL u) = ru at *
  have hbc : (rt.toList != ru.toList) = false := by show (!(rt.toList == ru.toList)) = false; rw [hbb]; rfl
  go_wp2_with fail
  clear hbb hbc
  go_loopw [15] (fun s wr => ∃ i : Nat, i ≤ t.length ∧ s = .int .i64 (i : Int) ∧ New Wb wr ∧ Hid (∀ (j k : Nat) a b, j < i → t[j]? = some a → u[k]? = some b → (HL t).getD j [] = (HL u).getD k [] → No.encL (itW a (HL t)) = No.encL (itW b (HL u)))) (fun s _ => t.length - (intOf s).toNat)
  case atStart => exact ⟨0, Nat.zero_le _, rfl, New.refl _, fun j k a b h => absurd h (by omega)⟩
  case round =>
    obtain ⟨i, hit, rfl, N, HI⟩ := hrel
    have M : New w wr := Mb.trans N
    by_cases hlt : i < t.length
    · have hin : (i : Int) < (t.length : Int) := by omega
      obtain ⟨m1, hm1⟩ : ∃ m1, t[i]? = some m1 := ⟨_, List.getElem?_eq_getElem hlt⟩
      have HM1 : Hid (t[i]? = some m1) := hm1
      clear hm1
      go_wp2_with fail
      go_loopw [16] (fun s wq => ∃ k : Nat, k ≤ u.length ∧ s = .int .i64 (k : Int) ∧ New wr wq ∧ Hid (∀ (j : Nat) b, j < k → u[j]? = some b → (HL t).getD i [] = (HL u).getD j [] → No.encL (itW m1 (HL t)) = No.encL (itW b (HL u)))) (fun s _ => u.length - (intOf s).toNat)
      case atStart => exact ⟨0, Nat.zero_le _, rfl, New.refl _, fun j b h => absurd h (by omega)⟩
      case round =>
        obtain ⟨k, hkt, rfl, Nk, HK⟩ := hrel
        by_cases hku : k < u.length
        · have hkn : (k : Int) < (u.length : Int) := by omega
          obtain ⟨m2, hm2⟩ : ∃ m2, u[k]? = some m2 := ⟨_, List.getElem?_eq_getElem hku⟩
          have M' : New w wr := M.trans Nk
          have NN := N.trans Nk
          have hi1 := item_yes (HQ59.out.after NN) HTK1.out (HT.out.after M') HM1.out HOK1.out
          have hi2 := fun W (N' : New wr W) => item_yes (HQ69.out.after (NN.trans N')) HTK2.out (HT.out.after (M'.trans N')) hm2 HOK2.out
          have hg1 := (ok_rt HOK1.out).good HM1.out
          have hg2 := (ok_rt HOK2.out).good hm2
          have hsm1 := No.good_small _ hg1
          have hsm2 := No.good_small _ hg2
          have hE1 : No.encB (itW m1 (HL t)) = No.encL (itW m1 (HL t)) := by unfold No.encB; rw [hg1, if_pos rfl]
          have hE2 : No.encB (itW m2 (HL u)) = No.encL (itW m2 (HL u)) := by unfold No.encB; rw [hg2, if_pos rfl]
          have hen1 := fun a c => No.c_enc (itW m1 (HL t)) hsm1 a c
          have hen2 := fun a c => No.c_enc (itW m2 (HL u)) hsm2 a c
          rw [hg1, hE1] at hen1
          rw [hg2, hE2] at hen2
          have HNX : Hid (((HL t).getD i [] = (HL u).getD k [] → No.encL (itW m1 (HL t)) = No.encL (itW m2 (HL u))) → ∀ (j : Nat) b, j < k + 1 → u[j]? = some b → (HL t).getD i [] = (HL u).getD j [] → No.encL (itW m1 (HL t)) = No.encL (itW b (HL u))) := fun H j b hj hb e => by
            rcases Nat.lt_or_ge j k with h | h
            · exact HK.out j b h hb e
            · obtain rfl : j = k := by omega
              rw [hm2] at hb
              obtain rfl := Option.some.inj hb
              exact H e
          obtain ⟨px, rfl, hpx⟩ := HPA9.out (by rw [HL_len]; omega)
          obtain ⟨qx, rfl, hqx⟩ := HQA9.out (by rw [HL_len]; omega)
          have hp : ∀ W, New wr W → W.cell? (px.add i) = some (.string (bs ((HL t).getD i []))) := fun W N' => by
            have := hpx i ((HL t).getD i []) (by rw [List.getD_eq_getElem?_getD, List.getElem?_eq_getElem (by rw [HL_len]; exact hlt)]; rfl)
            exact ((NN.trans N').cell (World.block_lt_of_cell? Wb _ this)).trans this
          have hq : ∀ W, New wr W → W.cell? (qx.add k) = some (.string (bs ((HL u).getD k []))) := fun W N' => by
            have := hqx k ((HL u).getD k []) (by rw [List.getD_eq_getElem?_getD, List.getElem?_eq_getElem (by rw [HL_len]; exact hku)]; rfl)
            exact ((NN.trans N').cell (World.block_lt_of_cell? Wb _ this)).trans this
          clear hpx hqx hg1 hg2 hE1 hE2 hsm1 hsm2 hm2
          have HHL : Hid (HL t = HL t) := rfl
          generalize No.encL (itW m2 (HL u)) = E2 at *
          generalize No.encL (itW m1 (HL t)) = E1 at *
          generalize itW m1 (HL t) = I at *
          generalize itW m2 (HL u) = J at *
          generalize (HL t).getD i [] = hI at *
          generalize (HL u).getD k [] = hJ at *
          go_wp2_with fail
          refine Calls.mono hi1 ?_
          rintro _ Wc ⟨xa, xc, rfl, hx, _, Nc⟩
          have Nc : New wr Wc := Nc
          have h1 := No.itC_one I xa xc
          have hen1 := hen1 xa xc
          obtain ⟨C, hC⟩ : ∃ C, No.itC I xa xc = C := ⟨_, rfl⟩
          have hCs : C.size = 6 := by rw [← hC]; rfl
          rw [hC] at h1 hen1 ⊢
          clear hi1 hC
          go_wp2_with (first
            | (refine wpList_alloc_at (by rfl) 17 (by rfl) 32 (by rfl) _ _ _ No.info24 ?_; intro Wd Rd Nd')
            | (refine wpList_store_new (by rfl) 32 _ _ (by rfl) Wc.heap.size C (by rfl) (by rfl) 32 _ Rd (by rw [hCs]; exact No.i24) (by rw [hCs]; rfl) h1 ?_; intro We Re Be; have Ne : New Wc We := Be.new Nd' (Nat.le_refl _)))
          have hxe := hx.after Ne
          have Nwe : New wr We := Nc.trans Ne
          have hGe : Wc.heap.size < We.heap.size := Re.lt
          generalize Wc.heap.size = G at *
          clear Rd Nd' Be hx Nc Ne h1
          refine Calls.mono (hi2 _ Nwe) ?_
          rintro _ Wf ⟨ya, yc, rfl, hy, _, Nf⟩
          have Nf : New We Wf := Nf
          have h2 := No.itC_one J ya yc
          have hen2 := hen2 ya yc
          obtain ⟨D, hD⟩ : ∃ D, No.itC J ya yc = D := ⟨_, rfl⟩
          have hDs : D.size = 6 := by rw [← hD]; rfl
          rw [hD] at h2 hen2 ⊢
          have Rf := Re.after Nf
          have hxf := hxe.after Nf
          have Nwf := Nwe.trans Nf
          clear hi2 hD Re hxe Nwe Nf hGe
          go_wp2_with (first
            | (refine wpList_alloc_at (by rfl) 19 (by rfl) 32 (by rfl) _ _ _ No.info24 ?_; intro Wg Rg Ng)
            | (refine wpList_store_new (by rfl) 32 _ _ (by rfl) Wf.heap.size D (by rfl) (by rfl) 32 _ Rg (by rw [hDs]; exact No.i24) (by rw [hDs]; rfl) h2 ?_; intro Wh Rh Bh; have Nh : New Wf Wh := Bh.new Ng (Nat.le_refl _); have Rh' := Rf.after Nh)
            | refine wpList_load_row (by rfl) 32 _ (by rfl) G (by rfl) 32 C (0, 0) _ Rh' Tryd.underlying32 rfl (by rw [hCs]; exact No.i24) ?_)
          have hxh := hxf.after Nh
          have hyh := hy.after Nh
          have Nwh := Nwf.trans Nh
          generalize Wf.heap.size = E at *
          clear Rg Ng Bh hxf hy Rf Nwf Nh h2
          refine Calls.mono (hen1 Wh hxh (HT.out.after (M'.trans Nwh))) ?_
          rintro _ Wi ⟨rfl, Ni⟩
          have Ni : New Wh Wi := Ni
          have Nwi := Nwh.trans Ni
          have Ri := Rh.after Ni
          have hyi := hyh.after Ni
          clear hen1 hxh hyh Rh Rh' Nwh Ni
          go_wp2_with (first
            | refine wpList_load_row (by rfl) 32 _ (by rfl) E (by rfl) 32 D (0, 0) _ Ri Tryd.underlying32 rfl (by rw [hDs]; exact No.i24) ?_)
          refine Calls.mono (hen2 Wi hyi (HT.out.after (M'.trans Nwi))) ?_
          rintro _ Wj ⟨rfl, Nj⟩
          have Nj : New Wi Wj := Nj
          have Nwj := Nwi.trans Nj
          have hp2 := hp _ Nwj
          have hq2 := hq _ Nwj
          have hbI := No.beq_bs hI hJ
          have hbE := No.beq_bs E1 E2
          clear hen2 hyi Ri Nj Nwi hp hq
          by_cases hh : hI = hJ
          · rw [show (hI == hJ) = true by rw [beq_iff_eq]; exact hh] at hbI
            by_cases he : E1 = E2
            · have HNX2 : Hid (_) := HNX.out (fun _ => he)
              rw [show (E1 == E2) = true by rw [beq_iff_eq]; exact he] at hbE
              clear hh he HNX
              generalize bs hI = sI at *
              generalize bs hJ = sJ at *
              generalize bs E1 = e1 at *
              generalize bs E2 = e2 at *
              have hbE2 : (e1.toList != e2.toList) = false := by show (!(e1.toList == e2.toList)) = false; rw [hbE]; rfl
              have hbI2 : (sI.toList != sJ.toList) = false := by show (!(sI.toList == sJ.toList)) = false; rw [hbI]; rfl
              have q1 : ∀ p : NewW Wj, p.v.cell? (px.add i) = some (.string sI) := fun p => (p.h.cell (World.block_lt_of_cell? Wj _ hp2)).trans hp2
              have q2 : ∀ p : NewW Wj, p.v.cell? (qx.add k) = some (.string sJ) := fun p => (p.h.cell (World.block_lt_of_cell? Wj _ hq2)).trans hq2
              have hne := NewW.ne Wj
              go_wp2_with fail
              refine region_new Wj (New.refl Wj) (by kernel_rfl) (by kernel_rfl) ?_
              repeat (go_big_quiet_step (fail))
              refine wpQuiet_nil ?_
              rintro Wk ⟨⟨_, kk⟩, rfl⟩
              clear hne q1 q2 hp2 hq2
              go_wp2_with fail
              exact ⟨⟨k + 1, by omega, by go_num, Nk.trans (Nwj.trans kk), HNX2⟩, by simp [intOf]; omega⟩
            · rw [show (E1 == E2) = false by rw [beq_eq_false_iff_ne]; exact he] at hbE
              clear hh he HNX
              generalize bs hI = sI at *
              generalize bs hJ = sJ at *
              generalize bs E1 = e1 at *
              generalize bs E2 = e2 at *
              have hbE2 : (e1.toList != e2.toList) = true := by show (!(e1.toList == e2.toList)) = true; rw [hbE]; rfl
              have hbI2 : (sI.toList != sJ.toList) = false := by show (!(sI.toList == sJ.toList)) = false; rw [hbI]; rfl
              have q1 : ∀ p : NewW Wj, p.v.cell? (px.add i) = some (.string sI) := fun p => (p.h.cell (World.block_lt_of_cell? Wj _ hp2)).trans hp2
              have q2 : ∀ p : NewW Wj, p.v.cell? (qx.add k) = some (.string sJ) := fun p => (p.h.cell (World.block_lt_of_cell? Wj _ hq2)).trans hq2
              have hne := NewW.ne Wj
              go_wp2_with fail
              refine region_new Wj (New.refl Wj) (by kernel_rfl) (by kernel_rfl) ?_
              repeat (go_big_quiet_step (fail))
              refine wpQuiet_nil ?_
              rintro Wk ⟨⟨_, kk⟩, rfl⟩
              clear hne q1 q2 hp2 hq2
              go_wp2_with fail
              refine Calls.mono (hwk _ (M'.trans (Nwj.trans kk))) ?_
              rintro _ Wl ⟨rfl, Nl⟩
              have Nl : New Wk Wl := Nl
              go_wp2_with fail
              go_ret
              exact ⟨rfl, (M'.trans (Nwj.trans kk)).trans Nl⟩
          · have HNX2 : Hid (_) := HNX.out (fun h => absurd h hh)
            rw [show (hI == hJ) = false by rw [beq_eq_false_iff_ne]; exact hh] at hbI
            clear hh HNX
            generalize bs hI = sI at *
            generalize bs hJ = sJ at *
            generalize bs E1 = e1 at *
            generalize bs E2 = e2 at *
            have hbI2 : (sI.toList != sJ.toList) = true := by show (!(sI.toList == sJ.toList)) = true; rw [hbI]; rfl
            have q1 : ∀ p : NewW Wj, p.v.cell? (px.add i) = some (.string sI) := fun p => (p.h.cell (World.block_lt_of_cell? Wj _ hp2)).trans hp2
            have q2 : ∀ p : NewW Wj, p.v.cell? (qx.add k) = some (.string sJ) := fun p => (p.h.cell (World.block_lt_of_cell? Wj _ hq2)).trans hq2
            have hne := NewW.ne Wj
            go_wp2_with fail
            refine region_new Wj (New.refl Wj) (by kernel_rfl) (by kernel_rfl) ?_
            repeat (go_big_quiet_step (fail))
            refine wpQuiet_nil ?_
            rintro Wk ⟨⟨_, kk⟩, rfl⟩
            clear hne q1 q2 hp2 hq2
            go_wp2_with fail
            exact ⟨⟨k + 1, by omega, by go_num, Nk.trans (Nwj.trans kk), HNX2⟩, by simp [intOf]; omega⟩
        · have hku' : k = u.length := by omega
          subst hku'
          clear hku
          go_wp2_with fail
          exact ⟨⟨i + 1, by omega, by go_num, N.trans Nk, fun j k a b hj ha hb e => by
            rcases Nat.lt_or_ge j i with h | h
            · exact HI.out j k a b h ha hb e
            · obtain rfl : j = i := by omega
              rw [HM1.out] at ha
              obtain rfl := Option.some.inj ha
              exact HK.out k b (List.getElem?_eq_some_iff.1 hb).1 hb e⟩, by simp [intOf]; omega⟩
    · obtain rfl : i = t.length := by omega
      have hz : (t.length = 0) ∨ (¬ t.length = 0 ∧ u.length = 0) := by
        by_cases h1 : t.length = 0
        · exact .inl h1
        · by_cases h2 : u.length = 0
          · exact .inr ⟨h1, h2⟩
          · exact absurd (HC2.out (by omega) (by omega) fun i k a b ha hb e => HI.out i k a b (List.getElem?_eq_some_iff.1 ha).1 ha hb e) id
      clear HC2 HI
      rcases hz with h1 | ⟨h1, h2⟩
      · have e1 : ((t.length : Int) == 0) = true := by rw [beq_iff_eq]; omega
        clear h1
        go_wp2_with fail
        go_ret
        exact ⟨rfl, M⟩
      · have e1 : ((t.length : Int) == 0) = false := by rw [beq_eq_false_iff_ne]; omega
        have e2 : ((u.length : Int) == 0) = true := by rw [beq_iff_eq]; omega
        clear h1 h2
        go_wp2_with fail
        go_ret
        exact ⟨rfl, M⟩


end Go.Proofs.YtjikdbmdaeonlaaDoor
