/-
  PutGets: what was put is there, all else is as it was; put once more it changes nothing.
-/
import Derived.Test.YtjpjcojabjkaaaaDoorGaw
import Derived.Test.YtjpjcojabjkaaaaDoorGar
namespace Go.Proofs.YtjpjcojabjkaaaaDoor
open Go.RowKit
set_option maxRecDepth 20000
set_option linter.unusedVariables false

set_option maxHeartbeats 16000000 in
theorem putGets_any {w : World} {v : Value} {l : List Pr} (P : Ls w 2 v (l.map prC)) (hl : l.length ≤ maxLen) (p : Pr) (key : Bt) (hT : Tab w) :
    Calls Tryd.prog 4 #[v, .agg (prC p).toArray, .string (bs key)] w fun e w' => e = .returned (.bool true) ∧ New w w' := by
  have hk2 := fun W => key_any12 key W
  have HP : Hid (Ls w 2 v (l.map prC)) := P
  have HT : Hid (Tab w) := hT
  have hlp := fun {W : World} (n : New w W) => longPairs_any (HP.out.after n) (by unfold maxLen at hl; omega)
  have hwk := fun {W : World} (n : New w W) => wakes_any W (HT.out.kept n)
  have hky := fun W => key_any12 p.1 W
  obtain ⟨b1, hb1⟩ : ∃ b, longB lenP 3000 ([], []) l = b := ⟨_, rfl⟩
  rw [hb1] at hlp
  clear P hT
  cases b1
  case true =>
    clear hb1 hky hk2
    go_enter Tryd.func4, Tryd.ntmps4
    go_wp2_with (first
      | (refine wpList_box_at (by rfl) 4 (by rfl) 25 _ (by rfl) (prC p).toArray (by rfl) ?_; intro W0 R0 N0))
    have y0 := R0.has 0 (v := .string (bs p.1)) rfl
    have y1 := R0.has 1 (v := .string (bs p.2)) rfl
    go_wp2_with fail
    refine Calls.mono (hlp (N0)) ?_
    rintro _ W1 ⟨rfl, N1⟩
    have M1 : New w W1 := (N0).trans N1
    have R1p := R0.after N1
    clear y0 y1
    have y0 := R1p.has 0 (v := .string (bs p.1)) rfl
    have y1 := R1p.has 1 (v := .string (bs p.2)) rfl
    clear hlp
    go_wp2_with fail
    refine Calls.mono (hwk (M1)) ?_
    rintro _ W2 ⟨rfl, N2⟩
    have M2 : New w W2 := (M1).trans N2
    have R2p := R1p.after N2
    clear y0 y1
    have y0 := R2p.has 0 (v := .string (bs p.1)) rfl
    have y1 := R2p.has 1 (v := .string (bs p.2)) rfl
    clear hwk
    go_wp2_with fail
    go_ret
    exact ⟨rfl, M2⟩
  obtain ⟨hs1, hs2⟩ := prs_of hb1
  obtain ⟨mb, hmb⟩ : ∃ b, mayB l = b := ⟨_, rfl⟩
  have hmay := fun {w1 : World} (n : New w w1) => refMay_any (HP.out.after n) (by omega) hs2
  rw [hmb] at hmay
  cases mb
  case false =>
    clear hs2 hmb hb1 hky hk2
    go_enter Tryd.func4, Tryd.ntmps4
    go_wp2_with (first
      | (refine wpList_box_at (by rfl) 4 (by rfl) 25 _ (by rfl) (prC p).toArray (by rfl) ?_; intro W0 R0 N0))
    have y0 := R0.has 0 (v := .string (bs p.1)) rfl
    have y1 := R0.has 1 (v := .string (bs p.2)) rfl
    go_wp2_with fail
    refine Calls.mono (hlp (N0)) ?_
    rintro _ W1 ⟨rfl, N1⟩
    have M1 : New w W1 := (N0).trans N1
    have R1p := R0.after N1
    clear y0 y1
    have y0 := R1p.has 0 (v := .string (bs p.1)) rfl
    have y1 := R1p.has 1 (v := .string (bs p.2)) rfl
    clear hlp
    go_wp2_with fail
    refine Calls.mono (hmay (M1)) ?_
    rintro _ W2 ⟨rfl, N2⟩
    have M2 : New w W2 := (M1).trans N2
    have R2p := R1p.after N2
    clear y0 y1
    have y0 := R2p.has 0 (v := .string (bs p.1)) rfl
    have y1 := R2p.has 1 (v := .string (bs p.2)) rfl
    clear hmay
    go_wp2_with fail
    refine Calls.mono (hwk (M2)) ?_
    rintro _ W3 ⟨rfl, N3⟩
    have M3 : New w W3 := (M2).trans N3
    have R3p := R2p.after N3
    clear y0 y1
    have y0 := R3p.has 0 (v := .string (bs p.1)) rfl
    have y1 := R3p.has 1 (v := .string (bs p.2)) rfl
    clear hwk
    go_wp2_with fail
    go_ret
    exact ⟨rfl, M3⟩
  obtain ⟨kb, hkb⟩ : ∃ b, keyOk p.1 = b := ⟨_, rfl⟩
  rw [hkb] at hky
  cases kb
  case false =>
    clear hs2 hmb hb1 hkb hk2
    go_enter Tryd.func4, Tryd.ntmps4
    go_wp2_with (first
      | (refine wpList_box_at (by rfl) 4 (by rfl) 25 _ (by rfl) (prC p).toArray (by rfl) ?_; intro W0 R0 N0))
    have y0 := R0.has 0 (v := .string (bs p.1)) rfl
    have y1 := R0.has 1 (v := .string (bs p.2)) rfl
    go_wp2_with fail
    refine Calls.mono (hlp (N0)) ?_
    rintro _ W1 ⟨rfl, N1⟩
    have M1 : New w W1 := (N0).trans N1
    have R1p := R0.after N1
    clear y0 y1
    have y0 := R1p.has 0 (v := .string (bs p.1)) rfl
    have y1 := R1p.has 1 (v := .string (bs p.2)) rfl
    clear hlp
    go_wp2_with fail
    refine Calls.mono (hmay (M1)) ?_
    rintro _ W2 ⟨rfl, N2⟩
    have M2 : New w W2 := (M1).trans N2
    have R2p := R1p.after N2
    clear y0 y1
    have y0 := R2p.has 0 (v := .string (bs p.1)) rfl
    have y1 := R2p.has 1 (v := .string (bs p.2)) rfl
    clear hmay
    go_wp2_with fail
    refine Calls.mono (hky W2) ?_
    rintro _ W2 ⟨rfl, rfl⟩
    clear hky
    go_wp2_with fail
    refine Calls.mono (hwk (M2)) ?_
    rintro _ W4 ⟨rfl, N4⟩
    have M4 : New w W4 := (M2).trans N4
    have R4p := R2p.after N4
    clear y0 y1
    have y0 := R4p.has 0 (v := .string (bs p.1)) rfl
    have y1 := R4p.has 1 (v := .string (bs p.2)) rfl
    clear hwk
    go_wp2_with fail
    go_ret
    exact ⟨rfl, M4⟩
  by_cases h16 : 16 < p.2.length
  · have h16b : decide ((16 : Int) < ((bs p.2).size : Int)) = true := decide_eq_true (by rw [bs_size]; omega)
    clear hs2 hmb hb1 hkb h16 hk2
    go_enter Tryd.func4, Tryd.ntmps4
    go_wp2_with (first
      | (refine wpList_box_at (by rfl) 4 (by rfl) 25 _ (by rfl) (prC p).toArray (by rfl) ?_; intro W0 R0 N0))
    have y0 := R0.has 0 (v := .string (bs p.1)) rfl
    have y1 := R0.has 1 (v := .string (bs p.2)) rfl
    go_wp2_with fail
    refine Calls.mono (hlp (N0)) ?_
    rintro _ W1 ⟨rfl, N1⟩
    have M1 : New w W1 := (N0).trans N1
    have R1p := R0.after N1
    clear y0 y1
    have y0 := R1p.has 0 (v := .string (bs p.1)) rfl
    have y1 := R1p.has 1 (v := .string (bs p.2)) rfl
    clear hlp
    go_wp2_with fail
    refine Calls.mono (hmay (M1)) ?_
    rintro _ W2 ⟨rfl, N2⟩
    have M2 : New w W2 := (M1).trans N2
    have R2p := R1p.after N2
    clear y0 y1
    have y0 := R2p.has 0 (v := .string (bs p.1)) rfl
    have y1 := R2p.has 1 (v := .string (bs p.2)) rfl
    clear hmay
    go_wp2_with fail
    refine Calls.mono (hky W2) ?_
    rintro _ W2 ⟨rfl, rfl⟩
    clear hky
    go_wp2_with fail
    refine Calls.mono (hwk (M2)) ?_
    rintro _ W4 ⟨rfl, N4⟩
    have M4 : New w W4 := (M2).trans N4
    have R4p := R2p.after N4
    clear y0 y1
    have y0 := R4p.has 0 (v := .string (bs p.1)) rfl
    have y1 := R4p.has 1 (v := .string (bs p.2)) rfl
    clear hwk
    go_wp2_with fail
    go_ret
    exact ⟨rfl, M4⟩
  have h16b : decide ((16 : Int) < ((bs p.2).size : Int)) = false := decide_eq_false (by rw [bs_size]; omega)
  obtain ⟨qb, hqb⟩ : ∃ b, keyOk key = b := ⟨_, rfl⟩
  rw [hqb] at hk2
  cases qb
  case false =>
    clear hs2 hmb hb1 hkb h16 hqb
    go_enter Tryd.func4, Tryd.ntmps4
    go_wp2_with (first
      | (refine wpList_box_at (by rfl) 4 (by rfl) 25 _ (by rfl) (prC p).toArray (by rfl) ?_; intro W0 R0 N0))
    have y0 := R0.has 0 (v := .string (bs p.1)) rfl
    have y1 := R0.has 1 (v := .string (bs p.2)) rfl
    go_wp2_with fail
    refine Calls.mono (hlp (N0)) ?_
    rintro _ W1 ⟨rfl, N1⟩
    have M1 : New w W1 := (N0).trans N1
    have R1p := R0.after N1
    clear y0 y1
    have y0 := R1p.has 0 (v := .string (bs p.1)) rfl
    have y1 := R1p.has 1 (v := .string (bs p.2)) rfl
    clear hlp
    go_wp2_with fail
    refine Calls.mono (hmay (M1)) ?_
    rintro _ W2 ⟨rfl, N2⟩
    have M2 : New w W2 := (M1).trans N2
    have R2p := R1p.after N2
    clear y0 y1
    have y0 := R2p.has 0 (v := .string (bs p.1)) rfl
    have y1 := R2p.has 1 (v := .string (bs p.2)) rfl
    clear hmay
    go_wp2_with fail
    refine Calls.mono (hky W2) ?_
    rintro _ W2 ⟨rfl, rfl⟩
    clear hky
    go_wp2_with fail
    refine Calls.mono (hk2 W2) ?_
    rintro _ W2 ⟨rfl, rfl⟩
    clear hk2
    go_wp2_with fail
    refine Calls.mono (hwk (M2)) ?_
    rintro _ W5 ⟨rfl, N5⟩
    have M5 : New w W5 := (M2).trans N5
    have R5p := R2p.after N5
    clear y0 y1
    have y0 := R5p.has 0 (v := .string (bs p.1)) rfl
    have y1 := R5p.has 1 (v := .string (bs p.2)) rfl
    clear hwk
    go_wp2_with fail
    go_ret
    exact ⟨rfl, M5⟩
  have h16' : p.2.length ≤ 16 := by omega
  have hbu := fun {W : World} (n : New w W) => r_build (HP.out.after n) (by omega) hs2
  rw [hmb, bX_build hmb] at hbu
  have htok : TOk (buildN l) := build_ok hmb (by omega)
  have hsm := set_may hmb hkb h16'
  have hsl := set_len (rise_may hmb) p.1 p.2
  have hutok : TOk (buildN (setL l p.1 p.2)) := build_ok hsm (by split at hsl <;> omega)
  have he0 : errP p = 0 := by unfold errP; rw [if_neg (by rw [hkb]; simp), if_neg (by omega)]
  have hput := fun {W : World} {x : Value} (n : New w W) (q : Ls W 20 x ((buildN l).map ndC)) => of_any13 q htok (HT.out.kept n) p.1 p.2
  rw [show ((p.1, p.2) : Pr) = p from rfl, allP_one_build hmb, if_pos he0] at hput
  have hagn := fun {W : World} {x : Value} (n : New w W) (q : Ls W 20 x ((buildN (setL l p.1 p.2)).map ndC)) => of_any13 q hutok (HT.out.kept n) p.1 p.2
  rw [show ((p.1, p.2) : Pr) = p from rfl, allP_one_build hsm, if_pos he0, set_again hmb hkb h16'] at hagn
  have hga := fun {W : World} {x : Value} (n : New w W) (q : Ls W 20 x ((buildN (setL l p.1 p.2)).map ndC)) => of_any12 q hutok (HT.out.kept n) p.1
  rw [err_build hsm, if_neg (by rw [hkb]; simp), ofK_look (ok_build hsm) hkb, rL_build hsm, set_look hmb hkb h16', if_pos rfl] at hga
  have hgb := fun {W : World} {x : Value} (n : New w W) (q : Ls W 20 x ((buildN (setL l p.1 p.2)).map ndC)) => of_any12 q hutok (HT.out.kept n) key
  rw [err_build hsm, if_neg (by rw [hqb]; simp), ofK_look (ok_build hsm) hqb, rL_build hsm] at hgb
  have hgc := fun {W : World} {x : Value} (n : New w W) (q : Ls W 20 x ((buildN l).map ndC)) => of_any12 q htok (HT.out.kept n) key
  rw [err_build hmb, if_neg (by rw [hqb]; simp), ofK_look (ok_build hmb) hqb, rL_build hmb] at hgc
  have hgd := fun {W : World} {x : Value} (n : New w W) (q : Ls W 20 x ((buildN (setL l p.1 p.2)).map ndC)) => good_trie q hutok (HT.out.kept n)
  rw [show (readF (buildN (setL l p.1 p.2))).isSome = true from ok_build hsm] at hgd
  have h16k := build_k16 hsm
  have hulen := hutok.few
  have hkt := fun {W : World} {x y : Value} (q : Ls W 20 x ((buildN (setL l p.1 p.2)).map ndC)) (q' : Ls W 20 y ((buildN (setL l p.1 p.2)).map ndC)) => keepTrie_any q q' h16k h16k (by omega) (by omega)
  rw [decide_eq_true rfl] at hkt
  obtain ⟨bv, hbv⟩ : ∃ o, lookL (setL l p.1 p.2) key = o := ⟨_, rfl⟩
  obtain ⟨cv, hcv⟩ : ∃ o, lookL l key = o := ⟨_, rfl⟩
  have HBC : Hid (key = p.1 ∨ bv = cv) := by
    show _ ∨ _
    by_cases e : key = p.1
    · exact .inl e
    · refine .inr ?_
      rw [← hbv, set_look hmb hkb h16', if_neg e, hcv]
  rw [hbv] at hgb
  rw [hcv] at hgc
  have hfd := field_T
  have hea := fun W => eq_ans (some p.2) (some p.2) W
  rw [decide_eq_true rfl] at hea
  have hebc := fun W => eq_ans bv cv W
  have htx := beq_texts key p.1
  generalize buildN l = t at hbu hput hgc
  generalize buildN (setL l p.1 p.2) = u at hput hagn hga hgb hgd hkt
  have HGA : Hid (_) := @hga
  have HGB : Hid (_) := @hgb
  have HGC : Hid (_) := @hgc
  have HGD : Hid (_) := @hgd
  have HKT : Hid (_) := @hkt
  have HWK : Hid (∀ {W : World}, New w W → Calls Tryd.prog 10 #[] W fun e w' => e = .returned (.bool true) ∧ New W w') := fun n => hwk n
  clear hs2 hmb hb1 hkb h16 h16' he0 htok hsm hsl hutok hqb h16k hulen hbv hcv hga hgb hgc hgd hkt hwk
  go_enter Tryd.func4, Tryd.ntmps4
  go_wp2_with (first
    | (refine wpList_box_at (by rfl) 4 (by rfl) 25 _ (by rfl) (prC p).toArray (by rfl) ?_; intro W0 R0 N0))
  have y0 := R0.has 0 (v := .string (bs p.1)) rfl
  have y1 := R0.has 1 (v := .string (bs p.2)) rfl
  go_wp2_with fail
  refine Calls.mono (hlp (N0)) ?_
  rintro _ W1 ⟨rfl, N1⟩
  have M1 : New w W1 := (N0).trans N1
  have R1p := R0.after N1
  clear y0 y1
  have y0 := R1p.has 0 (v := .string (bs p.1)) rfl
  have y1 := R1p.has 1 (v := .string (bs p.2)) rfl
  clear hlp
  go_wp2_with fail
  refine Calls.mono (hmay (M1)) ?_
  rintro _ W2 ⟨rfl, N2⟩
  have M2 : New w W2 := (M1).trans N2
  have R2p := R1p.after N2
  clear y0 y1
  have y0 := R2p.has 0 (v := .string (bs p.1)) rfl
  have y1 := R2p.has 1 (v := .string (bs p.2)) rfl
  clear hmay
  go_wp2_with fail
  refine Calls.mono (hky W2) ?_
  rintro _ W2 ⟨rfl, rfl⟩
  clear hky
  go_wp2_with fail
  refine Calls.mono (hk2 W2) ?_
  rintro _ W2 ⟨rfl, rfl⟩
  clear hk2
  go_wp2_with fail
  refine Calls.mono (hbu (M2)) ?_
  rintro _ W5 ⟨a, n, c, a2, n2, c2, rfl, PT, _, N5⟩
  have M5 : New w W5 := (M2).trans N5
  have R5p := R2p.after N5
  clear y0 y1
  have y0 := R5p.has 0 (v := .string (bs p.1)) rfl
  have y1 := R5p.has 1 (v := .string (bs p.2)) rfl
  clear hbu
  have HPT : Hid (Ls W5 20 (.slice a n c) (t.map ndC)) := PT
  have hf := hfd a n c a2 n2 c2 true
  clear PT hfd
  go_wp2_with fail
  refine Calls.mono (hput M5 HPT.out) ?_
  rintro _ W6 ⟨v5, rfl, Q5, N6⟩
  have M6 : New w W6 := (M5).trans N6
  have R6p := R5p.after N6
  clear y0 y1
  have y0 := R6p.has 0 (v := .string (bs p.1)) rfl
  have y1 := R6p.has 1 (v := .string (bs p.2)) rfl
  have HT5 : Hid (Ls W6 20 (.slice a n c) (t.map ndC)) := HPT.out.after N6
  have HU5 : Hid (Ls W6 20 v5 (u.map ndC)) := Q5.ls
  clear hput Q5 HPT
  go_wp2_with fail
  refine Calls.mono (hagn M6 HU5.out) ?_
  rintro _ W7 ⟨v6, rfl, Q6, N7⟩
  have M7 : New w W7 := (M6).trans N7
  have R7p := R6p.after N7
  clear y0 y1
  have y0 := R7p.has 0 (v := .string (bs p.1)) rfl
  have y1 := R7p.has 1 (v := .string (bs p.2)) rfl
  have HT6 : Hid (Ls W7 20 (.slice a n c) (t.map ndC)) := HT5.out.after N7
  have HU6 : Hid (Ls W7 20 v5 (u.map ndC)) := HU5.out.after N7
  have HV6 : Hid (Ls W7 20 v6 (u.map ndC)) := Q6.ls
  clear hagn Q6 HT5 HU5
  go_wp2_with fail
  refine Calls.mono (HGA.out M7 HU6.out) ?_
  rintro _ W8 ⟨rfl, N8⟩
  have M8 : New w W8 := (M7).trans N8
  have R8p := R7p.after N8
  clear y0 y1
  have y0 := R8p.has 0 (v := .string (bs p.1)) rfl
  have y1 := R8p.has 1 (v := .string (bs p.2)) rfl
  go_wp2_with (first
    | (refine wpList_alloc_at (by rfl) 12 (by rfl) 46 (by rfl) _ _ _ info27 ?_; intro Wla Rla Nla)
    | (refine wpList_store_new (by rfl) 46 _ _ (by rfl) W8.heap.size (ansA (some p.2)) (by rfl) (by rfl) 46 _ Rla i27 rfl (ans_one _) ?_; intro Wa Ra Ba; have Na : New W8 Wa := Ba.new Nla (Nat.le_refl _)))
  have hlta := Ra.lt
  have Ma : New w Wa := (M8).trans Na
  have NNa := N8.trans Na
  have Rap := R8p.after Na
  clear y0 y1
  have y0 := Rap.has 0 (v := .string (bs p.1)) rfl
  have y1 := Rap.has 1 (v := .string (bs p.2)) rfl
  generalize W8.heap.size = Ga at *
  have Ka := NNa
  refine Calls.mono (HGB.out Ma (HU6.out.after Ka)) ?_
  rintro _ W9 ⟨rfl, N9⟩
  have M9 : New w W9 := (Ma).trans N9
  have R9p := Rap.after N9
  clear y0 y1
  have y0 := R9p.has 0 (v := .string (bs p.1)) rfl
  have y1 := R9p.has 1 (v := .string (bs p.2)) rfl
  have Rab := Ra.after N9
  go_wp2_with (first
    | (refine wpList_alloc_at (by rfl) 14 (by rfl) 46 (by rfl) _ _ _ info27 ?_; intro Wlb Rlb Nlb)
    | (refine wpList_store_new (by rfl) 46 _ _ (by rfl) W9.heap.size (ansA bv) (by rfl) (by rfl) 46 _ Rlb i27 rfl (ans_one _) ?_; intro Wb Rb Bb; have Nb : New W9 Wb := Bb.new Nlb (Nat.le_refl _)))
  have hltb := Rb.lt
  have Rabq := Rab.after Nb
  have Mb : New w Wb := (M9).trans Nb
  have NNb := N9.trans Nb
  have Rbp := R9p.after Nb
  clear y0 y1
  have y0 := Rbp.has 0 (v := .string (bs p.1)) rfl
  have y1 := Rbp.has 1 (v := .string (bs p.2)) rfl
  generalize W9.heap.size = Gb at *
  have Kb := Ka.trans NNb
  refine Calls.mono (HGC.out Mb (HT6.out.after Kb)) ?_
  rintro _ W10 ⟨rfl, N10⟩
  have M10 : New w W10 := (Mb).trans N10
  have R10p := Rbp.after N10
  clear y0 y1
  have y0 := R10p.has 0 (v := .string (bs p.1)) rfl
  have y1 := R10p.has 1 (v := .string (bs p.2)) rfl
  have Rac := Rabq.after N10
  have Rbc := Rb.after N10
  go_wp2_with (first
    | (refine wpList_alloc_at (by rfl) 16 (by rfl) 46 (by rfl) _ _ _ info27 ?_; intro Wlc Rlc Nlc)
    | (refine wpList_store_new (by rfl) 46 _ _ (by rfl) W10.heap.size (ansA cv) (by rfl) (by rfl) 46 _ Rlc i27 rfl (ans_one _) ?_; intro Wc Rc Bc; have Nc : New W10 Wc := Bc.new Nlc (Nat.le_refl _)))
  have hltc := Rc.lt
  have Racq := Rac.after Nc
  have Rbcq := Rbc.after Nc
  have Mc : New w Wc := (M10).trans Nc
  have NNc := N10.trans Nc
  have Rcp := R10p.after Nc
  clear y0 y1
  have y0 := Rcp.has 0 (v := .string (bs p.1)) rfl
  have y1 := Rcp.has 1 (v := .string (bs p.2)) rfl
  generalize W10.heap.size = Gc at *
  have Kc := Kb.trans NNc
  have HU9 : Hid (Ls Wc 20 v5 (u.map ndC)) := HU6.out.after Kc
  have HV9 : Hid (Ls Wc 20 v6 (u.map ndC)) := HV6.out.after Kc
  clear HGA HGB HGC HU6 HV6 HT6 Ka Kb Kc NNa NNb NNc
  have XA := Racq
  have XB := Rbcq
  have XC := Rc
  clear Racq Rbcq Rc Ra Rb Rab Rabq Rac Rbc hlta hltb hltc
  have hb1 := XA.lt
  have hb2 := XB.lt
  have hb3 := XC.lt
  go_wp2_with fail
  refine Calls.mono (HGD.out Mc HU9.out) ?_
  rintro _ W11 ⟨rfl, N11⟩
  have M11 : New w W11 := (Mc).trans N11
  have R11p := Rcp.after N11
  clear y0 y1
  have y0 := R11p.has 0 (v := .string (bs p.1)) rfl
  have y1 := R11p.has 1 (v := .string (bs p.2)) rfl
  have YA := XA.after N11
  have YB := XB.after N11
  have YC := XC.after N11
  clear XA XB XC hb1 hb2 hb3
  go_wp2_with fail
  refine Calls.mono (HKT.out (HU9.out.after N11) (HV9.out.after N11)) ?_
  rintro _ W12 ⟨rfl, N12⟩
  have M12 : New w W12 := (M11).trans N12
  have R12p := R11p.after N12
  clear y0 y1
  have y0 := R12p.has 0 (v := .string (bs p.1)) rfl
  have y1 := R12p.has 1 (v := .string (bs p.2)) rfl
  have ZA := YA.after N12
  have ZB := YB.after N12
  have ZC := YC.after N12
  clear YA YB YC HU9 HV9 HGD HKT
  have HM : Hid (New w W12) := M12
  by_cases hkk : key = p.1
  · rw [show (key == p.1) = true by rw [beq_iff_eq]; exact hkk] at htx
    clear hebc hkk HBC
    go_wp2_with (first
      | refine wpList_load_row (by rfl) 46 _ (by rfl) Ga (by rfl) 46 (ansA (some p.2)) (0, 0) _ ZA Tryd.underlying46 rfl i27 ?_
      | refine wpList_build2 (by rfl) 46 _ _ (by rfl) (.bool true) (.string (bs p.2)) (by rfl) (by rfl) (ansA (some p.2)) (built27_2 _) ?_
      | refine wpList_load_want (by rfl) 46 _ (by rfl) Gb (by rfl) 46 (ansA bv) _ ZB Tryd.underlying46 rfl i27 ?_
      | refine wpList_load_want (by rfl) 46 _ (by rfl) Gc (by rfl) 46 (ansA cv) _ ZC Tryd.underlying46 rfl i27 ?_)
    refine Calls.mono (HWK.out HM.out) ?_
    rintro _ Wz ⟨rfl, Nz⟩
    go_wp2_with fail
    go_ret
    exact ⟨rfl, HM.out.trans Nz⟩
  · rw [show (key == p.1) = false by rw [beq_eq_false_iff_ne]; exact hkk] at htx
    have hbc := HBC.out.resolve_left hkk
    rw [decide_eq_true hbc] at hebc
    clear hbc hkk HBC
    go_wp2_with (first
      | refine wpList_load_row (by rfl) 46 _ (by rfl) Ga (by rfl) 46 (ansA (some p.2)) (0, 0) _ ZA Tryd.underlying46 rfl i27 ?_
      | refine wpList_build2 (by rfl) 46 _ _ (by rfl) (.bool true) (.string (bs p.2)) (by rfl) (by rfl) (ansA (some p.2)) (built27_2 _) ?_
      | refine wpList_load_want (by rfl) 46 _ (by rfl) Gb (by rfl) 46 (ansA bv) _ ZB Tryd.underlying46 rfl i27 ?_
      | refine wpList_load_want (by rfl) 46 _ (by rfl) Gc (by rfl) 46 (ansA cv) _ ZC Tryd.underlying46 rfl i27 ?_)
    refine Calls.mono (HWK.out HM.out) ?_
    rintro _ Wz ⟨rfl, Nz⟩
    go_wp2_with fail
    go_ret
    exact ⟨rfl, HM.out.trans Nz⟩
theorem putGets_q {w : World} {v : Value} {l : List Pr} (P : Ls w 2 v (l.map prC)) (hl : l.length ≤ maxLen) (p : Pr) (q : ByteArray) (hT : Tab w) :
    Calls Tryd.prog 4 #[v, .agg (prC p).toArray, .string q] w fun e w' => e = .returned (.bool true) ∧ New w w' := by
  have h := putGets_any P hl p (L q) hT
  rwa [bs_L] at h
end Go.Proofs.YtjpjcojabjkaaaaDoor
