/-
  PutNodes: how many nodes a pair more makes.
-/
import Derived.Test.YtjpjcojabjkaaaaDoorGaw
import Derived.Test.YtjpjcojabjkaaaaDoorGar
namespace Go.Proofs.YtjpjcojabjkaaaaDoor
open Go.RowKit
set_option maxRecDepth 20000
set_option linter.unusedVariables false

set_option maxHeartbeats 16000000 in
theorem putNodes_any {w : World} {v : Value} {l : List Pr} (P : Ls w 2 v (l.map prC)) (hl : l.length ≤ maxLen) (p : Pr) (hT : Tab w) :
    Calls Tryd.prog 6 #[v, .agg (prC p).toArray] w fun e w' => e = .returned (.bool true) ∧ New w w' := by
  have HP : Hid (Ls w 2 v (l.map prC)) := P
  have HT : Hid (Tab w) := hT
  have hlp := fun {W : World} (n : New w W) => longPairs_any (HP.out.after n) (by unfold maxLen at hl; omega)
  have hwk := fun {W : World} (n : New w W) => wakes_any W (HT.out.kept n)
  have hky := fun W => key_any12 p.1 W
  obtain ⟨b1, hb1⟩ : ∃ b, longB lenP 3000 ([], []) l = b := ⟨_, rfl⟩
  rw [hb1] at hlp
  clear P hT
  cases b1
  case true =>
    clear hb1 hky
    go_enter Tryd.func6, Tryd.ntmps6
    go_wp2_with (first
      | (refine wpList_box_at (by rfl) 3 (by rfl) 25 _ (by rfl) (prC p).toArray (by rfl) ?_; intro W0 R0 N0))
    have y0 := R0.has 0 (v := .string (bs p.1)) rfl
    have y1 := R0.has 1 (v := .string (bs p.2)) rfl
    go_wp2_with fail
    refine Calls.mono (hlp (N0)) ?_
    rintro _ W1 ⟨rfl, N1⟩
    have M1 : New w W1 := (N0).trans N1
    have R1p := R0.after N1
    clear y0 y1
    have y0 := R1p.has 0 (v := .string (bs p.1)) rfl
    have y1 := R1p.has 1 (v := .string (bs p.2)) rfl
    clear hlp
    go_wp2_with fail
    refine Calls.mono (hwk (M1)) ?_
    rintro _ W2 ⟨rfl, N2⟩
    have M2 : New w W2 := (M1).trans N2
    have R2p := R1p.after N2
    clear y0 y1
    have y0 := R2p.has 0 (v := .string (bs p.1)) rfl
    have y1 := R2p.has 1 (v := .string (bs p.2)) rfl
    clear hwk
    go_wp2_with fail
    go_ret
    exact ⟨rfl, M2⟩
  obtain ⟨hs1, hs2⟩ := prs_of hb1
  obtain ⟨mb, hmb⟩ : ∃ b, mayB l = b := ⟨_, rfl⟩
  have hmay := fun {w1 : World} (n : New w w1) => refMay_any (HP.out.after n) (by omega) hs2
  rw [hmb] at hmay
  cases mb
  case false =>
    clear hs2 hmb hb1 hky
    go_enter Tryd.func6, Tryd.ntmps6
    go_wp2_with (first
      | (refine wpList_box_at (by rfl) 3 (by rfl) 25 _ (by rfl) (prC p).toArray (by rfl) ?_; intro W0 R0 N0))
    have y0 := R0.has 0 (v := .string (bs p.1)) rfl
    have y1 := R0.has 1 (v := .string (bs p.2)) rfl
    go_wp2_with fail
    refine Calls.mono (hlp (N0)) ?_
    rintro _ W1 ⟨rfl, N1⟩
    have M1 : New w W1 := (N0).trans N1
    have R1p := R0.after N1
    clear y0 y1
    have y0 := R1p.has 0 (v := .string (bs p.1)) rfl
    have y1 := R1p.has 1 (v := .string (bs p.2)) rfl
    clear hlp
    go_wp2_with fail
    refine Calls.mono (hmay (M1)) ?_
    rintro _ W2 ⟨rfl, N2⟩
    have M2 : New w W2 := (M1).trans N2
    have R2p := R1p.after N2
    clear y0 y1
    have y0 := R2p.has 0 (v := .string (bs p.1)) rfl
    have y1 := R2p.has 1 (v := .string (bs p.2)) rfl
    clear hmay
    go_wp2_with fail
    refine Calls.mono (hwk (M2)) ?_
    rintro _ W3 ⟨rfl, N3⟩
    have M3 : New w W3 := (M2).trans N3
    have R3p := R2p.after N3
    clear y0 y1
    have y0 := R3p.has 0 (v := .string (bs p.1)) rfl
    have y1 := R3p.has 1 (v := .string (bs p.2)) rfl
    clear hwk
    go_wp2_with fail
    go_ret
    exact ⟨rfl, M3⟩
  obtain ⟨kb, hkb⟩ : ∃ b, keyOk p.1 = b := ⟨_, rfl⟩
  rw [hkb] at hky
  cases kb
  case false =>
    clear hs2 hmb hb1 hkb
    go_enter Tryd.func6, Tryd.ntmps6
    go_wp2_with (first
      | (refine wpList_box_at (by rfl) 3 (by rfl) 25 _ (by rfl) (prC p).toArray (by rfl) ?_; intro W0 R0 N0))
    have y0 := R0.has 0 (v := .string (bs p.1)) rfl
    have y1 := R0.has 1 (v := .string (bs p.2)) rfl
    go_wp2_with fail
    refine Calls.mono (hlp (N0)) ?_
    rintro _ W1 ⟨rfl, N1⟩
    have M1 : New w W1 := (N0).trans N1
    have R1p := R0.after N1
    clear y0 y1
    have y0 := R1p.has 0 (v := .string (bs p.1)) rfl
    have y1 := R1p.has 1 (v := .string (bs p.2)) rfl
    clear hlp
    go_wp2_with fail
    refine Calls.mono (hmay (M1)) ?_
    rintro _ W2 ⟨rfl, N2⟩
    have M2 : New w W2 := (M1).trans N2
    have R2p := R1p.after N2
    clear y0 y1
    have y0 := R2p.has 0 (v := .string (bs p.1)) rfl
    have y1 := R2p.has 1 (v := .string (bs p.2)) rfl
    clear hmay
    go_wp2_with fail
    refine Calls.mono (hky W2) ?_
    rintro _ W2 ⟨rfl, rfl⟩
    clear hky
    go_wp2_with fail
    refine Calls.mono (hwk (M2)) ?_
    rintro _ W4 ⟨rfl, N4⟩
    have M4 : New w W4 := (M2).trans N4
    have R4p := R2p.after N4
    clear y0 y1
    have y0 := R4p.has 0 (v := .string (bs p.1)) rfl
    have y1 := R4p.has 1 (v := .string (bs p.2)) rfl
    clear hwk
    go_wp2_with fail
    go_ret
    exact ⟨rfl, M4⟩
  by_cases h16 : 16 < p.2.length
  · have h16b : decide ((16 : Int) < ((bs p.2).size : Int)) = true := decide_eq_true (by rw [bs_size]; omega)
    clear hs2 hmb hb1 hkb h16
    go_enter Tryd.func6, Tryd.ntmps6
    go_wp2_with (first
      | (refine wpList_box_at (by rfl) 3 (by rfl) 25 _ (by rfl) (prC p).toArray (by rfl) ?_; intro W0 R0 N0))
    have y0 := R0.has 0 (v := .string (bs p.1)) rfl
    have y1 := R0.has 1 (v := .string (bs p.2)) rfl
    go_wp2_with fail
    refine Calls.mono (hlp (N0)) ?_
    rintro _ W1 ⟨rfl, N1⟩
    have M1 : New w W1 := (N0).trans N1
    have R1p := R0.after N1
    clear y0 y1
    have y0 := R1p.has 0 (v := .string (bs p.1)) rfl
    have y1 := R1p.has 1 (v := .string (bs p.2)) rfl
    clear hlp
    go_wp2_with fail
    refine Calls.mono (hmay (M1)) ?_
    rintro _ W2 ⟨rfl, N2⟩
    have M2 : New w W2 := (M1).trans N2
    have R2p := R1p.after N2
    clear y0 y1
    have y0 := R2p.has 0 (v := .string (bs p.1)) rfl
    have y1 := R2p.has 1 (v := .string (bs p.2)) rfl
    clear hmay
    go_wp2_with fail
    refine Calls.mono (hky W2) ?_
    rintro _ W2 ⟨rfl, rfl⟩
    clear hky
    go_wp2_with fail
    refine Calls.mono (hwk (M2)) ?_
    rintro _ W4 ⟨rfl, N4⟩
    have M4 : New w W4 := (M2).trans N4
    have R4p := R2p.after N4
    clear y0 y1
    have y0 := R4p.has 0 (v := .string (bs p.1)) rfl
    have y1 := R4p.has 1 (v := .string (bs p.2)) rfl
    clear hwk
    go_wp2_with fail
    go_ret
    exact ⟨rfl, M4⟩
  have h16b : decide ((16 : Int) < ((bs p.2).size : Int)) = false := decide_eq_false (by rw [bs_size]; omega)
  have h16' : p.2.length ≤ 16 := by omega
  have hbu := fun {W : World} (n : New w W) => r_build (HP.out.after n) (by omega) hs2
  rw [hmb, bX_build hmb] at hbu
  have htok : TOk (buildN l) := build_ok hmb (by omega)
  have he0 : errP p = 0 := by unfold errP; rw [if_neg (by rw [hkb]; simp), if_neg (by omega)]
  have hput := fun {W : World} {x : Value} (n : New w W) (q : Ls W 20 x ((buildN l).map ndC)) => of_any13 q htok (HT.out.kept n) p.1 p.2
  rw [show ((p.1, p.2) : Pr) = p from rfl, allP_one_build hmb, if_pos he0] at hput
  have hget := fun {W : World} {x : Value} (n : New w W) (q : Ls W 20 x ((buildN l).map ndC)) => of_any12 q htok (HT.out.kept n) p.1
  rw [err_build hmb, if_neg (by rw [hkb]; simp), ofK_look (ok_build hmb) hkb, rL_build hmb] at hget
  obtain ⟨hn1, hn2, hn3⟩ := set_nodes hmb hkb h16'
  obtain ⟨ov, hov⟩ : ∃ o, lookL l p.1 = o := ⟨_, rfl⟩
  rw [hov] at hget hn1
  have hfd := field_T
  have htl := htok.few
  obtain ⟨t, ht⟩ : ∃ t, buildN l = t := ⟨_, rfl⟩
  obtain ⟨u, hu⟩ : ∃ u, buildN (setL l p.1 p.2) = u := ⟨_, rfl⟩
  rw [ht] at hbu hput hget hn1 hn2 hn3 htl
  rw [hu] at hput hn1 hn2 hn3
  have HN1 : Hid (ov.isSome = true → u.length = t.length) := hn1
  obtain ⟨T, hTe⟩ : ∃ x, t.length = x := ⟨_, rfl⟩
  obtain ⟨U, hUe⟩ : ∃ x, u.length = x := ⟨_, rfl⟩
  rw [hTe] at HN1 hn2 hn3 htl
  rw [hUe] at HN1 hn2 hn3
  have HTL : Hid (t.length = T) := hTe
  have HUL : Hid (u.length = U) := hUe
  clear hs2 hmb hb1 hkb h16 h16' he0 hov hn1 ht hu hTe hUe htok
  go_enter Tryd.func6, Tryd.ntmps6
  go_wp2_with (first
    | (refine wpList_box_at (by rfl) 3 (by rfl) 25 _ (by rfl) (prC p).toArray (by rfl) ?_; intro W0 R0 N0))
  have y0 := R0.has 0 (v := .string (bs p.1)) rfl
  have y1 := R0.has 1 (v := .string (bs p.2)) rfl
  go_wp2_with fail
  refine Calls.mono (hlp (N0)) ?_
  rintro _ W1 ⟨rfl, N1⟩
  have M1 : New w W1 := (N0).trans N1
  have R1p := R0.after N1
  clear y0 y1
  have y0 := R1p.has 0 (v := .string (bs p.1)) rfl
  have y1 := R1p.has 1 (v := .string (bs p.2)) rfl
  clear hlp
  go_wp2_with fail
  refine Calls.mono (hmay (M1)) ?_
  rintro _ W2 ⟨rfl, N2⟩
  have M2 : New w W2 := (M1).trans N2
  have R2p := R1p.after N2
  clear y0 y1
  have y0 := R2p.has 0 (v := .string (bs p.1)) rfl
  have y1 := R2p.has 1 (v := .string (bs p.2)) rfl
  clear hmay
  go_wp2_with fail
  refine Calls.mono (hky W2) ?_
  rintro _ W2 ⟨rfl, rfl⟩
  clear hky
  go_wp2_with fail
  refine Calls.mono (hbu (M2)) ?_
  rintro _ W4 ⟨a, n, c, a2, n2, c2, rfl, PT, _, N4⟩
  have M4 : New w W4 := (M2).trans N4
  have R4p := R2p.after N4
  clear y0 y1
  have y0 := R4p.has 0 (v := .string (bs p.1)) rfl
  have y1 := R4p.has 1 (v := .string (bs p.2)) rfl
  clear hbu
  obtain ⟨_, _, e⟩ := PT.size
  rw [List.length_map, HTL.out] at e
  cases e
  have HPT : Hid (Ls W4 20 (.slice a T c) (t.map ndC)) := PT
  have hf := hfd a T c a2 n2 c2 true
  clear PT hfd
  go_wp2_with fail
  refine Calls.mono (hput M4 HPT.out) ?_
  rintro _ W5 ⟨v5, rfl, Q5, N5⟩
  have M5 : New w W5 := (M4).trans N5
  have R5p := R4p.after N5
  clear y0 y1
  have y0 := R5p.has 0 (v := .string (bs p.1)) rfl
  have y1 := R5p.has 1 (v := .string (bs p.2)) rfl
  have L5 := Q5.ls
  obtain ⟨a5, c5, e⟩ := L5.size
  rw [List.length_map, HUL.out] at e
  subst e
  have HPT5 : Hid (Ls W5 20 (.slice a T c) (t.map ndC)) := HPT.out.after N5
  clear hput Q5 L5 HPT
  go_wp2_with fail
  refine Calls.mono (hget M5 HPT5.out) ?_
  rintro _ W6 ⟨rfl, N6⟩
  have M6 : New w W6 := (M5).trans N6
  have R6p := R5p.after N6
  clear y0 y1
  have y0 := R6p.has 0 (v := .string (bs p.1)) rfl
  have y1 := R6p.has 1 (v := .string (bs p.2)) rfl
  clear hget
  have hUT : U ≤ 40000 := by omega
  have HWK : Hid (∀ {W : World}, New w W → Calls Tryd.prog 10 #[] W fun e w' => e = .returned (.bool true) ∧ New W w') := fun n => hwk n
  have h1 : (0 : Int) ≤ (U : Int) - (T : Int) := by omega
  have h2 : (U : Int) - (T : Int) ≤ 3 := by omega
  have h3 : (T : Int) ≤ (U : Int) := by omega
  have e1 : decide ((0 : Int) ≤ (U : Int) - (T : Int)) = true := decide_eq_true h1
  have e2 : decide ((U : Int) - (T : Int) ≤ 3) = true := decide_eq_true h2
  cases hs : ov.isSome
  · clear HN1
    go_wp2_with (first
      | (refine wpList_alloc_at (by rfl) 8 (by rfl) 46 (by rfl) _ _ _ info27 ?_; intro Wa Ra Na)
      | (refine wpList_store_new (by rfl) 46 _ _ (by rfl) W6.heap.size (ansA ov) (by rfl) (by rfl) 46 _ Ra i27 rfl (ans_one _) ?_; intro Wb Rb Bb; have Nb : New W6 Wb := Bb.new Na (Nat.le_refl _); have z0 := Rb.has 0 (v := .bool ov.isSome) rfl; rw [hs] at z0))
    have Mb : New w Wb := (M6).trans Nb
    refine Calls.mono (HWK.out Mb) ?_
    rintro _ Wz ⟨rfl, Nz⟩
    go_wp2_with fail
    go_ret
    exact ⟨rfl, Mb.trans Nz⟩
  · have hUT2 : U = T := HN1.out hs
    subst hUT2
    clear HN1
    go_wp2_with (first
      | (refine wpList_alloc_at (by rfl) 8 (by rfl) 46 (by rfl) _ _ _ info27 ?_; intro Wa Ra Na)
      | (refine wpList_store_new (by rfl) 46 _ _ (by rfl) W6.heap.size (ansA ov) (by rfl) (by rfl) 46 _ Ra i27 rfl (ans_one _) ?_; intro Wb Rb Bb; have Nb : New W6 Wb := Bb.new Na (Nat.le_refl _); have z0 := Rb.has 0 (v := .bool ov.isSome) rfl; rw [hs] at z0))
    have Mb : New w Wb := (M6).trans Nb
    refine Calls.mono (HWK.out Mb) ?_
    rintro _ Wz ⟨rfl, Nz⟩
    go_wp2_with fail
    go_ret
    exact ⟨rfl, Mb.trans Nz⟩
end Go.Proofs.YtjpjcojabjkaaaaDoor
