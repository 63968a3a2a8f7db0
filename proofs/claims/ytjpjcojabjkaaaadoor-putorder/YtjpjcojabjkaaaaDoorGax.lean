/-
  Pairs held against each other (umbelkeep). PutTells: any trie with any pair more, with any pairs, one by one, or why there is none.
-/
import Derived.Test.YtjpjcojabjkaaaaDoorGak
import Derived.Test.YtjpjcojabjkaaaaDoorGaw
import Derived.Test.YtjpjcojabjkaaaaDoorGar
import Derived.Test.YtjpjcojabjkaaaaDoorGaq
namespace Go.Proofs.YtjpjcojabjkaaaaDoor
open Go.RowKit
set_option maxRecDepth 20000

set_option maxHeartbeats 1000000 in
theorem keepPairs_any {w : World} {v u : Value} {l m : List Pr} (P : Ls w 2 v (l.map prC)) (P' : Ls w 2 u (m.map prC)) (hl : l.length ≤ 2000000) (hm : m.length ≤ 2000000) :
    Calls Tryd.prog 16 #[v, u] w fun e w' => e = .returned (.bool (decide (l = m))) ∧ New w w' := by
  obtain ⟨a, c, rfl, hc, HS⟩ := P.open ([], [])
  obtain ⟨b, c', rfl, hc', HS'⟩ := P'.open ([], [])
  have _ := hm
  clear P P'
  by_cases hlen : l.length = m.length
  · have HL : Hid (l.length = m.length) := hlen
    rw [← hlen] at hc' ⊢
    clear hlen
    go_enter Tryd.func16, Tryd.ntmps16
    go_wp2_with fail
    go_loopw [5] (fun i wr => ∃ k : Nat, k ≤ l.length ∧ i = .int .i64 (k : Int) ∧ Hid (l.take k = m.take k) ∧ New w wr) (fun i _ => l.length - (intOf i).toNat)
    case atStart => exact ⟨0, by omega, rfl, rfl, New.refl w⟩
    case round =>
      obtain ⟨k, hk, rfl, htk, N⟩ := hrel
      by_cases hlt : k < l.length
      · obtain ⟨g, o, rfl, hg, hr⟩ := HS.out (by omega)
        obtain ⟨g', o', rfl, hg', hr'⟩ := HS'.out (by have := HL.out; omega)
        have hlt' : k < m.length := by have := HL.out; omega
        obtain ⟨x, hx⟩ : ∃ x, l.getD k ([], []) = x := ⟨_, rfl⟩
        obtain ⟨y, hy⟩ : ∃ y, m.getD k ([], []) = y := ⟨_, rfl⟩
        have q1 := fun p : NewW wr => hr p.v (N.trans p.h) k hlt
        have q2 := fun p : NewW wr => hr' p.v (N.trans p.h) k hlt'
        rw [hx] at q1
        rw [hy] at q2
        have heq := fun w => eq_pairs x y w
        have hne := NewW.ne wr
        have HX : Hid (l.getD k ([], []) = x) := hx
        have HY : Hid (m.getD k ([], []) = y) := hy
        have HLT : Hid (k < m.length) := hlt'
        clear hx hy hr hr' hlt'
        by_cases he : x = y
        · have hb : eqPr x y = true := by rw [he]; exact (eqPr_iff _ _).2 rfl
          have HE : Hid (x = y) := he
          rw [hb] at heq
          clear he
          go_wp2_with fail
          refine region_new wr (New.refl wr) (by kernel_rfl) (by kernel_rfl) ?_
          iterate 3 (go_big_quiet_step (fail))
          refine wpQuiet_load_mid (by rfl) 25 _ (by rfl) g (o + k * 2) (by rfl) (prC x) q1 _ Tryd.underlying25 rfl i52 ?_
          simp only [Act.put, List.setIfInBounds_toArray, List.set_cons_zero, List.set_cons_succ]
          iterate 3 (go_big_quiet_step (fail))
          refine wpQuiet_load_mid (by rfl) 25 _ (by rfl) g' (o' + k * 2) (by rfl) (prC y) q2 _ Tryd.underlying25 rfl i52 ?_
          simp only [Act.put, List.setIfInBounds_toArray, List.set_cons_zero, List.set_cons_succ]
          repeat (go_big_quiet_step (fail))
          refine wpQuiet_nil ?_
          rintro W3 ⟨⟨_, k3⟩, rfl⟩
          go_wp2_with fail
          refine ⟨⟨k + 1, by omega, by go_num, take_eq_step hlt HLT.out HX.out HY.out htk.out HE.out, N.trans k3⟩, by simp [intOf]; omega⟩
        · have hb : eqPr x y = false := by
            rw [Bool.eq_false_iff]; intro h; exact he ((eqPr_iff _ _).1 h)
          have HE : Hid (decide (l = m) = false) := decide_eq_false (ne_at HX.out HY.out he)
          rw [hb] at heq
          clear he
          go_wp2_with fail
          refine region_new wr (New.refl wr) (by kernel_rfl) (by kernel_rfl) ?_
          iterate 3 (go_big_quiet_step (fail))
          refine wpQuiet_load_mid (by rfl) 25 _ (by rfl) g (o + k * 2) (by rfl) (prC x) q1 _ Tryd.underlying25 rfl i52 ?_
          simp only [Act.put, List.setIfInBounds_toArray, List.set_cons_zero, List.set_cons_succ]
          iterate 3 (go_big_quiet_step (fail))
          refine wpQuiet_load_mid (by rfl) 25 _ (by rfl) g' (o' + k * 2) (by rfl) (prC y) q2 _ Tryd.underlying25 rfl i52 ?_
          simp only [Act.put, List.setIfInBounds_toArray, List.set_cons_zero, List.set_cons_succ]
          repeat (go_big_quiet_step (fail))
          refine wpQuiet_nil ?_
          rintro W3 ⟨⟨_, k3⟩, rfl⟩
          go_wp2_with fail
          go_ret
          exact ⟨ret_bool HE.out.symm, N.trans k3⟩
      · have HE : Hid (decide (l = m) = true) := decide_eq_true (by
          have := htk.out
          have h1 := HL.out
          rw [List.take_of_length_le (by omega), List.take_of_length_le (by omega)] at this
          exact this)
        go_wp2_with fail
        go_ret
        exact ⟨ret_bool HE.out.symm, N⟩
  · have HE : Hid (decide (l = m) = false) := decide_eq_false (fun h => hlen (by rw [h]))
    have hd : ((l.length : Int) != (m.length : Int)) = true := by rw [bne_iff_ne]; omega
    go_enter Tryd.func16, Tryd.ntmps16
    go_wp2_with fail
    go_ret
    exact ⟨ret_bool HE.out.symm, New.refl w⟩

end Go.Proofs.YtjpjcojabjkaaaaDoor
namespace Go.Proofs.YtjpjcojabjkaaaaDoor
open Go.RowKit
set_option maxRecDepth 20000
set_option linter.unusedVariables false

theorem allL_err {c : List Pr} : ∀ {l : List Pr}, (allL c l).2 = 0 ∨ ((allL c l).1 = [] ∧ ((allL c l).2 = 9 ∨ (allL c l).2 = 10)) := by
  intro l
  induction l generalizing c with
  | nil => exact .inl rfl
  | cons p l ih =>
    unfold allL
    by_cases h : errP p = 0
    · rw [if_pos h]; exact ih
    · rw [if_neg h]; exact .inr ⟨rfl, errP_nine.resolve_left h⟩
theorem allL_few {c : List Pr} (hc : mayB c = true) : ∀ {l : List Pr}, (buildN (allL c l).1).length ≤ (buildN c).length + 3 * l.length := by
  intro l
  induction l generalizing c with
  | nil => exact Nat.le_add_right _ _
  | cons p l ih =>
    unfold allL
    by_cases h : errP p = 0
    · rw [if_pos h]
      obtain ⟨h1, h2⟩ := errP_zero h
      have h3 := ih (set_may hc h1 h2)
      have h4 := (set_nodes hc h1 h2).2.2
      rw [List.length_cons]; omega
    · rw [if_neg h]
      show (buildN []).length ≤ _
      rw [bN_nil]; exact Nat.zero_le _
/-- A trie that is told is one. -/
theorem allP_tok {t : List Nd} (K : TOk t) (ht : t.length ≤ 4000) {l : List Pr} (hl : l.length ≤ 1000) : TOk (allP t l).1 := by
  cases hr : readF t with
  | none => rw [allP_none hr]; exact no_tok
  | some s =>
    rw [allP_some hr]
    by_cases h : (allL s.1 l).2 = 0
    · rw [if_pos h]
      obtain ⟨h1, h2, _⟩ := readF_ok hr
      have h3 := allL_few h1 (l := l)
      rw [← h2] at h3
      exact build_ok' (allL_may h1 h) (by omega)
    · rw [if_neg h]; exact no_tok
set_option maxHeartbeats 16000000 in
theorem putTells_any {w : World} {tv v : Value} {t : List Nd} {l : List Pr} (PT : Ls w 20 tv (t.map ndC)) (htl : t.length ≤ maxLen) (ht16 : ∀ x ∈ t, x.kids.length = 16) (p : Pr) (P : Ls w 2 v (l.map prC)) (hl : l.length ≤ maxLen) (hT : Tab w) :
    Calls Tryd.prog 3 #[tv, .agg (prC p).toArray, v] w fun e w' => e = .returned (.bool true) ∧ New w w' := by
  have HPT : Hid (Ls w 20 tv (t.map ndC)) := PT
  have hlt := fun {W : World} (n : New w W) => longTrie_any (HPT.out.after n) (by unfold maxLen at htl; omega)
  obtain ⟨b0, hb0⟩ : ∃ b, longB lenN 4000 noNd t = b := ⟨_, rfl⟩
  rw [hb0] at hlt
  have HP : Hid (Ls w 2 v (l.map prC)) := P
  have HT : Hid (Tab w) := hT
  have hlp := fun {W : World} (n : New w W) => longPairs_any (HP.out.after n) (by unfold maxLen at hl; omega)
  have hwk := fun {W : World} (n : New w W) => wakes_any W (HT.out.kept n)
  obtain ⟨b1, hb1⟩ : ∃ b, longB lenP 3000 ([], []) l = b := ⟨_, rfl⟩
  rw [hb1] at hlp
  clear P hT
  obtain ⟨_, c0, hv0⟩ := PT.size
  obtain ⟨al, cl, rfl, hcl⟩ : ∃ a c, v = .slice a l.length c ∧ l.length ≤ c := by
    obtain ⟨a, c, h1, h2, _⟩ := HP.out
    rw [List.length_map] at h1 h2
    exact ⟨a, c, h1, h2⟩
  clear hv0 PT
  cases b0
  case true =>
    clear hb1 hb0 hlp
    go_enter Tryd.func3, Tryd.ntmps3
    go_wp2_with (first
      | (refine wpList_box_at (by rfl) 4 (by rfl) 25 _ (by rfl) (prC p).toArray (by rfl) ?_; intro W0 R0 N0))
    have y0 := R0.has 0 (v := .string (bs p.1)) rfl
    have y1 := R0.has 1 (v := .string (bs p.2)) rfl
    go_wp2_with fail
    refine Calls.mono (hlt (N0)) ?_
    rintro _ W1 ⟨rfl, N1⟩
    have M1 : New w W1 := (N0).trans N1
    have R1p := R0.after N1
    clear y0 y1
    have y0 := R1p.has 0 (v := .string (bs p.1)) rfl
    have y1 := R1p.has 1 (v := .string (bs p.2)) rfl
    clear hlt
    go_wp2_with fail
    refine Calls.mono (hwk (M1)) ?_
    rintro _ W2 ⟨rfl, N2⟩
    have M2 : New w W2 := (M1).trans N2
    have R2p := R1p.after N2
    clear y0 y1
    have y0 := R2p.has 0 (v := .string (bs p.1)) rfl
    have y1 := R2p.has 1 (v := .string (bs p.2)) rfl
    clear hwk
    go_wp2_with fail
    go_ret
    exact ⟨rfl, M2⟩
  cases b1
  case true =>
    clear hb1 hb0
    go_enter Tryd.func3, Tryd.ntmps3
    go_wp2_with (first
      | (refine wpList_box_at (by rfl) 4 (by rfl) 25 _ (by rfl) (prC p).toArray (by rfl) ?_; intro W0 R0 N0))
    have y0 := R0.has 0 (v := .string (bs p.1)) rfl
    have y1 := R0.has 1 (v := .string (bs p.2)) rfl
    go_wp2_with fail
    refine Calls.mono (hlt (N0)) ?_
    rintro _ W1 ⟨rfl, N1⟩
    have M1 : New w W1 := (N0).trans N1
    have R1p := R0.after N1
    clear y0 y1
    have y0 := R1p.has 0 (v := .string (bs p.1)) rfl
    have y1 := R1p.has 1 (v := .string (bs p.2)) rfl
    clear hlt
    go_wp2_with fail
    refine Calls.mono (hlp (M1)) ?_
    rintro _ W2 ⟨rfl, N2⟩
    have M2 : New w W2 := (M1).trans N2
    have R2p := R1p.after N2
    clear y0 y1
    have y0 := R2p.has 0 (v := .string (bs p.1)) rfl
    have y1 := R2p.has 1 (v := .string (bs p.2)) rfl
    clear hlp
    go_wp2_with fail
    refine Calls.mono (hwk (M2)) ?_
    rintro _ W3 ⟨rfl, N3⟩
    have M3 : New w W3 := (M2).trans N3
    have R3p := R2p.after N3
    clear y0 y1
    have y0 := R3p.has 0 (v := .string (bs p.1)) rfl
    have y1 := R3p.has 1 (v := .string (bs p.2)) rfl
    clear hwk
    go_wp2_with fail
    go_ret
    exact ⟨rfl, M3⟩
  obtain ⟨b5, h5b⟩ : ∃ b, decide ((500 : Int) < wrap64 (((bs p.1).size : Int) + ((bs p.2).size : Int))) = b := ⟨_, rfl⟩
  cases b5
  case true =>
    clear hb1 hb0
    go_enter Tryd.func3, Tryd.ntmps3
    go_wp2_with (first
      | (refine wpList_box_at (by rfl) 4 (by rfl) 25 _ (by rfl) (prC p).toArray (by rfl) ?_; intro W0 R0 N0))
    have y0 := R0.has 0 (v := .string (bs p.1)) rfl
    have y1 := R0.has 1 (v := .string (bs p.2)) rfl
    go_wp2_with fail
    refine Calls.mono (hlt (N0)) ?_
    rintro _ W1 ⟨rfl, N1⟩
    have M1 : New w W1 := (N0).trans N1
    have R1p := R0.after N1
    clear y0 y1
    have y0 := R1p.has 0 (v := .string (bs p.1)) rfl
    have y1 := R1p.has 1 (v := .string (bs p.2)) rfl
    clear hlt
    go_wp2_with fail
    refine Calls.mono (hlp (M1)) ?_
    rintro _ W2 ⟨rfl, N2⟩
    have M2 : New w W2 := (M1).trans N2
    have R2p := R1p.after N2
    clear y0 y1
    have y0 := R2p.has 0 (v := .string (bs p.1)) rfl
    have y1 := R2p.has 1 (v := .string (bs p.2)) rfl
    clear hlp
    go_wp2_with fail
    refine Calls.mono (hwk (M2)) ?_
    rintro _ W3 ⟨rfl, N3⟩
    have M3 : New w W3 := (M2).trans N3
    have R3p := R2p.after N3
    clear y0 y1
    have y0 := R3p.has 0 (v := .string (bs p.1)) rfl
    have y1 := R3p.has 1 (v := .string (bs p.2)) rfl
    clear hwk
    go_wp2_with fail
    go_ret
    exact ⟨rfl, M3⟩
  by_cases h40 : 40 < l.length
  · have h4b : decide ((40 : Int) < (l.length : Int)) = true := decide_eq_true (by omega)
    clear hb1 hb0 h40
    go_enter Tryd.func3, Tryd.ntmps3
    go_wp2_with (first
      | (refine wpList_box_at (by rfl) 4 (by rfl) 25 _ (by rfl) (prC p).toArray (by rfl) ?_; intro W0 R0 N0))
    have y0 := R0.has 0 (v := .string (bs p.1)) rfl
    have y1 := R0.has 1 (v := .string (bs p.2)) rfl
    go_wp2_with fail
    refine Calls.mono (hlt (N0)) ?_
    rintro _ W1 ⟨rfl, N1⟩
    have M1 : New w W1 := (N0).trans N1
    have R1p := R0.after N1
    clear y0 y1
    have y0 := R1p.has 0 (v := .string (bs p.1)) rfl
    have y1 := R1p.has 1 (v := .string (bs p.2)) rfl
    clear hlt
    go_wp2_with fail
    refine Calls.mono (hlp (M1)) ?_
    rintro _ W2 ⟨rfl, N2⟩
    have M2 : New w W2 := (M1).trans N2
    have R2p := R1p.after N2
    clear y0 y1
    have y0 := R2p.has 0 (v := .string (bs p.1)) rfl
    have y1 := R2p.has 1 (v := .string (bs p.2)) rfl
    clear hlp
    go_wp2_with fail
    refine Calls.mono (hwk (M2)) ?_
    rintro _ W3 ⟨rfl, N3⟩
    have M3 : New w W3 := (M2).trans N3
    have R3p := R2p.after N3
    clear y0 y1
    have y0 := R3p.has 0 (v := .string (bs p.1)) rfl
    have y1 := R3p.has 1 (v := .string (bs p.2)) rfl
    clear hwk
    go_wp2_with fail
    go_ret
    exact ⟨rfl, M3⟩
  have h4b : decide ((40 : Int) < (l.length : Int)) = false := decide_eq_false (by omega)
  have htok := tok_of ht16 hb0
  obtain ⟨htlen, _⟩ := longB_small _ _ _ _ hb0
  obtain ⟨hs1, hs2⟩ := prs_of hb1
  have hto1 := allP_tok (l := [(p.1, p.2)]) htok (by omega) (by simp)
  have hto2 := allP_tok (l := l) htok (by omega) (by omega)
  have hof := fun {W : World} {x : Value} (n : New w W) (q : Ls W 20 x (t.map ndC)) => of_any13 q htok (HT.out.kept n) p.1 p.2
  have hro := fun {W : World} (n : New w W) => rof_any13 (HPT.out.after n) htok (by omega) p.1 p.2
  have hal := fun {W : World} {x y : Value} (n : New w W) (q : Ls W 20 x (t.map ndC)) (q' : Ls W 2 y (l.map prC)) => all_any13 q htok (HT.out.kept n) q' (by omega)
  have hra := fun {W : World} (n : New w W) => rall_any13 (HPT.out.after n) htok (by omega) (HP.out.after n) (by omega)
  generalize (allP t [(p.1, p.2)]).1 = A1 at hof hro hto1
  generalize (allP t [(p.1, p.2)]).2 = E1 at hof hro
  generalize (allP t l).1 = A2 at hal hra hto2
  generalize (allP t l).2 = E2 at hal hra
  have hk1 := fun {W : World} {x y : Value} (q : Ls W 20 x (A1.map ndC)) (q' : Ls W 20 y (A1.map ndC)) => keepTrie_any q q' hto1.k16 hto1.k16 (by have := hto1.few; omega) (by have := hto1.few; omega)
  have hk2 := fun {W : World} {x y : Value} (q : Ls W 20 x (A2.map ndC)) (q' : Ls W 20 y (A2.map ndC)) => keepTrie_any q q' hto2.k16 hto2.k16 (by have := hto2.few; omega) (by have := hto2.few; omega)
  have hk3 := fun {W : World} {x y : Value} (q : Ls W 20 x (t.map ndC)) (q' : Ls W 20 y (t.map ndC)) => keepTrie_any q q' ht16 ht16 (by omega) (by omega)
  have hk4 := fun {W : World} {x y : Value} (q : Ls W 2 x (l.map prC)) (q' : Ls W 2 y (l.map prC)) => keepPairs_any q q' (by omega) (by omega)
  rw [decide_eq_true rfl] at hk1 hk2 hk3 hk4
  have hc1 := fun {W : World} (n : New w W) => run_copy_all (w := W) 23 55 23 20 _ _ Tryd.underlying23 info49 rfl (by decide) (by decide) (HPT.out.after n) (nds_len ht16) (nds_one t) (by rw [List.length_map]; omega)
  have hc2 := fun {W : World} (n : New w W) => run_copy_all (w := W) 26 25 26 2 _ _ Tryd.underlying26 info52 rfl (by decide) (by decide) (HP.out.after n) (fun e he => by obtain ⟨q, _, rfl⟩ := List.mem_map.1 he; rfl) (fun e he => by obtain ⟨q, _, rfl⟩ := List.mem_map.1 he; exact prC_one q) (by rw [List.length_map]; omega)
  have HOF : Hid (_) := @hof
  have HRO : Hid (_) := @hro
  have HAL : Hid (_) := @hal
  have HRA : Hid (_) := @hra
  have HK1 : Hid (_) := @hk1
  have HK2 : Hid (_) := @hk2
  have HK3 : Hid (_) := @hk3
  have HK4 : Hid (_) := @hk4
  have HC1 : Hid (_) := @hc1
  have HC2 : Hid (_) := @hc2
  have HWK : Hid (∀ {W : World}, New w W → Calls Tryd.prog 10 #[] W fun e w' => e = .returned (.bool true) ∧ New W w') := fun n => hwk n
  clear hb1 hb0 h40 htok htlen hs1 hs2 hto1 hto2 hof hro hal hra hk1 hk2 hk3 hk4 hc1 hc2 hwk htl hl ht16
  go_enter Tryd.func3, Tryd.ntmps3
  go_wp2_with (first
    | (refine wpList_box_at (by rfl) 4 (by rfl) 25 _ (by rfl) (prC p).toArray (by rfl) ?_; intro W0 R0 N0))
  have y0 := R0.has 0 (v := .string (bs p.1)) rfl
  have y1 := R0.has 1 (v := .string (bs p.2)) rfl
  go_wp2_with fail
  refine Calls.mono (hlt (N0)) ?_
  rintro _ W1 ⟨rfl, N1⟩
  have M1 : New w W1 := (N0).trans N1
  have R1p := R0.after N1
  clear y0 y1
  have y0 := R1p.has 0 (v := .string (bs p.1)) rfl
  have y1 := R1p.has 1 (v := .string (bs p.2)) rfl
  clear hlt
  go_wp2_with fail
  refine Calls.mono (hlp (M1)) ?_
  rintro _ W2 ⟨rfl, N2⟩
  have M2 : New w W2 := (M1).trans N2
  have R2p := R1p.after N2
  clear y0 y1
  have y0 := R2p.has 0 (v := .string (bs p.1)) rfl
  have y1 := R2p.has 1 (v := .string (bs p.2)) rfl
  clear hlp
  go_upto_region 4 with (first
    | (obtain ⟨v5, W5, ha5, Q5, N5⟩ := HC1.out (M2); refine wpList_appends (by rfl) _ _ 23 23 _ _ v5 W5 (by rfl) (by rfl) (by rfl) (by rfl) ha5 ?_)
    | (obtain ⟨v6, W6, ha6, Q6, N6⟩ := HC2.out ((M2).trans N5); refine wpList_appends (by rfl) _ _ 26 26 _ _ v6 W6 (by rfl) (by rfl) (by rfl) (by rfl) ha6 ?_))
  have NC : New W2 W6 := N5.trans N6
  have MC : New w W6 := (M2).trans NC
  have RC := R2p.after NC
  clear y0 y1 ha5 ha6
  have HV5 : Hid (Ls W6 20 v5 (t.map ndC)) := Q5.ls.after N6
  have HV6 : Hid (Ls W6 2 v6 (l.map prC)) := Q6.ls
  have HPT6 : Hid (Ls W6 20 tv (t.map ndC)) := HPT.out.after MC
  have HP6 : Hid (Ls W6 2 (.slice al l.length cl) (l.map prC)) := HP.out.after MC
  clear HC1 HC2 Q5 Q6 N5 N6
  have y0 := RC.has 0 (v := .string (bs p.1)) rfl
  have y1 := RC.has 1 (v := .string (bs p.2)) rfl
  go_wp2_with fail
  refine Calls.mono (HOF.out MC HV5.out) ?_
  rintro _ W10 ⟨va, rfl, Qa, N10⟩
  have M10 : New w W10 := (MC).trans N10
  have R10p := RC.after N10
  clear y0 y1
  have y0 := R10p.has 0 (v := .string (bs p.1)) rfl
  have y1 := R10p.has 1 (v := .string (bs p.2)) rfl
  have La : Hid (Ls W10 20 va (A1.map ndC)) := Qa.ls
  have K1 : New W6 W10 := N10
  clear HOF Qa
  go_wp2_with fail
  refine Calls.mono (HRO.out M10) ?_
  rintro _ W11 ⟨vb, rfl, Lb, N11⟩
  have M11 : New w W11 := (M10).trans N11
  have R11p := R10p.after N11
  clear y0 y1
  have y0 := R11p.has 0 (v := .string (bs p.1)) rfl
  have y1 := R11p.has 1 (v := .string (bs p.2)) rfl
  have HLb : Hid (Ls W11 20 vb (A1.map ndC)) := Lb
  have HLa : Hid (Ls W11 20 va (A1.map ndC)) := La.out.after N11
  have K2 : New W6 W11 := K1.trans N11
  clear HRO Lb La K1
  have K0 : New W11 W11 := New.refl _
  go_wp2_with fail
  refine Calls.mono (HAL.out M11 (HV5.out.after K2) (HV6.out.after K2)) ?_
  rintro _ W12 ⟨vc, rfl, Qc, N12⟩
  have M12 : New w W12 := (M11).trans N12
  have R12p := R11p.after N12
  clear y0 y1
  have y0 := R12p.has 0 (v := .string (bs p.1)) rfl
  have y1 := R12p.has 1 (v := .string (bs p.2)) rfl
  have HLc0 : Hid (Ls W12 20 vc (A2.map ndC)) := Qc.ls
  have K3 : New W6 W12 := K2.trans N12
  have J3 : New W11 W12 := N12
  clear HAL Qc K2 K0
  go_wp2_with fail
  refine Calls.mono (HRA.out M12) ?_
  rintro _ W13 ⟨vd, rfl, Ld, N13⟩
  have M13 : New w W13 := (M12).trans N13
  have R13p := R12p.after N13
  clear y0 y1
  have y0 := R13p.has 0 (v := .string (bs p.1)) rfl
  have y1 := R13p.has 1 (v := .string (bs p.2)) rfl
  have HLd : Hid (Ls W13 20 vd (A2.map ndC)) := Ld
  have HLc : Hid (Ls W13 20 vc (A2.map ndC)) := HLc0.out.after N13
  have K4 : New W6 W13 := K3.trans N13
  have J4 : New W11 W13 := J3.trans N13
  have HLa4 : Hid (Ls W13 20 va (A1.map ndC)) := HLa.out.after J4
  have HLb4 : Hid (Ls W13 20 vb (A1.map ndC)) := HLb.out.after J4
  have HV54 : Hid (Ls W13 20 v5 (t.map ndC)) := HV5.out.after K4
  have HV64 : Hid (Ls W13 2 v6 (l.map prC)) := HV6.out.after K4
  have HT4 : Hid (Ls W13 20 tv (t.map ndC)) := HPT6.out.after K4
  have HL4 : Hid (Ls W13 2 (.slice al l.length cl) (l.map prC)) := HP6.out.after K4
  clear HRA Ld HLc0 K3 J3 K4 J4 HLa HLb HV5 HV6 HPT6 HP6
  clear y0 y1
  go_wp2_with fail
  refine Calls.mono (HK1.out HLa4.out HLb4.out) ?_
  rintro _ W14 ⟨rfl, N14⟩
  have M14 : New w W14 := (M13).trans N14
  clear HK1
  have Z1 : New W13 W14 := N14
  go_wp2_with fail
  refine Calls.mono (HK2.out (HLc.out.after Z1) (HLd.out.after Z1)) ?_
  rintro _ W15 ⟨rfl, N15⟩
  have M15 : New w W15 := (M14).trans N15
  clear HK2
  have Z2 : New W13 W15 := Z1.trans N15
  go_wp2_with fail
  refine Calls.mono (HK3.out (HV54.out.after Z2) (HT4.out.after Z2)) ?_
  rintro _ W16 ⟨rfl, N16⟩
  have M16 : New w W16 := (M15).trans N16
  clear HK3
  have Z3 : New W13 W16 := Z2.trans N16
  go_wp2_with fail
  refine Calls.mono (HK4.out (HV64.out.after Z3) (HL4.out.after Z3)) ?_
  rintro _ W17 ⟨rfl, N17⟩
  have M17 : New w W17 := (M16).trans N17
  clear HK4
  go_wp2_with fail
  refine Calls.mono (HWK.out M17) ?_
  rintro _ W18 ⟨rfl, N18⟩
  have M18 : New w W18 := (M17).trans N18
  go_wp2_with fail
  go_ret
  exact ⟨rfl, M18⟩
end Go.Proofs.YtjpjcojabjkaaaaDoor
