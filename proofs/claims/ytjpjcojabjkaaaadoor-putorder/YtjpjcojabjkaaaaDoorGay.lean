/-
  PutErrors: a key that may not be, or a value, makes no trie; of several pairs the first that may not be is told.
-/
import Derived.Test.YtjpjcojabjkaaaaDoorGaw
import Derived.Test.YtjpjcojabjkaaaaDoorGar
import Derived.Test.YtjpjcojabjkaaaaDoorGax
import Derived.Test.YtjpjcojabjkaaaaDoorGan
namespace Go.Proofs.YtjpjcojabjkaaaaDoor
open Go.RowKit
set_option maxRecDepth 20000
set_option linter.unusedVariables false

/-- Pairs that may be, one by one, and one behind them. -/
theorem allL_app {c : List Pr} (hc : mayB c = true) (p : Pr) : ∀ {l : List Pr}, (∀ q ∈ l, okV q = true) → allL c (l ++ [p]) = allL (putL c l) [p] := by
  intro l
  induction l generalizing c with
  | nil => intro _; rfl
  | cons q l ih =>
    intro h
    have hq := h q (by simp)
    unfold okV at hq
    rw [Bool.and_eq_true] at hq
    have h0 : errP q = 0 := by
      unfold errP
      rw [if_neg (by rw [hq.1]; simp), if_neg (by have := of_decide_eq_true hq.2; omega)]
    show (if errP q = 0 then allL (setL c q.1 q.2) (l ++ [p]) else _) = _
    rw [if_pos h0, ih (set_may hc hq.1 (of_decide_eq_true hq.2)) fun r hr => h r (List.mem_cons_of_mem _ hr)]
    rfl
theorem okV_may {l : List Pr} (h : mayB l = true) : ∀ q ∈ l, okV q = true := fun q hq => by
  have h1 := (mayB_rise l h).2 q hq
  unfold okV
  rw [okP_keyOk h1, Bool.true_and]
  exact decide_eq_true (okP_key q h1).2.2
theorem errs_all {l : List Pr} (h : mayB l = true) (p : Pr) : allP [] (l ++ [p]) = allP (buildN l) [p] := by
  have e : allL [] (l ++ [p]) = allL l [p] := by
    rw [allL_app (c := []) rfl p (okV_may h), putL_perm h (List.Perm.refl l)]
  have h1 := allP_build (c := []) rfl (l ++ [p])
  rw [bN_nil] at h1
  rw [h1, allP_build h, e]
theorem pr_range {w : World} {g : Nat} {p : Pr} {t : TypeId} (R : Row w g (prC p).toArray t) : w.rangeAt g 0 (prC p) := fun j u hu => by
  rw [Nat.zero_add]
  exact R.has j (by rw [List.getElem?_toArray]; exact hu)
/-- A list copied behind nothing, whatever lies between. -/
theorem run_copy_any {w w1 : World} (T t ty : TypeId) (k : Nat) (z : Value) (bytes : Nat) (hT : Tryd.prog.underlying T = some (.slice t)) (hi : (Tryd.prog.info? t).map (fun i => (i.zero, i.size, i.bytes)) = some (some z, k, bytes)) (hz : z.cells.size = k) (hk : 0 < k) (hb : bytes ≤ 1000)
    {v : Value} {es : List (List Value)} (P : Ls w k v es) (he : ∀ e ∈ es, e.length = k) (hone : ∀ e ∈ es, ∀ u ∈ e, u.oneCell' = true) (hn : es.length ≤ 1000000) {g0 : Nat} (R : Row w1 g0 #[] t) (N : New w w1) (hg0 : w.heap.size ≤ g0) :
    ∃ v' w', (Builtin.append_ #[T, T] ty #[.slice (some ⟨g0, 0, none⟩) 0 0, v]).run Tryd.prog w1 = .ok v' w' ∧ Pl w' (Fresh w) t k v' es ∧ New w w' ∧ w1.grownBy w' (some g0) := by
  by_cases h0 : 0 < es.length
  · exact run_copy_ls T t ty k z bytes hT hi hz hk hb P he hone h0 hn R N hg0
  · obtain ⟨i0, hi0, hz0, hz1, hz2⟩ := info_parts hi
    obtain rfl : es = [] := List.eq_nil_of_length_eq_zero (by omega)
    obtain ⟨a, c, rfl, _⟩ := P
    refine ⟨.slice (some ⟨g0, 0, none⟩) 0 0, w1, ?_, ⟨(fun e he => by cases he), ⟨by simp, .inr ⟨g0, 0, #[], rfl, Nat.zero_le _, R, Nat.le_refl _, by unfold maxLen; omega, by simp, by simp⟩⟩, (fun g hg => by cases hg; exact hg0)⟩, N, World.grownBy.refl w1 _⟩
    cases a with
    | none => simp [Builtin.append_, run_underlying hT, sizeOf, typeInfo, hi0, Builtin.lenOf, Builtin.firstCells, storeCells]
    | some x =>
      have hld := run_loadCells_list (P := Tryd.prog) w1 x [] (fun j v hv => by simp at hv)
      rw [List.length_nil] at hld
      simp [Builtin.append_, run_underlying hT, sizeOf, typeInfo, hi0, Builtin.lenOf, Builtin.firstCells, storeCells, hld]
set_option maxHeartbeats 16000000 in
theorem putErrors_any {w : World} {v : Value} {l : List Pr} (P : Ls w 2 v (l.map prC)) (hl : l.length ≤ maxLen) (p : Pr) (hT : Tab w) :
    Calls Tryd.prog 7 #[v, .agg (prC p).toArray] w fun e w' => e = .returned (.bool true) ∧ New w w' := by
  have HP : Hid (Ls w 2 v (l.map prC)) := P
  have HT : Hid (Tab w) := hT
  have hlp := fun {W : World} (n : New w W) => longPairs_any (HP.out.after n) (by unfold maxLen at hl; omega)
  have hwk := fun {W : World} (n : New w W) => wakes_any W (HT.out.kept n)
  have hky := fun W => key_any12 p.1 W
  obtain ⟨b1, hb1⟩ : ∃ b, longB lenP 3000 ([], []) l = b := ⟨_, rfl⟩
  rw [hb1] at hlp
  clear P hT
  obtain ⟨al, cl, rfl, hcl⟩ : ∃ a c, v = .slice a l.length c ∧ l.length ≤ c := by
    obtain ⟨a, c, h1, h2, _⟩ := HP.out
    rw [List.length_map] at h1 h2
    exact ⟨a, c, h1, h2⟩
  cases b1
  case true =>
    clear hb1 hky
    go_enter Tryd.func7, Tryd.ntmps7
    go_wp2_with (first
      | (refine wpList_box_at (by rfl) 3 (by rfl) 25 _ (by rfl) (prC p).toArray (by rfl) ?_; intro W0 R0 N0))
    have y0 := R0.has 0 (v := .string (bs p.1)) rfl
    have y1 := R0.has 1 (v := .string (bs p.2)) rfl
    go_wp2_with fail
    refine Calls.mono (hlp (N0)) ?_
    rintro _ W1 ⟨rfl, N1⟩
    have M1 : New w W1 := (N0).trans N1
    have R1p := R0.after N1
    clear y0 y1
    have y0 := R1p.has 0 (v := .string (bs p.1)) rfl
    have y1 := R1p.has 1 (v := .string (bs p.2)) rfl
    clear hlp
    go_wp2_with fail
    refine Calls.mono (hwk (M1)) ?_
    rintro _ W2 ⟨rfl, N2⟩
    have M2 : New w W2 := (M1).trans N2
    have R2p := R1p.after N2
    clear y0 y1
    have y0 := R2p.has 0 (v := .string (bs p.1)) rfl
    have y1 := R2p.has 1 (v := .string (bs p.2)) rfl
    clear hwk
    go_wp2_with fail
    go_ret
    exact ⟨rfl, M2⟩
  obtain ⟨hs1, hs2⟩ := prs_of hb1
  obtain ⟨mb, hmb⟩ : ∃ b, mayB l = b := ⟨_, rfl⟩
  have hmay := fun {w1 : World} (n : New w w1) => refMay_any (HP.out.after n) (by omega) hs2
  rw [hmb] at hmay
  cases mb
  case false =>
    clear hs2 hmb hb1 hky
    go_enter Tryd.func7, Tryd.ntmps7
    go_wp2_with (first
      | (refine wpList_box_at (by rfl) 3 (by rfl) 25 _ (by rfl) (prC p).toArray (by rfl) ?_; intro W0 R0 N0))
    have y0 := R0.has 0 (v := .string (bs p.1)) rfl
    have y1 := R0.has 1 (v := .string (bs p.2)) rfl
    go_wp2_with fail
    refine Calls.mono (hlp (N0)) ?_
    rintro _ W1 ⟨rfl, N1⟩
    have M1 : New w W1 := (N0).trans N1
    have R1p := R0.after N1
    clear y0 y1
    have y0 := R1p.has 0 (v := .string (bs p.1)) rfl
    have y1 := R1p.has 1 (v := .string (bs p.2)) rfl
    clear hlp
    go_wp2_with fail
    refine Calls.mono (hmay (M1)) ?_
    rintro _ W2 ⟨rfl, N2⟩
    have M2 : New w W2 := (M1).trans N2
    have R2p := R1p.after N2
    clear y0 y1
    have y0 := R2p.has 0 (v := .string (bs p.1)) rfl
    have y1 := R2p.has 1 (v := .string (bs p.2)) rfl
    clear hmay
    go_wp2_with fail
    refine Calls.mono (hwk (M2)) ?_
    rintro _ W3 ⟨rfl, N3⟩
    have M3 : New w W3 := (M2).trans N3
    have R3p := R2p.after N3
    clear y0 y1
    have y0 := R3p.has 0 (v := .string (bs p.1)) rfl
    have y1 := R3p.has 1 (v := .string (bs p.2)) rfl
    clear hwk
    go_wp2_with fail
    go_ret
    exact ⟨rfl, M3⟩
  by_cases h30 : 30 < l.length
  · have h3b : decide ((30 : Int) < (l.length : Int)) = true := decide_eq_true (by omega)
    clear hs2 hmb hb1 hky h30
    go_enter Tryd.func7, Tryd.ntmps7
    go_wp2_with (first
      | (refine wpList_box_at (by rfl) 3 (by rfl) 25 _ (by rfl) (prC p).toArray (by rfl) ?_; intro W0 R0 N0))
    have y0 := R0.has 0 (v := .string (bs p.1)) rfl
    have y1 := R0.has 1 (v := .string (bs p.2)) rfl
    go_wp2_with fail
    refine Calls.mono (hlp (N0)) ?_
    rintro _ W1 ⟨rfl, N1⟩
    have M1 : New w W1 := (N0).trans N1
    have R1p := R0.after N1
    clear y0 y1
    have y0 := R1p.has 0 (v := .string (bs p.1)) rfl
    have y1 := R1p.has 1 (v := .string (bs p.2)) rfl
    clear hlp
    go_wp2_with fail
    refine Calls.mono (hmay (M1)) ?_
    rintro _ W2 ⟨rfl, N2⟩
    have M2 : New w W2 := (M1).trans N2
    have R2p := R1p.after N2
    clear y0 y1
    have y0 := R2p.has 0 (v := .string (bs p.1)) rfl
    have y1 := R2p.has 1 (v := .string (bs p.2)) rfl
    clear hmay
    go_wp2_with fail
    refine Calls.mono (hwk (M2)) ?_
    rintro _ W3 ⟨rfl, N3⟩
    have M3 : New w W3 := (M2).trans N3
    have R3p := R2p.after N3
    clear y0 y1
    have y0 := R3p.has 0 (v := .string (bs p.1)) rfl
    have y1 := R3p.has 1 (v := .string (bs p.2)) rfl
    clear hwk
    go_wp2_with fail
    go_ret
    exact ⟨rfl, M3⟩
  have h3b : decide ((30 : Int) < (l.length : Int)) = false := decide_eq_false (by omega)
  obtain ⟨b5, h5b⟩ : ∃ b, decide ((300 : Int) < wrap64 (((bs p.1).size : Int) + ((bs p.2).size : Int))) = b := ⟨_, rfl⟩
  cases b5
  case true =>
    clear hs2 hmb hb1 hky h30
    go_enter Tryd.func7, Tryd.ntmps7
    go_wp2_with (first
      | (refine wpList_box_at (by rfl) 3 (by rfl) 25 _ (by rfl) (prC p).toArray (by rfl) ?_; intro W0 R0 N0))
    have y0 := R0.has 0 (v := .string (bs p.1)) rfl
    have y1 := R0.has 1 (v := .string (bs p.2)) rfl
    go_wp2_with fail
    refine Calls.mono (hlp (N0)) ?_
    rintro _ W1 ⟨rfl, N1⟩
    have M1 : New w W1 := (N0).trans N1
    have R1p := R0.after N1
    clear y0 y1
    have y0 := R1p.has 0 (v := .string (bs p.1)) rfl
    have y1 := R1p.has 1 (v := .string (bs p.2)) rfl
    clear hlp
    go_wp2_with fail
    refine Calls.mono (hmay (M1)) ?_
    rintro _ W2 ⟨rfl, N2⟩
    have M2 : New w W2 := (M1).trans N2
    have R2p := R1p.after N2
    clear y0 y1
    have y0 := R2p.has 0 (v := .string (bs p.1)) rfl
    have y1 := R2p.has 1 (v := .string (bs p.2)) rfl
    clear hmay
    go_wp2_with fail
    refine Calls.mono (hwk (M2)) ?_
    rintro _ W3 ⟨rfl, N3⟩
    have M3 : New w W3 := (M2).trans N3
    have R3p := R2p.after N3
    clear y0 y1
    have y0 := R3p.has 0 (v := .string (bs p.1)) rfl
    have y1 := R3p.has 1 (v := .string (bs p.2)) rfl
    clear hwk
    go_wp2_with fail
    go_ret
    exact ⟨rfl, M3⟩
  have hbu := fun {W : World} (n : New w W) => r_build (HP.out.after n) (by omega) hs2
  rw [hmb, bX_build hmb] at hbu
  have htok : TOk (buildN l) := build_ok hmb (by omega)
  have hof := fun {W : World} {x : Value} (n : New w W) (q : Ls W 20 x ((buildN l).map ndC)) => of_any13 q htok (HT.out.kept n) p.1 p.2
  rw [show ((p.1, p.2) : Pr) = p from rfl] at hof
  have hal := fun {W : World} {y : Value} (n : New w W) (q' : Ls W 2 y ((l ++ [p]).map prC)) => all_any13 (Ls.nil W 20) no_tok (HT.out.kept n) q' (by rw [List.length_append, List.length_singleton]; omega)
  rw [errs_all hmb] at hal
  have hA := allP_one_build hmb p
  have hto1 : TOk (allP (buildN l) [p]).1 := by
    rw [hA]
    by_cases e : errP p = 0
    · rw [if_pos e]
      obtain ⟨h1, h2⟩ := errP_zero e
      refine build_ok (set_may hmb h1 h2) ?_
      have := set_len (rise_may hmb) p.1 p.2
      split at this <;> omega
    · rw [if_neg e]; exact no_tok
  have hpos : errP p = 0 → 0 < (allP (buildN l) [p]).1.length := fun e => by
    rw [hA, if_pos e]
    obtain ⟨h1, h2⟩ := errP_zero e
    exact (trie_blk (set_may hmb h1 h2) (by
      intro h
      have := (set_mem (rise_may hmb) (k := p.1) (v := p.2) (q := (p.1, p.2))).2 (.inl rfl)
      rw [h] at this; cases this)).ne |> fun h => by unfold buildN; rw [List.length_map]; exact h
  have hnil : errP p ≠ 0 → (allP (buildN l) [p]).1.length = 0 := fun e => by rw [hA, if_neg e]; rfl
  have hE : (allP (buildN l) [p]).2 = errP p := by
    rw [hA]
    by_cases e : errP p = 0
    · rw [if_pos e, e]
    · rw [if_neg e]
  rw [hE] at hof hal
  generalize (allP (buildN l) [p]).1 = A1 at hof hal hto1 hpos hnil
  have hk1 := fun {W : World} {x y : Value} (q : Ls W 20 x (A1.map ndC)) (q' : Ls W 20 y (A1.map ndC)) => keepTrie_any q q' hto1.k16 hto1.k16 (by have := hto1.few; omega) (by have := hto1.few; omega)
  rw [decide_eq_true rfl] at hk1
  have hc2 := fun {W : World} (n : New w W) => run_copy_all (w := W) 26 25 26 2 _ _ Tryd.underlying26 info52 rfl (by decide) (by decide) (HP.out.after n) (fun e he => by obtain ⟨q, _, rfl⟩ := List.mem_map.1 he; rfl) (fun e he => by obtain ⟨q, _, rfl⟩ := List.mem_map.1 he; exact prC_one q) (by rw [List.length_map]; omega)
  have hfd := field_T
  have h1len := hto1.few
  generalize buildN l = t at hbu hof
  obtain ⟨L1, hL1⟩ : ∃ x, A1.length = x := ⟨_, rfl⟩
  rw [hL1] at hpos hnil h1len
  have HL1 : Hid (A1.length = L1) := hL1
  have HOF : Hid (_) := @hof
  have HAL : Hid (_) := @hal
  have HK1 : Hid (_) := @hk1
  have HC2 : Hid (_) := @hc2
  have HBU : Hid (_) := @hbu
  have HWK : Hid (∀ {W : World}, New w W → Calls Tryd.prog 10 #[] W fun e w' => e = .returned (.bool true) ∧ New W w') := fun n => hwk n
  have hke : keyOk p.1 = false → errP p = 9 := fun h => by unfold errP; rw [if_pos h]
  have hke2 : keyOk p.1 = true → 16 < p.2.length → errP p = 10 := fun h h2 => by unfold errP; rw [if_neg (by rw [h]; simp), if_pos h2]
  have hke3 : keyOk p.1 = true → ¬ 16 < p.2.length → errP p = 0 := fun h h2 => by unfold errP; rw [if_neg (by rw [h]; simp), if_neg h2]
  have hsz := bs_size p.2
  clear hs2 hmb hb1 h30 htok hof hal hA hto1 hE hk1 hc2 hbu hwk hL1
  obtain ⟨kb, hkb⟩ : ∃ b, keyOk p.1 = b := ⟨_, rfl⟩
  rw [hkb] at hky hke hke2 hke3
  cases kb
  case false =>
    rw [hke rfl] at HOF HAL hnil hpos
    have hz := hnil (by decide)
    clear hke hke2 hke3 hkb hsz hpos hnil
    subst hz
    go_enter Tryd.func7, Tryd.ntmps7
    go_wp2_with (first
      | (refine wpList_box_at (by rfl) 3 (by rfl) 25 _ (by rfl) (prC p).toArray (by rfl) ?_; intro W0 R0 N0))
    have y0 := R0.has 0 (v := .string (bs p.1)) rfl
    have y1 := R0.has 1 (v := .string (bs p.2)) rfl
    go_wp2_with fail
    refine Calls.mono (hlp (N0)) ?_
    rintro _ W1 ⟨rfl, N1⟩
    have M1 : New w W1 := (N0).trans N1
    have R1p := R0.after N1
    clear y0 y1
    have y0 := R1p.has 0 (v := .string (bs p.1)) rfl
    have y1 := R1p.has 1 (v := .string (bs p.2)) rfl
    clear hlp
    go_wp2_with fail
    refine Calls.mono (hmay (M1)) ?_
    rintro _ W2 ⟨rfl, N2⟩
    have M2 : New w W2 := (M1).trans N2
    have R2p := R1p.after N2
    clear y0 y1
    have y0 := R2p.has 0 (v := .string (bs p.1)) rfl
    have y1 := R2p.has 1 (v := .string (bs p.2)) rfl
    clear hmay
    go_wp2_with fail
    refine Calls.mono (hky W2) ?_
    rintro _ W2 ⟨rfl, rfl⟩
    clear hky
    go_wp2_with fail
    refine Calls.mono (HBU.out M2) ?_
    rintro _ W4 ⟨a, n, c, a2, n2, c2, rfl, PT, _, N4⟩
    have M4 : New w W4 := (M2).trans N4
    have R4p := R2p.after N4
    clear y0 y1
    have y0 := R4p.has 0 (v := .string (bs p.1)) rfl
    have y1 := R4p.has 1 (v := .string (bs p.2)) rfl
    clear HBU
    have HPT : Hid (Ls W4 20 (.slice a n c) (t.map ndC)) := PT
    have hf := hfd a n c a2 n2 c2 true
    clear PT hfd
    go_wp2_with fail
    refine Calls.mono (HOF.out M4 HPT.out) ?_
    rintro _ W5 ⟨va, rfl, Qa, N5⟩
    have M5 : New w W5 := (M4).trans N5
    have R5p := R4p.after N5
    clear y0 y1
    have y0 := R5p.has 0 (v := .string (bs p.1)) rfl
    have y1 := R5p.has 1 (v := .string (bs p.2)) rfl
    have La := Qa.ls
    obtain ⟨aa, ca, e⟩ := La.size
    rw [List.length_map, HL1.out] at e
    subst e
    have HLa : Hid (Ls W5 20 (.slice aa 0 ca) (A1.map ndC)) := La
    clear HOF Qa La HPT
    go_upto_region 10 with fail
    have RP := R5p
    refine region_reads [1, 3] 10 11 (fun w' => New W5 w') (New.drew W5) (by kernel_rfl) (by kernel_rfl) (fun d _ _ _ _ h => by cases d <;> exact h) ?_
    simp only [pick, List.getElem?_cons_succ, List.getElem?_cons_zero, Option.toList_some, List.cons_append, List.nil_append]
    refine wpQuiet_run (by rfl) (.slice al l.length cl) (fun W _ => by go_simp) ?_
    simp only [Act.put, List.setIfInBounds_toArray, List.set_cons_zero, List.set_cons_succ]
    refine wpQuiet_run (by rfl) (.agg (prC p).toArray) (fun W hW => exec_load (by rfl) w.heap.size 0 (by rfl) (prC p) (pr_range (RP.after hW)) _ Tryd.underlying25 rfl i52) ?_
    simp only [Act.put, List.setIfInBounds_toArray, List.set_cons_zero, List.set_cons_succ]
    refine wpQuiet_nil ?_
    have HPc : Hid (Ls W5 2 (.slice al l.length cl) (l.map prC)) := HP.out.after M5
    have NX := New.drew W5
    generalize hWX : W5.drew = WX at NX ⊢
    clear hWX y0 y1
    refine wpG.two 0 4 (by kernel_rfl) ?_ ?_
    · have hz1 := run_buildNone WX 26 25 _ _ _ Tryd.underlying26 info52
      have R01 := Row.new WX #[] 25
      have T1 : New WX (WX.alloc (.cells #[] 25)) := (New.refl _).alloc _
      have hg1 := NX.size
      generalize WX.alloc (.cells #[] 25) = X1 at hz1 R01 T1
      have N1x := NX.trans T1
      refine wpOp_run (some 55) (.slice (some ⟨WX.heap.size, 0, none⟩) 0 0) X1 (by rfl) (by rfl) (by rfl) (exec_buildNone (by rfl) hz1) ⟨fun _ => N1x, ?_⟩
      simp only [Act.put, List.setIfInBounds_toArray, List.set_cons_zero, List.set_cons_succ]
      generalize WX.heap.size = g0 at *
      refine wpG.two 2 4 (by kernel_rfl) ?_ ?_
      · obtain ⟨v2, X2, hz2, Q2x, N2x, G2⟩ := run_copy_any (w := W5) (w1 := X1) 26 25 26 2 _ _ Tryd.underlying26 info52 rfl (by decide) (by decide) HPc.out (fun e he => by obtain ⟨q, _, rfl⟩ := List.mem_map.1 he; rfl) (fun e he => by obtain ⟨q, _, rfl⟩ := List.mem_map.1 he; exact prC_one q) (by rw [List.length_map]; omega) R01 N1x hg1
        refine wpOp_run (some 57) v2 X2 (by rfl) (by rfl) (by rfl) (exec_append (by rfl) (by rfl) (by rfl) hz2) ⟨fun _ => N2x, ?_⟩
        simp only [Act.put, List.setIfInBounds_toArray, List.set_cons_zero, List.set_cons_succ]
        refine wpG.one 4 (by kernel_rfl) ?_
        have hz3 := run_buildOne (P := Tryd.prog) X2 26 25 (prC p).toArray _ _ _ Tryd.underlying26 info52 rfl (by decide) (by decide)
        have R43 := Row.new X2 (prC p).toArray 25
        have T3 : New X2 (X2.alloc (.cells (prC p).toArray 25)) := (New.refl _).alloc _
        generalize X2.alloc (.cells (prC p).toArray 25) = X3 at hz3 R43 T3
        have N3x := N2x.trans T3
        have Q3x := Q2x.after T3
        refine wpOp_run (some 59) (.slice (some ⟨X2.heap.size, 0, none⟩) 1 1) X3 (by rfl) (by rfl) (by rfl) (exec_buildSlice (by rfl) (by rfl) hz3) ⟨fun _ => N3x, ?_⟩
        simp only [Act.put, List.setIfInBounds_toArray, List.set_cons_zero, List.set_cons_succ]
        generalize X2.heap.size = g4 at *
        refine wpG.one 5 (by kernel_rfl) ?_
        obtain ⟨g5, c5, U5, hap, Q5, G5⟩ := run_append_pl Q3x 26 26 Tryd.underlying26 _ _ info52 rfl (by decide) g4 (prC p) 25 R43 rfl (prC_one _) (by rw [List.length_map]; omega) (by decide)
        have V5 : New W5 U5 := N3x.grown G5 (fun b hb => Q3x.foot b hb)
        rw [List.length_map] at hap Q5
        refine wpOp_run (some 60) _ U5 (by rfl) (by rfl) (by rfl) (exec_append (by rfl) (by rfl) (by rfl) hap) ⟨fun _ => V5, ?_⟩
        simp only [Act.put, List.setIfInBounds_toArray, List.set_cons_zero, List.set_cons_succ]
        have L5 : Ls U5 2 (.slice (some ⟨g5, 0, none⟩) (l.length + 1) c5) ((l ++ [p]).map prC) := by
          rw [List.map_append]; exact Q5.ls
        refine wpG.one 6 (by kernel_rfl) ?_
        refine wpOp_call (some 61) 13 #[.slice none 0 0, .slice (some ⟨g5, 0, none⟩) (l.length + 1) c5] (by rfl) (by rfl) (by rfl) (by go_simp) ?_
        refine Calls.mono (HAL.out ((M5).trans V5) L5) ?_
        rintro _ U6 ⟨v6, rfl, Q6, V6⟩
        have V56 := V5.trans V6
        refine ⟨_, rfl, fun _ => V56, ?_⟩
        simp only [Act.put, List.setIfInBounds_toArray, List.set_cons_zero, List.set_cons_succ]
        refine wpG.one 7 (by kernel_rfl) ?_
        refine wpOp_run (some 54) (.tuple #[v6, .int .i64 9]) U6 (by rfl) (by rfl) (by rfl) (by go_simp) ⟨fun _ => V56, ?_⟩
        simp only [Act.put, List.setIfInBounds_toArray, List.set_cons_zero, List.set_cons_succ]
        refine wpG.take (i := 8) (some 62) (v := v6) (by rfl) (by kernel_rfl) (by intro _ _ _ h; exact h) (by rfl) (by rfl) V56 (fun W _ => by go_simp) ?_
        simp only [Act.put, List.setIfInBounds_toArray, List.set_cons_zero, List.set_cons_succ]
        refine wpG.take (i := 9) (some 63) (v := .int .i64 9) (by rfl) (by kernel_rfl) (by intro _ _ _ h; exact h) (by rfl) (by rfl) V56 (fun W _ => by go_simp) ?_
        simp only [Act.put, List.setIfInBounds_toArray, List.set_cons_zero, List.set_cons_succ]
        refine wpG.one 10 (by kernel_rfl) ?_
        refine wpOp_run (some 9) v6 U6 (by rfl) (by rfl) (by rfl) (by go_simp) ⟨fun _ => V56, ?_⟩
        simp only [Act.put, List.setIfInBounds_toArray, List.set_cons_zero, List.set_cons_succ]
        refine wpG.one 11 (by kernel_rfl) ?_
        refine wpOp_run (some 10) (.int .i64 9) U6 (by rfl) (by rfl) (by rfl) (by go_simp) ⟨fun h => absurd rfl h, ?_⟩
        simp only [Act.put, List.setIfInBounds_toArray, List.set_cons_zero, List.set_cons_succ]
        refine wpG.done (by kernel_rfl) ?_ _
        have HLa6 : Hid (Ls U6 20 (.slice aa 0 ca) (A1.map ndC)) := HLa.out.after V56
        have HLv6 : Hid (Ls U6 20 v6 (A1.map ndC)) := Q6.ls
        have HM6 : Hid (New w U6) := (M5).trans V56
        clear V56 V6 Q6 V5 Q5 G5 hap L5
        go_wp2_with fail
        refine Calls.mono (HK1.out HLa6.out HLv6.out) ?_
        rintro _ U7 ⟨rfl, V7⟩
        go_wp2_with fail
        refine Calls.mono (HWK.out (HM6.out.trans V7)) ?_
        rintro _ U8 ⟨rfl, V8⟩
        go_wp2_with fail
        go_ret
        exact ⟨rfl, (HM6.out.trans V7).trans V8⟩
      · have hz4 := run_buildOne (P := Tryd.prog) X1 26 25 (prC p).toArray _ _ _ Tryd.underlying26 info52 rfl (by decide) (by decide)
        have R44 := Row.new X1 (prC p).toArray 25
        have T4 : New X1 (X1.alloc (.cells (prC p).toArray 25)) := (New.refl _).alloc _
        generalize X1.alloc (.cells (prC p).toArray 25) = X4 at hz4 R44 T4
        have N4x := N1x.trans T4
        have R04 := R01.after T4
        have hne4 : X1.heap.size ≠ g0 := by have := R01.lt; omega
        refine wpOp_run (some 59) (.slice (some ⟨X1.heap.size, 0, none⟩) 1 1) X4 (by rfl) (by rfl) (by rfl) (exec_buildSlice (by rfl) (by rfl) hz4) ⟨fun _ => N4x, ?_⟩
        simp only [Act.put, List.setIfInBounds_toArray, List.set_cons_zero, List.set_cons_succ]
        generalize X1.heap.size = g4 at *
        refine wpG.one 2 (by kernel_rfl) ?_
        obtain ⟨v2, X5, hz5, Q5x, N5x, G5⟩ := run_copy_any (w := W5) (w1 := X4) 26 25 26 2 _ _ Tryd.underlying26 info52 rfl (by decide) (by decide) HPc.out (fun e he => by obtain ⟨q, _, rfl⟩ := List.mem_map.1 he; rfl) (fun e he => by obtain ⟨q, _, rfl⟩ := List.mem_map.1 he; exact prC_one q) (by rw [List.length_map]; omega) R04 N4x hg1
        have R45 := R44.of (G5.block g4 R44.lt (fun e => hne4 (by injection e)))
        refine wpOp_run (some 57) v2 X5 (by rfl) (by rfl) (by rfl) (exec_append (by rfl) (by rfl) (by rfl) hz5) ⟨fun _ => N5x, ?_⟩
        simp only [Act.put, List.setIfInBounds_toArray, List.set_cons_zero, List.set_cons_succ]
        refine wpG.one 5 (by kernel_rfl) ?_
        obtain ⟨g5, c5, U5, hap, Q5, G5⟩ := run_append_pl Q5x 26 26 Tryd.underlying26 _ _ info52 rfl (by decide) g4 (prC p) 25 R45 rfl (prC_one _) (by rw [List.length_map]; omega) (by decide)
        have V5 : New W5 U5 := N5x.grown G5 (fun b hb => Q5x.foot b hb)
        rw [List.length_map] at hap Q5
        refine wpOp_run (some 60) _ U5 (by rfl) (by rfl) (by rfl) (exec_append (by rfl) (by rfl) (by rfl) hap) ⟨fun _ => V5, ?_⟩
        simp only [Act.put, List.setIfInBounds_toArray, List.set_cons_zero, List.set_cons_succ]
        have L5 : Ls U5 2 (.slice (some ⟨g5, 0, none⟩) (l.length + 1) c5) ((l ++ [p]).map prC) := by
          rw [List.map_append]; exact Q5.ls
        refine wpG.one 6 (by kernel_rfl) ?_
        refine wpOp_call (some 61) 13 #[.slice none 0 0, .slice (some ⟨g5, 0, none⟩) (l.length + 1) c5] (by rfl) (by rfl) (by rfl) (by go_simp) ?_
        refine Calls.mono (HAL.out ((M5).trans V5) L5) ?_
        rintro _ U6 ⟨v6, rfl, Q6, V6⟩
        have V56 := V5.trans V6
        refine ⟨_, rfl, fun _ => V56, ?_⟩
        simp only [Act.put, List.setIfInBounds_toArray, List.set_cons_zero, List.set_cons_succ]
        refine wpG.one 7 (by kernel_rfl) ?_
        refine wpOp_run (some 54) (.tuple #[v6, .int .i64 9]) U6 (by rfl) (by rfl) (by rfl) (by go_simp) ⟨fun _ => V56, ?_⟩
        simp only [Act.put, List.setIfInBounds_toArray, List.set_cons_zero, List.set_cons_succ]
        refine wpG.take (i := 8) (some 62) (v := v6) (by rfl) (by kernel_rfl) (by intro _ _ _ h; exact h) (by rfl) (by rfl) V56 (fun W _ => by go_simp) ?_
        simp only [Act.put, List.setIfInBounds_toArray, List.set_cons_zero, List.set_cons_succ]
        refine wpG.take (i := 9) (some 63) (v := .int .i64 9) (by rfl) (by kernel_rfl) (by intro _ _ _ h; exact h) (by rfl) (by rfl) V56 (fun W _ => by go_simp) ?_
        simp only [Act.put, List.setIfInBounds_toArray, List.set_cons_zero, List.set_cons_succ]
        refine wpG.one 10 (by kernel_rfl) ?_
        refine wpOp_run (some 9) v6 U6 (by rfl) (by rfl) (by rfl) (by go_simp) ⟨fun _ => V56, ?_⟩
        simp only [Act.put, List.setIfInBounds_toArray, List.set_cons_zero, List.set_cons_succ]
        refine wpG.one 11 (by kernel_rfl) ?_
        refine wpOp_run (some 10) (.int .i64 9) U6 (by rfl) (by rfl) (by rfl) (by go_simp) ⟨fun h => absurd rfl h, ?_⟩
        simp only [Act.put, List.setIfInBounds_toArray, List.set_cons_zero, List.set_cons_succ]
        refine wpG.done (by kernel_rfl) ?_ _
        have HLa6 : Hid (Ls U6 20 (.slice aa 0 ca) (A1.map ndC)) := HLa.out.after V56
        have HLv6 : Hid (Ls U6 20 v6 (A1.map ndC)) := Q6.ls
        have HM6 : Hid (New w U6) := (M5).trans V56
        clear V56 V6 Q6 V5 Q5 G5 hap L5
        go_wp2_with fail
        refine Calls.mono (HK1.out HLa6.out HLv6.out) ?_
        rintro _ U7 ⟨rfl, V7⟩
        go_wp2_with fail
        refine Calls.mono (HWK.out (HM6.out.trans V7)) ?_
        rintro _ U8 ⟨rfl, V8⟩
        go_wp2_with fail
        go_ret
        exact ⟨rfl, (HM6.out.trans V7).trans V8⟩
    · have hz6 := run_buildOne (P := Tryd.prog) WX 26 25 (prC p).toArray _ _ _ Tryd.underlying26 info52 rfl (by decide) (by decide)
      have R46 := Row.new WX (prC p).toArray 25
      have T6 : New WX (WX.alloc (.cells (prC p).toArray 25)) := (New.refl _).alloc _
      generalize WX.alloc (.cells (prC p).toArray 25) = X6 at hz6 R46 T6
      have N6x := NX.trans T6
      refine wpOp_run (some 59) (.slice (some ⟨WX.heap.size, 0, none⟩) 1 1) X6 (by rfl) (by rfl) (by rfl) (exec_buildSlice (by rfl) (by rfl) hz6) ⟨fun _ => N6x, ?_⟩
      simp only [Act.put, List.setIfInBounds_toArray, List.set_cons_zero, List.set_cons_succ]
      generalize WX.heap.size = g4 at *
      refine wpG.one 0 (by kernel_rfl) ?_
      have hz7 := run_buildNone X6 26 25 _ _ _ Tryd.underlying26 info52
      have R07 := Row.new X6 #[] 25
      have T7 : New X6 (X6.alloc (.cells #[] 25)) := (New.refl _).alloc _
      have hg7 := N6x.size
      generalize X6.alloc (.cells #[] 25) = X7 at hz7 R07 T7
      have N7x := N6x.trans T7
      have R47 := R46.after T7
      have hne7 : g4 ≠ X6.heap.size := by have := R46.lt; omega
      refine wpOp_run (some 55) (.slice (some ⟨X6.heap.size, 0, none⟩) 0 0) X7 (by rfl) (by rfl) (by rfl) (exec_buildNone (by rfl) hz7) ⟨fun _ => N7x, ?_⟩
      simp only [Act.put, List.setIfInBounds_toArray, List.set_cons_zero, List.set_cons_succ]
      generalize X6.heap.size = g0 at *
      refine wpG.one 2 (by kernel_rfl) ?_
      obtain ⟨v2, X8, hz8, Q8x, N8x, G8⟩ := run_copy_any (w := W5) (w1 := X7) 26 25 26 2 _ _ Tryd.underlying26 info52 rfl (by decide) (by decide) HPc.out (fun e he => by obtain ⟨q, _, rfl⟩ := List.mem_map.1 he; rfl) (fun e he => by obtain ⟨q, _, rfl⟩ := List.mem_map.1 he; exact prC_one q) (by rw [List.length_map]; omega) R07 N7x hg7
      have R48 := R47.of (G8.block g4 R47.lt (fun e => hne7 (by injection e)))
      refine wpOp_run (some 57) v2 X8 (by rfl) (by rfl) (by rfl) (exec_append (by rfl) (by rfl) (by rfl) hz8) ⟨fun _ => N8x, ?_⟩
      simp only [Act.put, List.setIfInBounds_toArray, List.set_cons_zero, List.set_cons_succ]
      refine wpG.one 5 (by kernel_rfl) ?_
      obtain ⟨g5, c5, U5, hap, Q5, G5⟩ := run_append_pl Q8x 26 26 Tryd.underlying26 _ _ info52 rfl (by decide) g4 (prC p) 25 R48 rfl (prC_one _) (by rw [List.length_map]; omega) (by decide)
      have V5 : New W5 U5 := N8x.grown G5 (fun b hb => Q8x.foot b hb)
      rw [List.length_map] at hap Q5
      refine wpOp_run (some 60) _ U5 (by rfl) (by rfl) (by rfl) (exec_append (by rfl) (by rfl) (by rfl) hap) ⟨fun _ => V5, ?_⟩
      simp only [Act.put, List.setIfInBounds_toArray, List.set_cons_zero, List.set_cons_succ]
      have L5 : Ls U5 2 (.slice (some ⟨g5, 0, none⟩) (l.length + 1) c5) ((l ++ [p]).map prC) := by
        rw [List.map_append]; exact Q5.ls
      refine wpG.one 6 (by kernel_rfl) ?_
      refine wpOp_call (some 61) 13 #[.slice none 0 0, .slice (some ⟨g5, 0, none⟩) (l.length + 1) c5] (by rfl) (by rfl) (by rfl) (by go_simp) ?_
      refine Calls.mono (HAL.out ((M5).trans V5) L5) ?_
      rintro _ U6 ⟨v6, rfl, Q6, V6⟩
      have V56 := V5.trans V6
      refine ⟨_, rfl, fun _ => V56, ?_⟩
      simp only [Act.put, List.setIfInBounds_toArray, List.set_cons_zero, List.set_cons_succ]
      refine wpG.one 7 (by kernel_rfl) ?_
      refine wpOp_run (some 54) (.tuple #[v6, .int .i64 9]) U6 (by rfl) (by rfl) (by rfl) (by go_simp) ⟨fun _ => V56, ?_⟩
      simp only [Act.put, List.setIfInBounds_toArray, List.set_cons_zero, List.set_cons_succ]
      refine wpG.take (i := 8) (some 62) (v := v6) (by rfl) (by kernel_rfl) (by intro _ _ _ h; exact h) (by rfl) (by rfl) V56 (fun W _ => by go_simp) ?_
      simp only [Act.put, List.setIfInBounds_toArray, List.set_cons_zero, List.set_cons_succ]
      refine wpG.take (i := 9) (some 63) (v := .int .i64 9) (by rfl) (by kernel_rfl) (by intro _ _ _ h; exact h) (by rfl) (by rfl) V56 (fun W _ => by go_simp) ?_
      simp only [Act.put, List.setIfInBounds_toArray, List.set_cons_zero, List.set_cons_succ]
      refine wpG.one 10 (by kernel_rfl) ?_
      refine wpOp_run (some 9) v6 U6 (by rfl) (by rfl) (by rfl) (by go_simp) ⟨fun _ => V56, ?_⟩
      simp only [Act.put, List.setIfInBounds_toArray, List.set_cons_zero, List.set_cons_succ]
      refine wpG.one 11 (by kernel_rfl) ?_
      refine wpOp_run (some 10) (.int .i64 9) U6 (by rfl) (by rfl) (by rfl) (by go_simp) ⟨fun h => absurd rfl h, ?_⟩
      simp only [Act.put, List.setIfInBounds_toArray, List.set_cons_zero, List.set_cons_succ]
      refine wpG.done (by kernel_rfl) ?_ _
      have HLa6 : Hid (Ls U6 20 (.slice aa 0 ca) (A1.map ndC)) := HLa.out.after V56
      have HLv6 : Hid (Ls U6 20 v6 (A1.map ndC)) := Q6.ls
      have HM6 : Hid (New w U6) := (M5).trans V56
      clear V56 V6 Q6 V5 Q5 G5 hap L5
      go_wp2_with fail
      refine Calls.mono (HK1.out HLa6.out HLv6.out) ?_
      rintro _ U7 ⟨rfl, V7⟩
      go_wp2_with fail
      refine Calls.mono (HWK.out (HM6.out.trans V7)) ?_
      rintro _ U8 ⟨rfl, V8⟩
      go_wp2_with fail
      go_ret
      exact ⟨rfl, (HM6.out.trans V7).trans V8⟩
  case true =>
    by_cases h16 : 16 < p.2.length
    · have h16b : decide ((16 : Int) < ((bs p.2).size : Int)) = true := decide_eq_true (by omega)
      rw [hke2 rfl h16] at HOF HAL hnil hpos
      have hz := hnil (by decide)
      clear hke hke2 hke3 hkb hsz hpos hnil h16
      subst hz
      go_enter Tryd.func7, Tryd.ntmps7
      go_wp2_with (first
        | (refine wpList_box_at (by rfl) 3 (by rfl) 25 _ (by rfl) (prC p).toArray (by rfl) ?_; intro W0 R0 N0))
      have y0 := R0.has 0 (v := .string (bs p.1)) rfl
      have y1 := R0.has 1 (v := .string (bs p.2)) rfl
      go_wp2_with fail
      refine Calls.mono (hlp (N0)) ?_
      rintro _ W1 ⟨rfl, N1⟩
      have M1 : New w W1 := (N0).trans N1
      have R1p := R0.after N1
      clear y0 y1
      have y0 := R1p.has 0 (v := .string (bs p.1)) rfl
      have y1 := R1p.has 1 (v := .string (bs p.2)) rfl
      clear hlp
      go_wp2_with fail
      refine Calls.mono (hmay (M1)) ?_
      rintro _ W2 ⟨rfl, N2⟩
      have M2 : New w W2 := (M1).trans N2
      have R2p := R1p.after N2
      clear y0 y1
      have y0 := R2p.has 0 (v := .string (bs p.1)) rfl
      have y1 := R2p.has 1 (v := .string (bs p.2)) rfl
      clear hmay
      go_wp2_with fail
      refine Calls.mono (hky W2) ?_
      rintro _ W2 ⟨rfl, rfl⟩
      clear hky
      go_wp2_with fail
      refine Calls.mono (HBU.out M2) ?_
      rintro _ W4 ⟨a, n, c, a2, n2, c2, rfl, PT, _, N4⟩
      have M4 : New w W4 := (M2).trans N4
      have R4p := R2p.after N4
      clear y0 y1
      have y0 := R4p.has 0 (v := .string (bs p.1)) rfl
      have y1 := R4p.has 1 (v := .string (bs p.2)) rfl
      clear HBU
      have HPT : Hid (Ls W4 20 (.slice a n c) (t.map ndC)) := PT
      have hf := hfd a n c a2 n2 c2 true
      clear PT hfd
      go_wp2_with fail
      refine Calls.mono (HOF.out M4 HPT.out) ?_
      rintro _ W5 ⟨va, rfl, Qa, N5⟩
      have M5 : New w W5 := (M4).trans N5
      have R5p := R4p.after N5
      clear y0 y1
      have y0 := R5p.has 0 (v := .string (bs p.1)) rfl
      have y1 := R5p.has 1 (v := .string (bs p.2)) rfl
      have La := Qa.ls
      obtain ⟨aa, ca, e⟩ := La.size
      rw [List.length_map, HL1.out] at e
      subst e
      have HLa : Hid (Ls W5 20 (.slice aa 0 ca) (A1.map ndC)) := La
      clear HOF Qa La HPT
      go_upto_region 10 with fail
      have RP := R5p
      refine region_reads [1, 3] 10 11 (fun w' => New W5 w') (New.drew W5) (by kernel_rfl) (by kernel_rfl) (fun d _ _ _ _ h => by cases d <;> exact h) ?_
      simp only [pick, List.getElem?_cons_succ, List.getElem?_cons_zero, Option.toList_some, List.cons_append, List.nil_append]
      refine wpQuiet_run (by rfl) (.slice al l.length cl) (fun W _ => by go_simp) ?_
      simp only [Act.put, List.setIfInBounds_toArray, List.set_cons_zero, List.set_cons_succ]
      refine wpQuiet_run (by rfl) (.agg (prC p).toArray) (fun W hW => exec_load (by rfl) w.heap.size 0 (by rfl) (prC p) (pr_range (RP.after hW)) _ Tryd.underlying25 rfl i52) ?_
      simp only [Act.put, List.setIfInBounds_toArray, List.set_cons_zero, List.set_cons_succ]
      refine wpQuiet_nil ?_
      have HPc : Hid (Ls W5 2 (.slice al l.length cl) (l.map prC)) := HP.out.after M5
      have NX := New.drew W5
      generalize hWX : W5.drew = WX at NX ⊢
      clear hWX y0 y1
      refine wpG.two 0 4 (by kernel_rfl) ?_ ?_
      · have hz1 := run_buildNone WX 26 25 _ _ _ Tryd.underlying26 info52
        have R01 := Row.new WX #[] 25
        have T1 : New WX (WX.alloc (.cells #[] 25)) := (New.refl _).alloc _
        have hg1 := NX.size
        generalize WX.alloc (.cells #[] 25) = X1 at hz1 R01 T1
        have N1x := NX.trans T1
        refine wpOp_run (some 55) (.slice (some ⟨WX.heap.size, 0, none⟩) 0 0) X1 (by rfl) (by rfl) (by rfl) (exec_buildNone (by rfl) hz1) ⟨fun _ => N1x, ?_⟩
        simp only [Act.put, List.setIfInBounds_toArray, List.set_cons_zero, List.set_cons_succ]
        generalize WX.heap.size = g0 at *
        refine wpG.two 2 4 (by kernel_rfl) ?_ ?_
        · obtain ⟨v2, X2, hz2, Q2x, N2x, G2⟩ := run_copy_any (w := W5) (w1 := X1) 26 25 26 2 _ _ Tryd.underlying26 info52 rfl (by decide) (by decide) HPc.out (fun e he => by obtain ⟨q, _, rfl⟩ := List.mem_map.1 he; rfl) (fun e he => by obtain ⟨q, _, rfl⟩ := List.mem_map.1 he; exact prC_one q) (by rw [List.length_map]; omega) R01 N1x hg1
          refine wpOp_run (some 57) v2 X2 (by rfl) (by rfl) (by rfl) (exec_append (by rfl) (by rfl) (by rfl) hz2) ⟨fun _ => N2x, ?_⟩
          simp only [Act.put, List.setIfInBounds_toArray, List.set_cons_zero, List.set_cons_succ]
          refine wpG.one 4 (by kernel_rfl) ?_
          have hz3 := run_buildOne (P := Tryd.prog) X2 26 25 (prC p).toArray _ _ _ Tryd.underlying26 info52 rfl (by decide) (by decide)
          have R43 := Row.new X2 (prC p).toArray 25
          have T3 : New X2 (X2.alloc (.cells (prC p).toArray 25)) := (New.refl _).alloc _
          generalize X2.alloc (.cells (prC p).toArray 25) = X3 at hz3 R43 T3
          have N3x := N2x.trans T3
          have Q3x := Q2x.after T3
          refine wpOp_run (some 59) (.slice (some ⟨X2.heap.size, 0, none⟩) 1 1) X3 (by rfl) (by rfl) (by rfl) (exec_buildSlice (by rfl) (by rfl) hz3) ⟨fun _ => N3x, ?_⟩
          simp only [Act.put, List.setIfInBounds_toArray, List.set_cons_zero, List.set_cons_succ]
          generalize X2.heap.size = g4 at *
          refine wpG.one 5 (by kernel_rfl) ?_
          obtain ⟨g5, c5, U5, hap, Q5, G5⟩ := run_append_pl Q3x 26 26 Tryd.underlying26 _ _ info52 rfl (by decide) g4 (prC p) 25 R43 rfl (prC_one _) (by rw [List.length_map]; omega) (by decide)
          have V5 : New W5 U5 := N3x.grown G5 (fun b hb => Q3x.foot b hb)
          rw [List.length_map] at hap Q5
          refine wpOp_run (some 60) _ U5 (by rfl) (by rfl) (by rfl) (exec_append (by rfl) (by rfl) (by rfl) hap) ⟨fun _ => V5, ?_⟩
          simp only [Act.put, List.setIfInBounds_toArray, List.set_cons_zero, List.set_cons_succ]
          have L5 : Ls U5 2 (.slice (some ⟨g5, 0, none⟩) (l.length + 1) c5) ((l ++ [p]).map prC) := by
            rw [List.map_append]; exact Q5.ls
          refine wpG.one 6 (by kernel_rfl) ?_
          refine wpOp_call (some 61) 13 #[.slice none 0 0, .slice (some ⟨g5, 0, none⟩) (l.length + 1) c5] (by rfl) (by rfl) (by rfl) (by go_simp) ?_
          refine Calls.mono (HAL.out ((M5).trans V5) L5) ?_
          rintro _ U6 ⟨v6, rfl, Q6, V6⟩
          have V56 := V5.trans V6
          refine ⟨_, rfl, fun _ => V56, ?_⟩
          simp only [Act.put, List.setIfInBounds_toArray, List.set_cons_zero, List.set_cons_succ]
          refine wpG.one 7 (by kernel_rfl) ?_
          refine wpOp_run (some 54) (.tuple #[v6, .int .i64 10]) U6 (by rfl) (by rfl) (by rfl) (by go_simp) ⟨fun _ => V56, ?_⟩
          simp only [Act.put, List.setIfInBounds_toArray, List.set_cons_zero, List.set_cons_succ]
          refine wpG.take (i := 8) (some 62) (v := v6) (by rfl) (by kernel_rfl) (by intro _ _ _ h; exact h) (by rfl) (by rfl) V56 (fun W _ => by go_simp) ?_
          simp only [Act.put, List.setIfInBounds_toArray, List.set_cons_zero, List.set_cons_succ]
          refine wpG.take (i := 9) (some 63) (v := .int .i64 10) (by rfl) (by kernel_rfl) (by intro _ _ _ h; exact h) (by rfl) (by rfl) V56 (fun W _ => by go_simp) ?_
          simp only [Act.put, List.setIfInBounds_toArray, List.set_cons_zero, List.set_cons_succ]
          refine wpG.one 10 (by kernel_rfl) ?_
          refine wpOp_run (some 9) v6 U6 (by rfl) (by rfl) (by rfl) (by go_simp) ⟨fun _ => V56, ?_⟩
          simp only [Act.put, List.setIfInBounds_toArray, List.set_cons_zero, List.set_cons_succ]
          refine wpG.one 11 (by kernel_rfl) ?_
          refine wpOp_run (some 10) (.int .i64 10) U6 (by rfl) (by rfl) (by rfl) (by go_simp) ⟨fun h => absurd rfl h, ?_⟩
          simp only [Act.put, List.setIfInBounds_toArray, List.set_cons_zero, List.set_cons_succ]
          refine wpG.done (by kernel_rfl) ?_ _
          have HLa6 : Hid (Ls U6 20 (.slice aa 0 ca) (A1.map ndC)) := HLa.out.after V56
          have HLv6 : Hid (Ls U6 20 v6 (A1.map ndC)) := Q6.ls
          have HM6 : Hid (New w U6) := (M5).trans V56
          clear V56 V6 Q6 V5 Q5 G5 hap L5
          go_wp2_with fail
          refine Calls.mono (HK1.out HLa6.out HLv6.out) ?_
          rintro _ U7 ⟨rfl, V7⟩
          go_wp2_with fail
          refine Calls.mono (HWK.out (HM6.out.trans V7)) ?_
          rintro _ U8 ⟨rfl, V8⟩
          go_wp2_with fail
          go_ret
          exact ⟨rfl, (HM6.out.trans V7).trans V8⟩
        · have hz4 := run_buildOne (P := Tryd.prog) X1 26 25 (prC p).toArray _ _ _ Tryd.underlying26 info52 rfl (by decide) (by decide)
          have R44 := Row.new X1 (prC p).toArray 25
          have T4 : New X1 (X1.alloc (.cells (prC p).toArray 25)) := (New.refl _).alloc _
          generalize X1.alloc (.cells (prC p).toArray 25) = X4 at hz4 R44 T4
          have N4x := N1x.trans T4
          have R04 := R01.after T4
          have hne4 : X1.heap.size ≠ g0 := by have := R01.lt; omega
          refine wpOp_run (some 59) (.slice (some ⟨X1.heap.size, 0, none⟩) 1 1) X4 (by rfl) (by rfl) (by rfl) (exec_buildSlice (by rfl) (by rfl) hz4) ⟨fun _ => N4x, ?_⟩
          simp only [Act.put, List.setIfInBounds_toArray, List.set_cons_zero, List.set_cons_succ]
          generalize X1.heap.size = g4 at *
          refine wpG.one 2 (by kernel_rfl) ?_
          obtain ⟨v2, X5, hz5, Q5x, N5x, G5⟩ := run_copy_any (w := W5) (w1 := X4) 26 25 26 2 _ _ Tryd.underlying26 info52 rfl (by decide) (by decide) HPc.out (fun e he => by obtain ⟨q, _, rfl⟩ := List.mem_map.1 he; rfl) (fun e he => by obtain ⟨q, _, rfl⟩ := List.mem_map.1 he; exact prC_one q) (by rw [List.length_map]; omega) R04 N4x hg1
          have R45 := R44.of (G5.block g4 R44.lt (fun e => hne4 (by injection e)))
          refine wpOp_run (some 57) v2 X5 (by rfl) (by rfl) (by rfl) (exec_append (by rfl) (by rfl) (by rfl) hz5) ⟨fun _ => N5x, ?_⟩
          simp only [Act.put, List.setIfInBounds_toArray, List.set_cons_zero, List.set_cons_succ]
          refine wpG.one 5 (by kernel_rfl) ?_
          obtain ⟨g5, c5, U5, hap, Q5, G5⟩ := run_append_pl Q5x 26 26 Tryd.underlying26 _ _ info52 rfl (by decide) g4 (prC p) 25 R45 rfl (prC_one _) (by rw [List.length_map]; omega) (by decide)
          have V5 : New W5 U5 := N5x.grown G5 (fun b hb => Q5x.foot b hb)
          rw [List.length_map] at hap Q5
          refine wpOp_run (some 60) _ U5 (by rfl) (by rfl) (by rfl) (exec_append (by rfl) (by rfl) (by rfl) hap) ⟨fun _ => V5, ?_⟩
          simp only [Act.put, List.setIfInBounds_toArray, List.set_cons_zero, List.set_cons_succ]
          have L5 : Ls U5 2 (.slice (some ⟨g5, 0, none⟩) (l.length + 1) c5) ((l ++ [p]).map prC) := by
            rw [List.map_append]; exact Q5.ls
          refine wpG.one 6 (by kernel_rfl) ?_
          refine wpOp_call (some 61) 13 #[.slice none 0 0, .slice (some ⟨g5, 0, none⟩) (l.length + 1) c5] (by rfl) (by rfl) (by rfl) (by go_simp) ?_
          refine Calls.mono (HAL.out ((M5).trans V5) L5) ?_
          rintro _ U6 ⟨v6, rfl, Q6, V6⟩
          have V56 := V5.trans V6
          refine ⟨_, rfl, fun _ => V56, ?_⟩
          simp only [Act.put, List.setIfInBounds_toArray, List.set_cons_zero, List.set_cons_succ]
          refine wpG.one 7 (by kernel_rfl) ?_
          refine wpOp_run (some 54) (.tuple #[v6, .int .i64 10]) U6 (by rfl) (by rfl) (by rfl) (by go_simp) ⟨fun _ => V56, ?_⟩
          simp only [Act.put, List.setIfInBounds_toArray, List.set_cons_zero, List.set_cons_succ]
          refine wpG.take (i := 8) (some 62) (v := v6) (by rfl) (by kernel_rfl) (by intro _ _ _ h; exact h) (by rfl) (by rfl) V56 (fun W _ => by go_simp) ?_
          simp only [Act.put, List.setIfInBounds_toArray, List.set_cons_zero, List.set_cons_succ]
          refine wpG.take (i := 9) (some 63) (v := .int .i64 10) (by rfl) (by kernel_rfl) (by intro _ _ _ h; exact h) (by rfl) (by rfl) V56 (fun W _ => by go_simp) ?_
          simp only [Act.put, List.setIfInBounds_toArray, List.set_cons_zero, List.set_cons_succ]
          refine wpG.one 10 (by kernel_rfl) ?_
          refine wpOp_run (some 9) v6 U6 (by rfl) (by rfl) (by rfl) (by go_simp) ⟨fun _ => V56, ?_⟩
          simp only [Act.put, List.setIfInBounds_toArray, List.set_cons_zero, List.set_cons_succ]
          refine wpG.one 11 (by kernel_rfl) ?_
          refine wpOp_run (some 10) (.int .i64 10) U6 (by rfl) (by rfl) (by rfl) (by go_simp) ⟨fun h => absurd rfl h, ?_⟩
          simp only [Act.put, List.setIfInBounds_toArray, List.set_cons_zero, List.set_cons_succ]
          refine wpG.done (by kernel_rfl) ?_ _
          have HLa6 : Hid (Ls U6 20 (.slice aa 0 ca) (A1.map ndC)) := HLa.out.after V56
          have HLv6 : Hid (Ls U6 20 v6 (A1.map ndC)) := Q6.ls
          have HM6 : Hid (New w U6) := (M5).trans V56
          clear V56 V6 Q6 V5 Q5 G5 hap L5
          go_wp2_with fail
          refine Calls.mono (HK1.out HLa6.out HLv6.out) ?_
          rintro _ U7 ⟨rfl, V7⟩
          go_wp2_with fail
          refine Calls.mono (HWK.out (HM6.out.trans V7)) ?_
          rintro _ U8 ⟨rfl, V8⟩
          go_wp2_with fail
          go_ret
          exact ⟨rfl, (HM6.out.trans V7).trans V8⟩
      · have hz6 := run_buildOne (P := Tryd.prog) WX 26 25 (prC p).toArray _ _ _ Tryd.underlying26 info52 rfl (by decide) (by decide)
        have R46 := Row.new WX (prC p).toArray 25
        have T6 : New WX (WX.alloc (.cells (prC p).toArray 25)) := (New.refl _).alloc _
        generalize WX.alloc (.cells (prC p).toArray 25) = X6 at hz6 R46 T6
        have N6x := NX.trans T6
        refine wpOp_run (some 59) (.slice (some ⟨WX.heap.size, 0, none⟩) 1 1) X6 (by rfl) (by rfl) (by rfl) (exec_buildSlice (by rfl) (by rfl) hz6) ⟨fun _ => N6x, ?_⟩
        simp only [Act.put, List.setIfInBounds_toArray, List.set_cons_zero, List.set_cons_succ]
        generalize WX.heap.size = g4 at *
        refine wpG.one 0 (by kernel_rfl) ?_
        have hz7 := run_buildNone X6 26 25 _ _ _ Tryd.underlying26 info52
        have R07 := Row.new X6 #[] 25
        have T7 : New X6 (X6.alloc (.cells #[] 25)) := (New.refl _).alloc _
        have hg7 := N6x.size
        generalize X6.alloc (.cells #[] 25) = X7 at hz7 R07 T7
        have N7x := N6x.trans T7
        have R47 := R46.after T7
        have hne7 : g4 ≠ X6.heap.size := by have := R46.lt; omega
        refine wpOp_run (some 55) (.slice (some ⟨X6.heap.size, 0, none⟩) 0 0) X7 (by rfl) (by rfl) (by rfl) (exec_buildNone (by rfl) hz7) ⟨fun _ => N7x, ?_⟩
        simp only [Act.put, List.setIfInBounds_toArray, List.set_cons_zero, List.set_cons_succ]
        generalize X6.heap.size = g0 at *
        refine wpG.one 2 (by kernel_rfl) ?_
        obtain ⟨v2, X8, hz8, Q8x, N8x, G8⟩ := run_copy_any (w := W5) (w1 := X7) 26 25 26 2 _ _ Tryd.underlying26 info52 rfl (by decide) (by decide) HPc.out (fun e he => by obtain ⟨q, _, rfl⟩ := List.mem_map.1 he; rfl) (fun e he => by obtain ⟨q, _, rfl⟩ := List.mem_map.1 he; exact prC_one q) (by rw [List.length_map]; omega) R07 N7x hg7
        have R48 := R47.of (G8.block g4 R47.lt (fun e => hne7 (by injection e)))
        refine wpOp_run (some 57) v2 X8 (by rfl) (by rfl) (by rfl) (exec_append (by rfl) (by rfl) (by rfl) hz8) ⟨fun _ => N8x, ?_⟩
        simp only [Act.put, List.setIfInBounds_toArray, List.set_cons_zero, List.set_cons_succ]
        refine wpG.one 5 (by kernel_rfl) ?_
        obtain ⟨g5, c5, U5, hap, Q5, G5⟩ := run_append_pl Q8x 26 26 Tryd.underlying26 _ _ info52 rfl (by decide) g4 (prC p) 25 R48 rfl (prC_one _) (by rw [List.length_map]; omega) (by decide)
        have V5 : New W5 U5 := N8x.grown G5 (fun b hb => Q8x.foot b hb)
        rw [List.length_map] at hap Q5
        refine wpOp_run (some 60) _ U5 (by rfl) (by rfl) (by rfl) (exec_append (by rfl) (by rfl) (by rfl) hap) ⟨fun _ => V5, ?_⟩
        simp only [Act.put, List.setIfInBounds_toArray, List.set_cons_zero, List.set_cons_succ]
        have L5 : Ls U5 2 (.slice (some ⟨g5, 0, none⟩) (l.length + 1) c5) ((l ++ [p]).map prC) := by
          rw [List.map_append]; exact Q5.ls
        refine wpG.one 6 (by kernel_rfl) ?_
        refine wpOp_call (some 61) 13 #[.slice none 0 0, .slice (some ⟨g5, 0, none⟩) (l.length + 1) c5] (by rfl) (by rfl) (by rfl) (by go_simp) ?_
        refine Calls.mono (HAL.out ((M5).trans V5) L5) ?_
        rintro _ U6 ⟨v6, rfl, Q6, V6⟩
        have V56 := V5.trans V6
        refine ⟨_, rfl, fun _ => V56, ?_⟩
        simp only [Act.put, List.setIfInBounds_toArray, List.set_cons_zero, List.set_cons_succ]
        refine wpG.one 7 (by kernel_rfl) ?_
        refine wpOp_run (some 54) (.tuple #[v6, .int .i64 10]) U6 (by rfl) (by rfl) (by rfl) (by go_simp) ⟨fun _ => V56, ?_⟩
        simp only [Act.put, List.setIfInBounds_toArray, List.set_cons_zero, List.set_cons_succ]
        refine wpG.take (i := 8) (some 62) (v := v6) (by rfl) (by kernel_rfl) (by intro _ _ _ h; exact h) (by rfl) (by rfl) V56 (fun W _ => by go_simp) ?_
        simp only [Act.put, List.setIfInBounds_toArray, List.set_cons_zero, List.set_cons_succ]
        refine wpG.take (i := 9) (some 63) (v := .int .i64 10) (by rfl) (by kernel_rfl) (by intro _ _ _ h; exact h) (by rfl) (by rfl) V56 (fun W _ => by go_simp) ?_
        simp only [Act.put, List.setIfInBounds_toArray, List.set_cons_zero, List.set_cons_succ]
        refine wpG.one 10 (by kernel_rfl) ?_
        refine wpOp_run (some 9) v6 U6 (by rfl) (by rfl) (by rfl) (by go_simp) ⟨fun _ => V56, ?_⟩
        simp only [Act.put, List.setIfInBounds_toArray, List.set_cons_zero, List.set_cons_succ]
        refine wpG.one 11 (by kernel_rfl) ?_
        refine wpOp_run (some 10) (.int .i64 10) U6 (by rfl) (by rfl) (by rfl) (by go_simp) ⟨fun h => absurd rfl h, ?_⟩
        simp only [Act.put, List.setIfInBounds_toArray, List.set_cons_zero, List.set_cons_succ]
        refine wpG.done (by kernel_rfl) ?_ _
        have HLa6 : Hid (Ls U6 20 (.slice aa 0 ca) (A1.map ndC)) := HLa.out.after V56
        have HLv6 : Hid (Ls U6 20 v6 (A1.map ndC)) := Q6.ls
        have HM6 : Hid (New w U6) := (M5).trans V56
        clear V56 V6 Q6 V5 Q5 G5 hap L5
        go_wp2_with fail
        refine Calls.mono (HK1.out HLa6.out HLv6.out) ?_
        rintro _ U7 ⟨rfl, V7⟩
        go_wp2_with fail
        refine Calls.mono (HWK.out (HM6.out.trans V7)) ?_
        rintro _ U8 ⟨rfl, V8⟩
        go_wp2_with fail
        go_ret
        exact ⟨rfl, (HM6.out.trans V7).trans V8⟩
    · have h16b : decide ((16 : Int) < ((bs p.2).size : Int)) = false := decide_eq_false (by omega)
      rw [hke3 rfl h16] at HOF HAL hnil hpos
      have hz := hpos rfl
      have hzb : decide ((0 : Int) < (L1 : Int)) = true := decide_eq_true (by omega)
      clear hke hke2 hke3 hkb hsz hpos hnil h16
      go_enter Tryd.func7, Tryd.ntmps7
      go_wp2_with (first
        | (refine wpList_box_at (by rfl) 3 (by rfl) 25 _ (by rfl) (prC p).toArray (by rfl) ?_; intro W0 R0 N0))
      have y0 := R0.has 0 (v := .string (bs p.1)) rfl
      have y1 := R0.has 1 (v := .string (bs p.2)) rfl
      go_wp2_with fail
      refine Calls.mono (hlp (N0)) ?_
      rintro _ W1 ⟨rfl, N1⟩
      have M1 : New w W1 := (N0).trans N1
      have R1p := R0.after N1
      clear y0 y1
      have y0 := R1p.has 0 (v := .string (bs p.1)) rfl
      have y1 := R1p.has 1 (v := .string (bs p.2)) rfl
      clear hlp
      go_wp2_with fail
      refine Calls.mono (hmay (M1)) ?_
      rintro _ W2 ⟨rfl, N2⟩
      have M2 : New w W2 := (M1).trans N2
      have R2p := R1p.after N2
      clear y0 y1
      have y0 := R2p.has 0 (v := .string (bs p.1)) rfl
      have y1 := R2p.has 1 (v := .string (bs p.2)) rfl
      clear hmay
      go_wp2_with fail
      refine Calls.mono (hky W2) ?_
      rintro _ W2 ⟨rfl, rfl⟩
      clear hky
      go_wp2_with fail
      refine Calls.mono (HBU.out M2) ?_
      rintro _ W4 ⟨a, n, c, a2, n2, c2, rfl, PT, _, N4⟩
      have M4 : New w W4 := (M2).trans N4
      have R4p := R2p.after N4
      clear y0 y1
      have y0 := R4p.has 0 (v := .string (bs p.1)) rfl
      have y1 := R4p.has 1 (v := .string (bs p.2)) rfl
      clear HBU
      have HPT : Hid (Ls W4 20 (.slice a n c) (t.map ndC)) := PT
      have hf := hfd a n c a2 n2 c2 true
      clear PT hfd
      go_wp2_with fail
      refine Calls.mono (HOF.out M4 HPT.out) ?_
      rintro _ W5 ⟨va, rfl, Qa, N5⟩
      have M5 : New w W5 := (M4).trans N5
      have R5p := R4p.after N5
      clear y0 y1
      have y0 := R5p.has 0 (v := .string (bs p.1)) rfl
      have y1 := R5p.has 1 (v := .string (bs p.2)) rfl
      have La := Qa.ls
      obtain ⟨aa, ca, e⟩ := La.size
      rw [List.length_map, HL1.out] at e
      subst e
      have HLa : Hid (Ls W5 20 (.slice aa L1 ca) (A1.map ndC)) := La
      clear HOF Qa La HPT
      go_upto_region 10 with fail
      have RP := R5p
      refine region_reads [1, 3] 10 11 (fun w' => New W5 w') (New.drew W5) (by kernel_rfl) (by kernel_rfl) (fun d _ _ _ _ h => by cases d <;> exact h) ?_
      simp only [pick, List.getElem?_cons_succ, List.getElem?_cons_zero, Option.toList_some, List.cons_append, List.nil_append]
      refine wpQuiet_run (by rfl) (.slice al l.length cl) (fun W _ => by go_simp) ?_
      simp only [Act.put, List.setIfInBounds_toArray, List.set_cons_zero, List.set_cons_succ]
      refine wpQuiet_run (by rfl) (.agg (prC p).toArray) (fun W hW => exec_load (by rfl) w.heap.size 0 (by rfl) (prC p) (pr_range (RP.after hW)) _ Tryd.underlying25 rfl i52) ?_
      simp only [Act.put, List.setIfInBounds_toArray, List.set_cons_zero, List.set_cons_succ]
      refine wpQuiet_nil ?_
      have HPc : Hid (Ls W5 2 (.slice al l.length cl) (l.map prC)) := HP.out.after M5
      have NX := New.drew W5
      generalize hWX : W5.drew = WX at NX ⊢
      clear hWX y0 y1
      refine wpG.two 0 4 (by kernel_rfl) ?_ ?_
      · have hz1 := run_buildNone WX 26 25 _ _ _ Tryd.underlying26 info52
        have R01 := Row.new WX #[] 25
        have T1 : New WX (WX.alloc (.cells #[] 25)) := (New.refl _).alloc _
        have hg1 := NX.size
        generalize WX.alloc (.cells #[] 25) = X1 at hz1 R01 T1
        have N1x := NX.trans T1
        refine wpOp_run (some 55) (.slice (some ⟨WX.heap.size, 0, none⟩) 0 0) X1 (by rfl) (by rfl) (by rfl) (exec_buildNone (by rfl) hz1) ⟨fun _ => N1x, ?_⟩
        simp only [Act.put, List.setIfInBounds_toArray, List.set_cons_zero, List.set_cons_succ]
        generalize WX.heap.size = g0 at *
        refine wpG.two 2 4 (by kernel_rfl) ?_ ?_
        · obtain ⟨v2, X2, hz2, Q2x, N2x, G2⟩ := run_copy_any (w := W5) (w1 := X1) 26 25 26 2 _ _ Tryd.underlying26 info52 rfl (by decide) (by decide) HPc.out (fun e he => by obtain ⟨q, _, rfl⟩ := List.mem_map.1 he; rfl) (fun e he => by obtain ⟨q, _, rfl⟩ := List.mem_map.1 he; exact prC_one q) (by rw [List.length_map]; omega) R01 N1x hg1
          refine wpOp_run (some 57) v2 X2 (by rfl) (by rfl) (by rfl) (exec_append (by rfl) (by rfl) (by rfl) hz2) ⟨fun _ => N2x, ?_⟩
          simp only [Act.put, List.setIfInBounds_toArray, List.set_cons_zero, List.set_cons_succ]
          refine wpG.one 4 (by kernel_rfl) ?_
          have hz3 := run_buildOne (P := Tryd.prog) X2 26 25 (prC p).toArray _ _ _ Tryd.underlying26 info52 rfl (by decide) (by decide)
          have R43 := Row.new X2 (prC p).toArray 25
          have T3 : New X2 (X2.alloc (.cells (prC p).toArray 25)) := (New.refl _).alloc _
          generalize X2.alloc (.cells (prC p).toArray 25) = X3 at hz3 R43 T3
          have N3x := N2x.trans T3
          have Q3x := Q2x.after T3
          refine wpOp_run (some 59) (.slice (some ⟨X2.heap.size, 0, none⟩) 1 1) X3 (by rfl) (by rfl) (by rfl) (exec_buildSlice (by rfl) (by rfl) hz3) ⟨fun _ => N3x, ?_⟩
          simp only [Act.put, List.setIfInBounds_toArray, List.set_cons_zero, List.set_cons_succ]
          generalize X2.heap.size = g4 at *
          refine wpG.one 5 (by kernel_rfl) ?_
          obtain ⟨g5, c5, U5, hap, Q5, G5⟩ := run_append_pl Q3x 26 26 Tryd.underlying26 _ _ info52 rfl (by decide) g4 (prC p) 25 R43 rfl (prC_one _) (by rw [List.length_map]; omega) (by decide)
          have V5 : New W5 U5 := N3x.grown G5 (fun b hb => Q3x.foot b hb)
          rw [List.length_map] at hap Q5
          refine wpOp_run (some 60) _ U5 (by rfl) (by rfl) (by rfl) (exec_append (by rfl) (by rfl) (by rfl) hap) ⟨fun _ => V5, ?_⟩
          simp only [Act.put, List.setIfInBounds_toArray, List.set_cons_zero, List.set_cons_succ]
          have L5 : Ls U5 2 (.slice (some ⟨g5, 0, none⟩) (l.length + 1) c5) ((l ++ [p]).map prC) := by
            rw [List.map_append]; exact Q5.ls
          refine wpG.one 6 (by kernel_rfl) ?_
          refine wpOp_call (some 61) 13 #[.slice none 0 0, .slice (some ⟨g5, 0, none⟩) (l.length + 1) c5] (by rfl) (by rfl) (by rfl) (by go_simp) ?_
          refine Calls.mono (HAL.out ((M5).trans V5) L5) ?_
          rintro _ U6 ⟨v6, rfl, Q6, V6⟩
          have V56 := V5.trans V6
          refine ⟨_, rfl, fun _ => V56, ?_⟩
          simp only [Act.put, List.setIfInBounds_toArray, List.set_cons_zero, List.set_cons_succ]
          refine wpG.one 7 (by kernel_rfl) ?_
          refine wpOp_run (some 54) (.tuple #[v6, .int .i64 0]) U6 (by rfl) (by rfl) (by rfl) (by go_simp) ⟨fun _ => V56, ?_⟩
          simp only [Act.put, List.setIfInBounds_toArray, List.set_cons_zero, List.set_cons_succ]
          refine wpG.take (i := 8) (some 62) (v := v6) (by rfl) (by kernel_rfl) (by intro _ _ _ h; exact h) (by rfl) (by rfl) V56 (fun W _ => by go_simp) ?_
          simp only [Act.put, List.setIfInBounds_toArray, List.set_cons_zero, List.set_cons_succ]
          refine wpG.take (i := 9) (some 63) (v := .int .i64 0) (by rfl) (by kernel_rfl) (by intro _ _ _ h; exact h) (by rfl) (by rfl) V56 (fun W _ => by go_simp) ?_
          simp only [Act.put, List.setIfInBounds_toArray, List.set_cons_zero, List.set_cons_succ]
          refine wpG.one 10 (by kernel_rfl) ?_
          refine wpOp_run (some 9) v6 U6 (by rfl) (by rfl) (by rfl) (by go_simp) ⟨fun _ => V56, ?_⟩
          simp only [Act.put, List.setIfInBounds_toArray, List.set_cons_zero, List.set_cons_succ]
          refine wpG.one 11 (by kernel_rfl) ?_
          refine wpOp_run (some 10) (.int .i64 0) U6 (by rfl) (by rfl) (by rfl) (by go_simp) ⟨fun h => absurd rfl h, ?_⟩
          simp only [Act.put, List.setIfInBounds_toArray, List.set_cons_zero, List.set_cons_succ]
          refine wpG.done (by kernel_rfl) ?_ _
          have HLa6 : Hid (Ls U6 20 (.slice aa L1 ca) (A1.map ndC)) := HLa.out.after V56
          have HLv6 : Hid (Ls U6 20 v6 (A1.map ndC)) := Q6.ls
          have HM6 : Hid (New w U6) := (M5).trans V56
          clear V56 V6 Q6 V5 Q5 G5 hap L5
          go_wp2_with fail
          refine Calls.mono (HK1.out HLa6.out HLv6.out) ?_
          rintro _ U7 ⟨rfl, V7⟩
          go_wp2_with fail
          refine Calls.mono (HWK.out (HM6.out.trans V7)) ?_
          rintro _ U8 ⟨rfl, V8⟩
          go_wp2_with fail
          go_ret
          exact ⟨rfl, (HM6.out.trans V7).trans V8⟩
        · have hz4 := run_buildOne (P := Tryd.prog) X1 26 25 (prC p).toArray _ _ _ Tryd.underlying26 info52 rfl (by decide) (by decide)
          have R44 := Row.new X1 (prC p).toArray 25
          have T4 : New X1 (X1.alloc (.cells (prC p).toArray 25)) := (New.refl _).alloc _
          generalize X1.alloc (.cells (prC p).toArray 25) = X4 at hz4 R44 T4
          have N4x := N1x.trans T4
          have R04 := R01.after T4
          have hne4 : X1.heap.size ≠ g0 := by have := R01.lt; omega
          refine wpOp_run (some 59) (.slice (some ⟨X1.heap.size, 0, none⟩) 1 1) X4 (by rfl) (by rfl) (by rfl) (exec_buildSlice (by rfl) (by rfl) hz4) ⟨fun _ => N4x, ?_⟩
          simp only [Act.put, List.setIfInBounds_toArray, List.set_cons_zero, List.set_cons_succ]
          generalize X1.heap.size = g4 at *
          refine wpG.one 2 (by kernel_rfl) ?_
          obtain ⟨v2, X5, hz5, Q5x, N5x, G5⟩ := run_copy_any (w := W5) (w1 := X4) 26 25 26 2 _ _ Tryd.underlying26 info52 rfl (by decide) (by decide) HPc.out (fun e he => by obtain ⟨q, _, rfl⟩ := List.mem_map.1 he; rfl) (fun e he => by obtain ⟨q, _, rfl⟩ := List.mem_map.1 he; exact prC_one q) (by rw [List.length_map]; omega) R04 N4x hg1
          have R45 := R44.of (G5.block g4 R44.lt (fun e => hne4 (by injection e)))
          refine wpOp_run (some 57) v2 X5 (by rfl) (by rfl) (by rfl) (exec_append (by rfl) (by rfl) (by rfl) hz5) ⟨fun _ => N5x, ?_⟩
          simp only [Act.put, List.setIfInBounds_toArray, List.set_cons_zero, List.set_cons_succ]
          refine wpG.one 5 (by kernel_rfl) ?_
          obtain ⟨g5, c5, U5, hap, Q5, G5⟩ := run_append_pl Q5x 26 26 Tryd.underlying26 _ _ info52 rfl (by decide) g4 (prC p) 25 R45 rfl (prC_one _) (by rw [List.length_map]; omega) (by decide)
          have V5 : New W5 U5 := N5x.grown G5 (fun b hb => Q5x.foot b hb)
          rw [List.length_map] at hap Q5
          refine wpOp_run (some 60) _ U5 (by rfl) (by rfl) (by rfl) (exec_append (by rfl) (by rfl) (by rfl) hap) ⟨fun _ => V5, ?_⟩
          simp only [Act.put, List.setIfInBounds_toArray, List.set_cons_zero, List.set_cons_succ]
          have L5 : Ls U5 2 (.slice (some ⟨g5, 0, none⟩) (l.length + 1) c5) ((l ++ [p]).map prC) := by
            rw [List.map_append]; exact Q5.ls
          refine wpG.one 6 (by kernel_rfl) ?_
          refine wpOp_call (some 61) 13 #[.slice none 0 0, .slice (some ⟨g5, 0, none⟩) (l.length + 1) c5] (by rfl) (by rfl) (by rfl) (by go_simp) ?_
          refine Calls.mono (HAL.out ((M5).trans V5) L5) ?_
          rintro _ U6 ⟨v6, rfl, Q6, V6⟩
          have V56 := V5.trans V6
          refine ⟨_, rfl, fun _ => V56, ?_⟩
          simp only [Act.put, List.setIfInBounds_toArray, List.set_cons_zero, List.set_cons_succ]
          refine wpG.one 7 (by kernel_rfl) ?_
          refine wpOp_run (some 54) (.tuple #[v6, .int .i64 0]) U6 (by rfl) (by rfl) (by rfl) (by go_simp) ⟨fun _ => V56, ?_⟩
          simp only [Act.put, List.setIfInBounds_toArray, List.set_cons_zero, List.set_cons_succ]
          refine wpG.take (i := 8) (some 62) (v := v6) (by rfl) (by kernel_rfl) (by intro _ _ _ h; exact h) (by rfl) (by rfl) V56 (fun W _ => by go_simp) ?_
          simp only [Act.put, List.setIfInBounds_toArray, List.set_cons_zero, List.set_cons_succ]
          refine wpG.take (i := 9) (some 63) (v := .int .i64 0) (by rfl) (by kernel_rfl) (by intro _ _ _ h; exact h) (by rfl) (by rfl) V56 (fun W _ => by go_simp) ?_
          simp only [Act.put, List.setIfInBounds_toArray, List.set_cons_zero, List.set_cons_succ]
          refine wpG.one 10 (by kernel_rfl) ?_
          refine wpOp_run (some 9) v6 U6 (by rfl) (by rfl) (by rfl) (by go_simp) ⟨fun _ => V56, ?_⟩
          simp only [Act.put, List.setIfInBounds_toArray, List.set_cons_zero, List.set_cons_succ]
          refine wpG.one 11 (by kernel_rfl) ?_
          refine wpOp_run (some 10) (.int .i64 0) U6 (by rfl) (by rfl) (by rfl) (by go_simp) ⟨fun h => absurd rfl h, ?_⟩
          simp only [Act.put, List.setIfInBounds_toArray, List.set_cons_zero, List.set_cons_succ]
          refine wpG.done (by kernel_rfl) ?_ _
          have HLa6 : Hid (Ls U6 20 (.slice aa L1 ca) (A1.map ndC)) := HLa.out.after V56
          have HLv6 : Hid (Ls U6 20 v6 (A1.map ndC)) := Q6.ls
          have HM6 : Hid (New w U6) := (M5).trans V56
          clear V56 V6 Q6 V5 Q5 G5 hap L5
          go_wp2_with fail
          refine Calls.mono (HK1.out HLa6.out HLv6.out) ?_
          rintro _ U7 ⟨rfl, V7⟩
          go_wp2_with fail
          refine Calls.mono (HWK.out (HM6.out.trans V7)) ?_
          rintro _ U8 ⟨rfl, V8⟩
          go_wp2_with fail
          go_ret
          exact ⟨rfl, (HM6.out.trans V7).trans V8⟩
      · have hz6 := run_buildOne (P := Tryd.prog) WX 26 25 (prC p).toArray _ _ _ Tryd.underlying26 info52 rfl (by decide) (by decide)
        have R46 := Row.new WX (prC p).toArray 25
        have T6 : New WX (WX.alloc (.cells (prC p).toArray 25)) := (New.refl _).alloc _
        generalize WX.alloc (.cells (prC p).toArray 25) = X6 at hz6 R46 T6
        have N6x := NX.trans T6
        refine wpOp_run (some 59) (.slice (some ⟨WX.heap.size, 0, none⟩) 1 1) X6 (by rfl) (by rfl) (by rfl) (exec_buildSlice (by rfl) (by rfl) hz6) ⟨fun _ => N6x, ?_⟩
        simp only [Act.put, List.setIfInBounds_toArray, List.set_cons_zero, List.set_cons_succ]
        generalize WX.heap.size = g4 at *
        refine wpG.one 0 (by kernel_rfl) ?_
        have hz7 := run_buildNone X6 26 25 _ _ _ Tryd.underlying26 info52
        have R07 := Row.new X6 #[] 25
        have T7 : New X6 (X6.alloc (.cells #[] 25)) := (New.refl _).alloc _
        have hg7 := N6x.size
        generalize X6.alloc (.cells #[] 25) = X7 at hz7 R07 T7
        have N7x := N6x.trans T7
        have R47 := R46.after T7
        have hne7 : g4 ≠ X6.heap.size := by have := R46.lt; omega
        refine wpOp_run (some 55) (.slice (some ⟨X6.heap.size, 0, none⟩) 0 0) X7 (by rfl) (by rfl) (by rfl) (exec_buildNone (by rfl) hz7) ⟨fun _ => N7x, ?_⟩
        simp only [Act.put, List.setIfInBounds_toArray, List.set_cons_zero, List.set_cons_succ]
        generalize X6.heap.size = g0 at *
        refine wpG.one 2 (by kernel_rfl) ?_
        obtain ⟨v2, X8, hz8, Q8x, N8x, G8⟩ := run_copy_any (w := W5) (w1 := X7) 26 25 26 2 _ _ Tryd.underlying26 info52 rfl (by decide) (by decide) HPc.out (fun e he => by obtain ⟨q, _, rfl⟩ := List.mem_map.1 he; rfl) (fun e he => by obtain ⟨q, _, rfl⟩ := List.mem_map.1 he; exact prC_one q) (by rw [List.length_map]; omega) R07 N7x hg7
        have R48 := R47.of (G8.block g4 R47.lt (fun e => hne7 (by injection e)))
        refine wpOp_run (some 57) v2 X8 (by rfl) (by rfl) (by rfl) (exec_append (by rfl) (by rfl) (by rfl) hz8) ⟨fun _ => N8x, ?_⟩
        simp only [Act.put, List.setIfInBounds_toArray, List.set_cons_zero, List.set_cons_succ]
        refine wpG.one 5 (by kernel_rfl) ?_
        obtain ⟨g5, c5, U5, hap, Q5, G5⟩ := run_append_pl Q8x 26 26 Tryd.underlying26 _ _ info52 rfl (by decide) g4 (prC p) 25 R48 rfl (prC_one _) (by rw [List.length_map]; omega) (by decide)
        have V5 : New W5 U5 := N8x.grown G5 (fun b hb => Q8x.foot b hb)
        rw [List.length_map] at hap Q5
        refine wpOp_run (some 60) _ U5 (by rfl) (by rfl) (by rfl) (exec_append (by rfl) (by rfl) (by rfl) hap) ⟨fun _ => V5, ?_⟩
        simp only [Act.put, List.setIfInBounds_toArray, List.set_cons_zero, List.set_cons_succ]
        have L5 : Ls U5 2 (.slice (some ⟨g5, 0, none⟩) (l.length + 1) c5) ((l ++ [p]).map prC) := by
          rw [List.map_append]; exact Q5.ls
        refine wpG.one 6 (by kernel_rfl) ?_
        refine wpOp_call (some 61) 13 #[.slice none 0 0, .slice (some ⟨g5, 0, none⟩) (l.length + 1) c5] (by rfl) (by rfl) (by rfl) (by go_simp) ?_
        refine Calls.mono (HAL.out ((M5).trans V5) L5) ?_
        rintro _ U6 ⟨v6, rfl, Q6, V6⟩
        have V56 := V5.trans V6
        refine ⟨_, rfl, fun _ => V56, ?_⟩
        simp only [Act.put, List.setIfInBounds_toArray, List.set_cons_zero, List.set_cons_succ]
        refine wpG.one 7 (by kernel_rfl) ?_
        refine wpOp_run (some 54) (.tuple #[v6, .int .i64 0]) U6 (by rfl) (by rfl) (by rfl) (by go_simp) ⟨fun _ => V56, ?_⟩
        simp only [Act.put, List.setIfInBounds_toArray, List.set_cons_zero, List.set_cons_succ]
        refine wpG.take (i := 8) (some 62) (v := v6) (by rfl) (by kernel_rfl) (by intro _ _ _ h; exact h) (by rfl) (by rfl) V56 (fun W _ => by go_simp) ?_
        simp only [Act.put, List.setIfInBounds_toArray, List.set_cons_zero, List.set_cons_succ]
        refine wpG.take (i := 9) (some 63) (v := .int .i64 0) (by rfl) (by kernel_rfl) (by intro _ _ _ h; exact h) (by rfl) (by rfl) V56 (fun W _ => by go_simp) ?_
        simp only [Act.put, List.setIfInBounds_toArray, List.set_cons_zero, List.set_cons_succ]
        refine wpG.one 10 (by kernel_rfl) ?_
        refine wpOp_run (some 9) v6 U6 (by rfl) (by rfl) (by rfl) (by go_simp) ⟨fun _ => V56, ?_⟩
        simp only [Act.put, List.setIfInBounds_toArray, List.set_cons_zero, List.set_cons_succ]
        refine wpG.one 11 (by kernel_rfl) ?_
        refine wpOp_run (some 10) (.int .i64 0) U6 (by rfl) (by rfl) (by rfl) (by go_simp) ⟨fun h => absurd rfl h, ?_⟩
        simp only [Act.put, List.setIfInBounds_toArray, List.set_cons_zero, List.set_cons_succ]
        refine wpG.done (by kernel_rfl) ?_ _
        have HLa6 : Hid (Ls U6 20 (.slice aa L1 ca) (A1.map ndC)) := HLa.out.after V56
        have HLv6 : Hid (Ls U6 20 v6 (A1.map ndC)) := Q6.ls
        have HM6 : Hid (New w U6) := (M5).trans V56
        clear V56 V6 Q6 V5 Q5 G5 hap L5
        go_wp2_with fail
        refine Calls.mono (HK1.out HLa6.out HLv6.out) ?_
        rintro _ U7 ⟨rfl, V7⟩
        go_wp2_with fail
        refine Calls.mono (HWK.out (HM6.out.trans V7)) ?_
        rintro _ U8 ⟨rfl, V8⟩
        go_wp2_with fail
        go_ret
        exact ⟨rfl, (HM6.out.trans V7).trans V8⟩
end Go.Proofs.YtjpjcojabjkaaaaDoor
