/-
  GetPairs's walk: whatever pairs and key, the call returns true, where the table of upper halves lies as its initialiser lays it. GetWay's walk: whatever pairs and key, the call returns true, where the table of upper halves lies as its initialiser lays it.
-/
import Derived.Test.YtimmbnipagnbfaaDoorGar
namespace Go.Proofs.YtimmbnipagnbfaaDoor
open Go.RowKit
set_option maxRecDepth 20000
set_option linter.unusedVariables false

def inB (l : List Pr) (key : Bt) : Bool := l.any fun p => decide (p.1 = key)
theorem look_in (l : List Pr) (key : Bt) : (lookL l key).isSome = inB l key := by
  induction l with
  | nil => rfl
  | cons p l ih =>
    rw [look_cons]
    unfold inB at ih ⊢
    rw [List.any_cons]
    by_cases h : p.1 = key
    · rw [if_pos h, decide_eq_true h]; rfl
    · rw [if_neg h, decide_eq_false h, Bool.false_or]; exact ih
theorem in_more {l : List Pr} {k : Nat} (hk : k < l.length) (key : Bt) : inB (l.take (k + 1)) key = (inB (l.take k) key || decide ((l.getD k ([], [])).1 = key)) := by
  unfold inB
  rw [List.take_add_one, getD_some (d := ([], [])) hk, List.any_append]
  simp
theorem ok_build {l : List Pr} (h : mayB l = true) : okT (buildN l) = true := by
  unfold okT
  rw [readF_iff.2 ⟨h, rfl, rfl⟩]; rfl
theorem rL_build {l : List Pr} (h : mayB l = true) : rL (buildN l) = l := by
  unfold rL
  rw [readF_iff.2 ⟨h, rfl, rfl⟩]
theorem bX_build {l : List Pr} (h : mayB l = true) : bX l = buildN l := by unfold bX; rw [h, if_pos rfl]
theorem okP_keyOk {p : Pr} (h : okP p = true) : keyOk p.1 = true := by
  obtain ⟨h1, h2, _⟩ := okP_key p h
  unfold keyOk; rw [decide_eq_true h1, decide_eq_true h2]; rfl
theorem err_build {l : List Pr} (h : mayB l = true) (key : Bt) : errN (buildN l) key = if keyOk key = false then 9 else 0 := by
  unfold errN; rw [ok_build h, if_neg (by simp)]
theorem ofK_pair {l : List Pr} (h : mayB l = true) {p : Pr} (hp : p ∈ l) : ofK (buildN l) p.1 = some p.2 ∧ errN (buildN l) p.1 = 0 := by
  have hk := okP_keyOk ((mayB_rise l h).2 p hp)
  refine ⟨?_, by rw [err_build h, hk]; rfl⟩
  rw [ofK_look (ok_build h) hk, rL_build h]
  exact (look_some h).2 hp

set_option maxHeartbeats 16000000 in
theorem getPairs_any {w : World} {v : Value} {l : List Pr} {s : ByteArray} (P : Ls w 2 v (l.map prC)) (hl : l.length ≤ maxLen) (hT : Tab w) :
    Calls Tryd.prog 4 #[v, .string s] w fun e w' => e = .returned (.bool true) ∧ New w w' := by
  unfold maxLen at hl
  obtain ⟨key, rfl⟩ : ∃ key, s = bs key := ⟨L s, (bs_L s).symm⟩
  have hlp := longPairs_any P (by omega)
  have HT : Hid (Tab w) := hT
  have HP : Hid (Ls w 2 v (l.map prC)) := P
  have hwk := fun {W : World} (n : New w W) => wakes_any W (HT.out.kept n)
  obtain ⟨b1, hb1⟩ : ∃ b, longB lenP 3000 ([], []) l = b := ⟨_, rfl⟩
  rw [hb1] at hlp
  have HB1 : Hid (longB lenP 3000 ([], []) l = b1) := hb1
  clear hb1 P hT
  cases b1
  case true =>
    go_enter Tryd.func4, Tryd.ntmps4
    go_wp2_with fail
    refine Calls.mono hlp ?_
    rintro _ W1 ⟨rfl, N1⟩
    clear hlp
    go_wp2_with fail
    refine Calls.mono (hwk N1) ?_
    rintro _ W2 ⟨rfl, N2⟩
    go_wp2_with fail
    go_ret
    exact ⟨rfl, N1.trans N2⟩
  obtain ⟨hs1, hs2⟩ := prs_of HB1.out
  obtain ⟨mb, hmb⟩ : ∃ b, mayB l = b := ⟨_, rfl⟩
  have hmay := fun {w1 : World} (n : New w w1) => refMay_any (HP.out.after n) (by omega) hs2
  rw [hmb] at hmay
  cases mb
  case false =>
    clear hs2 hmb
    go_enter Tryd.func4, Tryd.ntmps4
    go_wp2_with fail
    refine Calls.mono hlp ?_
    rintro _ W1 ⟨rfl, N1⟩
    clear hlp
    go_wp2_with fail
    refine Calls.mono (hmay N1) ?_
    rintro _ W2 ⟨rfl, N2⟩
    clear hmay
    go_wp2_with fail
    refine Calls.mono (hwk (N1.trans N2)) ?_
    rintro _ W3 ⟨rfl, N3⟩
    go_wp2_with fail
    go_ret
    exact ⟨rfl, (N1.trans N2).trans N3⟩
  have HMB : Hid (mayB l = true) := hmb
  have hbu := fun {W : World} (n : New w W) => r_build (HP.out.after n) (by omega) hs2
  rw [hmb, bX_build hmb] at hbu
  have HS : Hid (∀ p ∈ l, p.1.length ≤ 4000 ∧ p.2.length ≤ 4000) := hs2
  have HK : Hid (TOk (buildN l)) := build_ok hmb (by omega)
  have HPR : Hid (∀ p ∈ l, ofK (buildN l) p.1 = some p.2 ∧ errN (buildN l) p.1 = 0) := fun p hp => ofK_pair hmb hp
  have HER : Hid (errN (buildN l) key = if keyOk key = false then 9 else 0) := err_build hmb key
  have HNO : Hid (keyOk key = false → ofK (buildN l) key = none) := fun h => by unfold ofK; rw [if_neg (by rw [h]; rintro ⟨_, h⟩; cases h)]
  have HYES : Hid (keyOk key = true → (ofK (buildN l) key).isSome = inB l key) := fun h => by rw [ofK_look (ok_build hmb) h, rL_build hmb, look_in]
  have hfd := field_T
  clear hs2 hmb
  generalize buildN l = t at *
  go_enter Tryd.func4, Tryd.ntmps4
  go_wp2_with fail
  refine Calls.mono hlp ?_
  rintro _ W1 ⟨rfl, N1⟩
  clear hlp
  go_wp2_with fail
  refine Calls.mono (hmay N1) ?_
  rintro _ W2 ⟨rfl, N2⟩
  clear hmay
  go_wp2_with fail
  refine Calls.mono (hbu (N1.trans N2)) ?_
  rintro _ W3 ⟨a, n, c, a2, n2, c2, rfl, PT, _, N3⟩
  clear hbu
  have M3 := (N1.trans N2).trans N3
  have hf := hfd a n c a2 n2 c2 true
  have HPT : Hid (Ls W3 20 (.slice a n c) (t.map ndC)) := PT
  have hof := fun (k : Bt) {W : World} (N : New W3 W) => of_any12 (HPT.out.after N) HK.out (HT.out.kept (M3.trans N)) k
  clear hfd PT N1 N2 N3
  go_wp2_with fail
  obtain ⟨ga0, c0, rfl, hc0, HSL⟩ := HP.out.open ([], [])
  go_loopw [6, 7] (fun s6 s7 wr => ∃ k : Nat, k ≤ l.length ∧ s6 = .bool (inB (l.take k) key) ∧ s7 = .int .i64 (k : Int) ∧ New W3 wr) (fun _ s7 _ => l.length - (intOf s7).toNat)
  case atStart => exact ⟨0, by omega, rfl, rfl, New.refl _⟩
  case round =>
    obtain ⟨k, hk, rfl, rfl, N⟩ := hrel
    by_cases hlt : k < l.length
    · obtain ⟨ga, oa, rfl, hga, hra⟩ := HSL.out (by omega)
      have hr := hra _ (M3.trans N) k hlt
      have ca := hr 0 _ rfl
      have hin := in_more hlt key
      have hpm := getD_mem (d := (([], []) : Pr)) hlt
      have hra' := fun W n => hra W n k hlt 1 _ rfl
      have hra0 := fun W n => hra W n k hlt 0 _ rfl
      obtain ⟨p, hpp⟩ : ∃ p, l.getD k ([], []) = p := ⟨_, rfl⟩
      rw [hpp] at ca hin hpm hra' hra0
      rw [Nat.add_zero] at ca hra0
      have ho := hof p.1 N
      rw [(HPR.out p hpm).1, (HPR.out p hpm).2] at ho
      have HIN : Hid (inB (l.take (k + 1)) key = (inB (l.take k) key || decide (p.1 = key))) := hin
      have hkl : (k : Int) < (l.length : Int) := by omega
      obtain ⟨bi, hbi⟩ : ∃ b, inB (l.take k) key = b := ⟨_, rfl⟩
      rw [hbi] at HIN ⊢
      clear hra hr hpp hin hpm hbi
      go_wp2_with fail
      refine Calls.mono ho ?_
      rintro _ W4 ⟨rfl, N4⟩
      clear ho ca
      go_wp2_with (first
        | (refine wpList_alloc_at (by rfl) 8 (by rfl) 27 (by rfl) _ _ _ info27 ?_; intro Wa Ra Na)
        | (refine wpList_store_new (by rfl) 27 _ _ (by rfl) W4.heap.size (ansA (some p.2)) (by rfl) (by rfl) 27 _ Ra i27 rfl (ans_one _) ?_; intro W5 R5 B5; have N5 : New W4 W5 := B5.new Na (Nat.le_refl _)))
      have N35 := (N.trans N4).trans N5
      have q0 := NewW.cell (W := W5) (g := W4.heap.size) (o := 0) (v := .bool true) (R5.has 0 rfl)
      have q1 := NewW.cell (W := W5) (g := W4.heap.size) (o := 1) (v := .string (bs p.2)) (R5.has 1 rfl)
      have q2 := NewW.cell (W := W5) (g := ga) (o := oa + k * 2 + 1) (v := .string (bs p.2)) (hra' _ (M3.trans N35))
      have c0 := hra0
      have hne := NewW.ne W5
      have hbb : ((bs p.2).toList == (bs p.2).toList) = true := beq_self_eq_true _
      clear Ra Na B5 N5 R5 N4 hra' hra0
      generalize W4.heap.size = G at *
      refine region_new W5 (New.refl W5) (by kernel_rfl) (by kernel_rfl) ?_
      repeat (go_big_quiet_step (fail))
      refine wpQuiet_nil ?_
      rintro W6 ⟨⟨_, k6⟩, rfl⟩
      clear q0 q1 q2 hne
      have N36 := N35.trans k6
      have cc := c0 _ (M3.trans N36)
      clear c0
      by_cases he : p.1 = key
      · have hb : ((bs p.1).toList == (bs key).toList) = true := by rw [beq_bs, L_bs, L_bs]; exact decide_eq_true he
        have HI2 : Hid (inB (l.take (k + 1)) key = (bi || true)) := by show _ = _; rw [HIN.out, decide_eq_true he]
        clear he
        cases bi
        · go_wp2_with fail
          exact ⟨⟨k + 1, by omega, by rw [HI2.out]; rfl, by go_num, N36⟩, by simp [intOf]; omega⟩
        · go_wp2_with fail
          exact ⟨⟨k + 1, by omega, by rw [HI2.out]; rfl, by go_num, N36⟩, by simp [intOf]; omega⟩
      · have hb : ((bs p.1).toList == (bs key).toList) = false := by rw [beq_bs, L_bs, L_bs]; exact decide_eq_false he
        have HI2 : Hid (inB (l.take (k + 1)) key = (bi || false)) := by show _ = _; rw [HIN.out, decide_eq_false he]
        clear he
        cases bi
        · go_wp2_with fail
          exact ⟨⟨k + 1, by omega, by rw [HI2.out]; rfl, by go_num, N36⟩, by simp [intOf]; omega⟩
        · go_wp2_with fail
          exact ⟨⟨k + 1, by omega, by rw [HI2.out]; rfl, by go_num, N36⟩, by simp [intOf]; omega⟩
    · have hkl : ¬ ((k : Int) < (l.length : Int)) := by omega
      have ho := hof key N
      have hky := fun W => key_any12 key W
      have HFULL : Hid (inB (l.take k) key = inB l key) := by show _ = _; rw [List.take_of_length_le (by omega)]
      rw [HFULL.out]
      have her := HER.out
      cases hkk : keyOk key
      · rw [hkk, if_pos rfl] at her
        rw [HNO.out hkk, her] at ho
        rw [hkk] at hky
        have he := fun w => eq_ans none none w
        rw [decide_eq_true rfl] at he
        clear hkk her
        go_wp2_with fail
        refine Calls.mono ho ?_
        rintro _ W4 ⟨rfl, N4⟩
        clear ho
        go_wp2_with (first
          | (refine wpList_alloc_at (by rfl) 10 (by rfl) 27 (by rfl) _ _ _ info27 ?_; intro Wa Ra Na)
          | (refine wpList_store_new (by rfl) 27 _ _ (by rfl) W4.heap.size (ansA none) (by rfl) (by rfl) 27 _ Ra i27 rfl (ans_one _) ?_; intro W5 R5 B5; have N5 : New W4 W5 := B5.new Na (Nat.le_refl _)))
        have M5 := M3.trans ((N.trans N4).trans N5)
        refine Calls.mono (hky _) ?_
        rintro _ W6 ⟨rfl, rfl⟩
        go_wp2_with (first
          | refine wpList_load_want (by rfl) 27 _ (by rfl) W4.heap.size (by rfl) 27 (ansA none) _ R5 Tryd.underlying27 rfl i27 ?_
          | refine wpList_run_want (by rfl) (.agg (ansA none)) _ (exec_build0 (by rfl) (run_build _ 27 _ _ built27)) ?_)
        refine Calls.mono (hwk M5) ?_
        rintro _ W7 ⟨rfl, N7⟩
        go_wp2_with fail
        go_ret
        exact ⟨rfl, M5.trans N7⟩
      · rw [hkk, if_neg (by simp)] at her
        rw [her] at ho
        rw [hkk] at hky
        have hyes := HYES.out hkk
        obtain ⟨ov, hov⟩ : ∃ o, ofK t key = o := ⟨_, rfl⟩
        rw [hov] at ho hyes
        rw [← hyes]
        clear hkk her hov hyes
        go_wp2_with fail
        refine Calls.mono ho ?_
        rintro _ W4 ⟨rfl, N4⟩
        clear ho
        go_wp2_with (first
          | (refine wpList_alloc_at (by rfl) 10 (by rfl) 27 (by rfl) _ _ _ info27 ?_; intro Wa Ra Na)
          | (refine wpList_store_new (by rfl) 27 _ _ (by rfl) W4.heap.size (ansA ov) (by rfl) (by rfl) 27 _ Ra i27 rfl (ans_one _) ?_; intro W5 R5 B5; have N5 : New W4 W5 := B5.new Na (Nat.le_refl _)))
        have M5 := M3.trans ((N.trans N4).trans N5)
        have y0 := R5.has 0 (v := .bool ov.isSome) rfl
        have hbe : (ov.isSome == ov.isSome) = true := beq_self_eq_true _
        refine Calls.mono (hky _) ?_
        rintro _ W6 ⟨rfl, rfl⟩
        go_wp2_with fail
        refine Calls.mono (hwk M5) ?_
        rintro _ W7 ⟨rfl, N7⟩
        go_wp2_with fail
        go_ret
        exact ⟨rfl, M5.trans N7⟩
end Go.Proofs.YtimmbnipagnbfaaDoor
namespace Go.Proofs.YtimmbnipagnbfaaDoor
open Go.RowKit
set_option maxRecDepth 20000
set_option linter.unusedVariables false

theorem wayT_rise {t : List Nd} (h : Lk t) (r : Bt) : (wayT t r).1.Pairwise (· < ·) := by
  unfold wayT
  split
  · exact List.Pairwise.nil
  · exact way_rise h (by omega)
theorem pair_at {w : List Nat} (h : w.Pairwise (· < ·)) {k : Nat} (hk : k + 1 < w.length) : w.getD k 0 < w.getD (k + 1) 0 := by
  rw [List.pairwise_iff_getElem] at h
  have := h k (k + 1) (by omega) hk (by omega)
  rw [List.getD_eq_getElem?_getD, List.getD_eq_getElem?_getD, List.getElem?_eq_getElem hk, List.getElem?_eq_getElem (by omega : k < w.length)]
  exact this

set_option maxHeartbeats 16000000 in
theorem getWay_any {w : World} {v : Value} {l : List Pr} {s : ByteArray} (P : Ls w 2 v (l.map prC)) (hl : l.length ≤ maxLen) (hT : Tab w) :
    Calls Tryd.prog 7 #[v, .string s] w fun e w' => e = .returned (.bool true) ∧ New w w' := by
  unfold maxLen at hl
  obtain ⟨key, rfl⟩ : ∃ key, s = bs key := ⟨L s, (bs_L s).symm⟩
  have hlp := longPairs_any P (by omega)
  have HT : Hid (Tab w) := hT
  have HP : Hid (Ls w 2 v (l.map prC)) := P
  have hwk := fun {W : World} (n : New w W) => wakes_any W (HT.out.kept n)
  have hky := fun W => key_any12 key W
  obtain ⟨b1, hb1⟩ : ∃ b, longB lenP 3000 ([], []) l = b := ⟨_, rfl⟩
  rw [hb1] at hlp
  have HB1 : Hid (longB lenP 3000 ([], []) l = b1) := hb1
  clear hb1 P hT
  cases b1
  case true =>
    go_enter Tryd.func7, Tryd.ntmps7
    go_wp2_with fail
    refine Calls.mono hlp ?_
    rintro _ W1 ⟨rfl, N1⟩
    clear hlp
    go_wp2_with fail
    refine Calls.mono (hwk N1) ?_
    rintro _ W2 ⟨rfl, N2⟩
    go_wp2_with fail
    go_ret
    exact ⟨rfl, N1.trans N2⟩
  obtain ⟨hs1, hs2⟩ := prs_of HB1.out
  obtain ⟨mb, hmb⟩ : ∃ b, mayB l = b := ⟨_, rfl⟩
  have hmay := fun {w1 : World} (n : New w w1) => refMay_any (HP.out.after n) (by omega) hs2
  rw [hmb] at hmay
  cases mb
  case false =>
    clear hs2 hmb
    go_enter Tryd.func7, Tryd.ntmps7
    go_wp2_with fail
    refine Calls.mono hlp ?_
    rintro _ W1 ⟨rfl, N1⟩
    clear hlp
    go_wp2_with fail
    refine Calls.mono (hmay N1) ?_
    rintro _ W2 ⟨rfl, N2⟩
    clear hmay
    go_wp2_with fail
    refine Calls.mono (hwk (N1.trans N2)) ?_
    rintro _ W3 ⟨rfl, N3⟩
    go_wp2_with fail
    go_ret
    exact ⟨rfl, (N1.trans N2).trans N3⟩
  obtain ⟨kk, hkk⟩ : ∃ b, keyOk key = b := ⟨_, rfl⟩
  rw [hkk] at hky
  cases kk
  case false =>
    clear hs2 hmb hkk
    go_enter Tryd.func7, Tryd.ntmps7
    go_wp2_with fail
    refine Calls.mono hlp ?_
    rintro _ W1 ⟨rfl, N1⟩
    clear hlp
    go_wp2_with fail
    refine Calls.mono (hmay N1) ?_
    rintro _ W2 ⟨rfl, N2⟩
    clear hmay
    go_wp2_with fail
    refine Calls.mono (hky _) ?_
    rintro _ W2' ⟨rfl, rfl⟩
    go_wp2_with fail
    refine Calls.mono (hwk (N1.trans N2)) ?_
    rintro _ W3 ⟨rfl, N3⟩
    go_wp2_with fail
    go_ret
    exact ⟨rfl, (N1.trans N2).trans N3⟩
  have hbu := fun {W : World} (n : New w W) => r_build (HP.out.after n) (by omega) hs2
  rw [hmb, bX_build hmb] at hbu
  have HK : Hid (TOk (buildN l)) := build_ok hmb (by omega)
  have hok := ok_build hmb
  have hlk := ok_lk hok
  have hw := fun {W : World} {v : Value} (Q : Ls W 20 v ((buildN l).map ndC)) (T : Tab W) => walk_any Q HK.out T key
  have her : errN (buildN l) key = 0 := by rw [err_build hmb, hkk]; rfl
  have hwy : wayK (buildN l) key = (wayT (buildN l) (ofL key)).1 := by unfold wayK; rw [if_pos ⟨hok, hkk⟩]
  rw [her, hwy] at hw
  have hkl := keyOk_len hkk
  have hfew := way_few0 hlk (ofL key)
  rw [ofL_length] at hfew
  have hrise := wayT_rise hlk (ofL key)
  have hpos : decide (0 < (wayT (buildN l) (ofL key)).1.length) = decide (0 < (buildN l).length) := by
    by_cases h0 : (buildN l).length = 0
    · unfold wayT; rw [if_pos h0, h0]; rfl
    · rw [decide_eq_true (way_ne hlk (by omega) _).1, decide_eq_true (by omega)]
  have hfd := field_T
  have HRI : Hid ((wayT (buildN l) (ofL key)).1.Pairwise (· < ·)) := hrise
  have hks : ((bs key).size : Int) = (key.length : Int) := by rw [bs_size]
  clear hs2 hmb hkk hok hlk her hwy hrise
  generalize (wayT (buildN l) (ofL key)).1 = wy at *
  generalize buildN l = t at *
  go_enter Tryd.func7, Tryd.ntmps7
  go_wp2_with fail
  refine Calls.mono hlp ?_
  rintro _ W1 ⟨rfl, N1⟩
  clear hlp
  go_wp2_with fail
  refine Calls.mono (hmay N1) ?_
  rintro _ W2 ⟨rfl, N2⟩
  clear hmay
  go_wp2_with fail
  refine Calls.mono (hky _) ?_
  rintro _ W2' ⟨rfl, rfl⟩
  go_wp2_with fail
  refine Calls.mono (hbu (N1.trans N2)) ?_
  rintro _ W3 ⟨a, n, c, a2, n2, c2, rfl, PT, _, N3⟩
  clear hbu
  have M3 := (N1.trans N2).trans N3
  have hf := hfd a n c a2 n2 c2 true
  have hwl := hw PT (HT.out.kept M3)
  obtain ⟨a', c', e, hc', _⟩ := PT.open noNd
  cases e
  clear hfd hw N1 N2 N3 PT hky
  go_wp2_with fail
  refine Calls.mono hwl ?_
  rintro _ W4 ⟨va, rfl, QW, N4⟩
  have M4 := M3.trans N4
  obtain ⟨b, d, rfl, hd, HS⟩ := QW.ls.open 0
  have ht1 : decide (2 * (2 * ((bs key).size : Int) + 1) < (wy.length : Int)) = false := by rw [hks]; exact decide_eq_false (by omega)
  have ht1' : ¬ (2 * (2 * ((bs key).size : Int) + 1) < (wy.length : Int)) := by rw [hks]; omega
  have hks1 : ((bs key).size : Int) ≤ 8 := by rw [hks]; omega
  have hks0 : 0 ≤ ((bs key).size : Int) := by omega
  have ht2 : (decide ((0 : Int) < (wy.length : Int)) != decide ((0 : Int) < (t.length : Int))) = false := by
    rw [show decide ((0 : Int) < (wy.length : Int)) = decide (0 < wy.length) by rw [Bool.eq_iff_iff, decide_eq_true_eq, decide_eq_true_eq]; omega, show decide ((0 : Int) < (t.length : Int)) = decide (0 < t.length) by rw [Bool.eq_iff_iff, decide_eq_true_eq, decide_eq_true_eq]; omega, hpos]
    simp
  clear hwl QW N4
  clear hks
  go_wp2_with fail
  clear ht1 ht1' ht2 hks0 hks1 hf
  go_loopw [8] (fun i wr => ∃ j : Nat, j ≤ wy.length ∧ i = .int .i64 ((j : Int) + 1) ∧ New W4 wr) (fun i _ => wy.length - (intOf i - 1).toNat)
  case atStart => exact ⟨0, by omega, rfl, New.refl _⟩
  case round =>
    obtain ⟨j, hj, rfl, N⟩ := hrel
    by_cases hlt : j + 1 < wy.length
    · obtain ⟨gb, ob, rfl, hgb, hrb⟩ := HS.out (by omega)
      have ca := nat_at hrb N hlt
      have cb := nat_at hrb N (show j < wy.length by omega)
      have hp := pair_at HRI.out hlt
      obtain ⟨x, hx⟩ : ∃ x, wy.getD (j + 1) 0 = x := ⟨_, rfl⟩
      obtain ⟨y, hy⟩ : ∃ y, wy.getD j 0 = y := ⟨_, rfl⟩
      rw [hx] at ca hp
      rw [hy] at cb hp
      have hle : decide ((x : Int) ≤ (y : Int)) = false := decide_eq_false (by omega)
      have hle' : ¬ ((x : Int) ≤ (y : Int)) := by omega
      have hj1 : ((j : Int) + 1) - 1 = (j : Int) := by omega
      have hlb : (j : Int) + 1 < (wy.length : Int) := by omega
      have hn1 : ((j : Int) + 1).toNat = j + 1 := by omega
      have hn2 : (0 : Int) ≤ (j : Int) + 1 := by omega
      clear hrb hx hy hp
      go_wp2_with fail
      go_region
      go_wp2_with fail
      exact ⟨⟨j + 1, by omega, by go_num, N.trans (New.drew _)⟩, by simp [intOf]; omega⟩
    · have hlb : ¬ ((j : Int) + 1 < (wy.length : Int)) := by omega
      have M := M4.trans N
      go_wp2_with fail
      refine Calls.mono (hwk M) ?_
      rintro _ W9 ⟨rfl, N9⟩
      go_wp2_with fail
      go_ret
      exact ⟨rfl, M.trans N9⟩
end Go.Proofs.YtimmbnipagnbfaaDoor
