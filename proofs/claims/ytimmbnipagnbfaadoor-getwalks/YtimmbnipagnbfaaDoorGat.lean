/-
  GetWalks's walk: whatever pairs and key, the call returns true, where the table of upper halves lies as its initialiser lays it.
-/
import Derived.Test.YtimmbnipagnbfaaDoorGas
import Derived.Deep.CutRange
namespace Go.Proofs.YtimmbnipagnbfaaDoor
open Go.RowKit
set_option maxRecDepth 20000
set_option linter.unusedVariables false

theorem at_head {pre w : List Nat} {i : Nat} : (pre ++ i :: w).getD pre.length 0 = i := by
  rw [List.getD_eq_getElem?_getD, List.getElem?_append_right (Nat.le_refl _), Nat.sub_self]; rfl
theorem at_next {pre w : List Nat} {i j : Nat} : (pre ++ i :: j :: w).getD (pre.length + 1) 0 = j := by
  rw [List.getD_eq_getElem?_getD, List.getElem?_append_right (by omega), show pre.length + 1 - pre.length = 1 by omega]; rfl
theorem last_ov {t : List Nd} {N : Bt} (h0 : 0 < t.length) {pre : List Nat} {i : Nat} {q : Bt} (h1 : (wayT t N).1 = pre ++ [i]) (h2 : (wayT t N).2 = q) : ofT t N = ansN (t.getD i noNd) q := by
  unfold ofT
  rw [if_neg (by omega), h1, h2]
  unfold lastOf
  simp
set_option maxHeartbeats 16000000 in
theorem getWalks_any {w : World} {v : Value} {l : List Pr} {s : ByteArray} (P : Ls w 2 v (l.map prC)) (hl : l.length ≤ maxLen) (hT : Tab w) :
    Calls Tryd.prog 5 #[v, .string s] w fun e w' => e = .returned (.bool true) ∧ New w w' := by
  unfold maxLen at hl
  obtain ⟨key, rfl⟩ : ∃ key, s = bs key := ⟨L s, (bs_L s).symm⟩
  have hlp := longPairs_any P (by omega)
  have HT : Hid (Tab w) := hT
  have HP : Hid (Ls w 2 v (l.map prC)) := P
  have hwk := fun {W : World} (n : New w W) => wakes_any W (HT.out.kept n)
  have hky := fun W => key_any12 key W
  obtain ⟨b1, hb1⟩ : ∃ b, longB lenP 3000 ([], []) l = b := ⟨_, rfl⟩
  rw [hb1] at hlp
  have HB1 : Hid (longB lenP 3000 ([], []) l = b1) := hb1
  clear hb1 P hT
  cases b1
  case true =>
    go_enter Tryd.func5, Tryd.ntmps5
    go_wp2_with fail
    refine Calls.mono hlp ?_
    rintro _ W1 ⟨rfl, N1⟩
    clear hlp
    go_wp2_with fail
    refine Calls.mono (hwk N1) ?_
    rintro _ W2 ⟨rfl, N2⟩
    go_wp2_with fail
    go_ret
    exact ⟨rfl, N1.trans N2⟩
  obtain ⟨hs1, hs2⟩ := prs_of HB1.out
  obtain ⟨mb, hmb⟩ : ∃ b, mayB l = b := ⟨_, rfl⟩
  have hmay := fun {w1 : World} (n : New w w1) => refMay_any (HP.out.after n) (by omega) hs2
  rw [hmb] at hmay
  cases mb
  case false =>
    clear hs2 hmb
    go_enter Tryd.func5, Tryd.ntmps5
    go_wp2_with fail
    refine Calls.mono hlp ?_
    rintro _ W1 ⟨rfl, N1⟩
    clear hlp
    go_wp2_with fail
    refine Calls.mono (hmay N1) ?_
    rintro _ W2 ⟨rfl, N2⟩
    clear hmay
    go_wp2_with fail
    refine Calls.mono (hwk (N1.trans N2)) ?_
    rintro _ W3 ⟨rfl, N3⟩
    go_wp2_with fail
    go_ret
    exact ⟨rfl, (N1.trans N2).trans N3⟩
  obtain ⟨kk, hkk⟩ : ∃ b, keyOk key = b := ⟨_, rfl⟩
  rw [hkk] at hky
  cases kk
  case false =>
    clear hs2 hmb hkk
    go_enter Tryd.func5, Tryd.ntmps5
    go_wp2_with fail
    refine Calls.mono hlp ?_
    rintro _ W1 ⟨rfl, N1⟩
    clear hlp
    go_wp2_with fail
    refine Calls.mono (hmay N1) ?_
    rintro _ W2 ⟨rfl, N2⟩
    clear hmay
    go_wp2_with fail
    refine Calls.mono (hky _) ?_
    rintro _ W2' ⟨rfl, rfl⟩
    go_wp2_with fail
    refine Calls.mono (hwk (N1.trans N2)) ?_
    rintro _ W3 ⟨rfl, N3⟩
    go_wp2_with fail
    go_ret
    exact ⟨rfl, (N1.trans N2).trans N3⟩
  have hbu := fun {W : World} (n : New w W) => r_build (HP.out.after n) (by omega) hs2
  rw [hmb, bX_build hmb] at hbu
  have HK : Hid (TOk (buildN l)) := build_ok hmb (by omega)
  have hok := ok_build hmb
  have HL : Hid (Lk (buildN l)) := ok_lk hok
  have hw := fun {W : World} {v : Value} (Q : Ls W 20 v ((buildN l).map ndC)) (T : Tab W) => walk_any Q HK.out T key
  have ho := fun {W : World} {v : Value} (Q : Ls W 20 v ((buildN l).map ndC)) (T : Tab W) => of_any12 Q HK.out T key
  have her : errN (buildN l) key = 0 := by rw [err_build hmb, hkk]; rfl
  have hwy : wayK (buildN l) key = (wayT (buildN l) (ofL key)).1 := by unfold wayK; rw [if_pos ⟨hok, hkk⟩]
  have hov : ofK (buildN l) key = ofT (buildN l) (ofL key) := by unfold ofK; rw [if_pos ⟨hok, hkk⟩]
  rw [her, hwy] at hw
  rw [her, hov] at ho
  have hkl := keyOk_len hkk
  have hn := fun W => refOf_any (bs key) (by rw [bs_size]; omega) W
  rw [L_bs] at hn
  have HHV : Hid (∀ c ∈ ofL key, c.toNat < 16) := halves_of key
  have hNl : (ofL key).length ≤ 16 := by rw [ofL_length]; omega
  have hfew := way_few0 HL.out (ofL key)
  have hfd := field_T
  clear hs2 hmb hkk hok her hwy hov hkl
  generalize ofL key = N at *
  generalize buildN l = t at *
  by_cases h0 : t.length = 0
  · have e1 : (wayT t N).1 = [] := by unfold wayT; rw [if_pos h0]
    have e2 : ofT t N = none := by unfold ofT; rw [if_pos h0]
    have HT0 : Hid (t.length = 0) := h0
    rw [e1] at hw
    rw [e2] at ho
    clear e1 e2 hfew h0
    go_enter Tryd.func5, Tryd.ntmps5
    go_wp2_with fail
    refine Calls.mono hlp ?_
    rintro _ W1 ⟨rfl, N1⟩
    clear hlp
    go_wp2_with fail
    refine Calls.mono (hmay N1) ?_
    rintro _ W2 ⟨rfl, N2⟩
    clear hmay
    go_wp2_with fail
    refine Calls.mono (hky _) ?_
    rintro _ W2' ⟨rfl, rfl⟩
    go_wp2_with fail
    refine Calls.mono (hbu (N1.trans N2)) ?_
    rintro _ W3 ⟨a, n, c, a2, n2, c2, rfl, PT, _, N3⟩
    clear hbu
    have M3 := (N1.trans N2).trans N3
    have hf := hfd a n c a2 n2 c2 true
    have hwl := hw PT (HT.out.kept M3)
    have HPT : Hid (Ls W3 20 (.slice a n c) (t.map ndC)) := PT
    obtain ⟨a', c', e, hc', _⟩ := PT.open noNd
    cases e
    clear hfd hw N1 N2 N3 PT hky
    rw [HT0.out] at *
    go_wp2_with fail
    refine Calls.mono hwl ?_
    rintro _ W4 ⟨va, rfl, QW, N4⟩
    have M4 := M3.trans N4
    have hol := ho (HPT.out.after N4) (HT.out.kept M4)
    obtain ⟨b, d, rfl, _⟩ := QW.form
    clear hwl QW ho
    go_wp2_with fail
    refine Calls.mono hol ?_
    rintro _ W5 ⟨rfl, N5⟩
    clear hol
    go_wp2_with (first
      | (refine wpList_alloc_at (by rfl) 8 (by rfl) 27 (by rfl) _ _ _ info27 ?_; intro Wa Ra Na)
      | (refine wpList_store_new (by rfl) 27 _ _ (by rfl) W5.heap.size (ansA none) (by rfl) (by rfl) 27 _ Ra i27 rfl (ans_one _) ?_; intro W6 R6 B6; have N6 : New W5 W6 := B6.new Na (Nat.le_refl _); have y0 := R6.has 0 (v := .bool false) rfl))
    have M6 := (M4.trans N5).trans N6
    refine Calls.mono (hwk M6) ?_
    rintro _ W7 ⟨rfl, N7⟩
    go_wp2_with fail
    go_ret
    exact ⟨rfl, M6.trans N7⟩
  have hpos : 0 < t.length := by omega
  obtain ⟨wy, hwy⟩ : ∃ x, (wayT t N).1 = x := ⟨_, rfl⟩
  obtain ⟨rs, hrs⟩ : ∃ x, (wayT t N).2 = x := ⟨_, rfl⟩
  obtain ⟨ov, hov⟩ : ∃ x, ofT t N = x := ⟨_, rfl⟩
  have HOV : Hid (∀ (pre : List Nat) (i : Nat) (q : Bt), wy = pre ++ [i] → rs = q → ov = ansN (t.getD i noNd) q) := fun pre i q e1 e2 => by rw [← hov]; exact last_ov hpos (hwy.trans e1) (hrs.trans e2)
  have HW0 : Hid (wy = (wayOf t 0 N).1 ∧ rs = (wayOf t 0 N).2) := by
    rw [← hwy, ← hrs]; unfold wayT; rw [if_neg h0]; exact ⟨rfl, rfl⟩
  have hwpos : 0 < wy.length := by
    rw [HW0.out.1]; obtain ⟨w', hw'⟩ := way_head HL.out (r := N) hpos; rw [hw']; simp
  rw [hwy] at hw hfew
  rw [hov] at ho
  have hwb : ((wy.length : Int) == 0) = false := by rw [beq_eq_false_iff_ne]; omega
  have htb : ((t.length : Int) == 0) = false := by rw [beq_eq_false_iff_ne]; omega
  clear hwy hrs hov h0
  go_enter Tryd.func5, Tryd.ntmps5
  go_wp2_with fail
  refine Calls.mono hlp ?_
  rintro _ W1 ⟨rfl, N1⟩
  clear hlp
  go_wp2_with fail
  refine Calls.mono (hmay N1) ?_
  rintro _ W2 ⟨rfl, N2⟩
  clear hmay
  go_wp2_with fail
  refine Calls.mono (hky _) ?_
  rintro _ W2' ⟨rfl, rfl⟩
  go_wp2_with fail
  refine Calls.mono (hbu (N1.trans N2)) ?_
  rintro _ W3 ⟨a, n, c, a2, n2, c2, rfl, PT, _, N3⟩
  clear hbu
  have M3 := (N1.trans N2).trans N3
  have hf := hfd a n c a2 n2 c2 true
  have hwl := hw PT (HT.out.kept M3)
  have HPT : Hid (Ls W3 20 (.slice a n c) (t.map ndC)) := PT
  obtain ⟨a', c', e, hc', _⟩ := PT.open noNd
  cases e
  clear hfd hw N1 N2 N3 PT hky
  go_wp2_with fail
  refine Calls.mono hwl ?_
  rintro _ W4 ⟨va, rfl, QW, N4⟩
  have M4 := M3.trans N4
  have hol := ho (HPT.out.after N4) (HT.out.kept M4)
  have HQW : Hid (Ls W4 1 va (wy.map natC)) := QW.ls
  obtain ⟨b, d, rfl, hd⟩ := QW.form
  rw [List.length_map] at HQW ⊢
  clear hwl QW ho hd
  go_wp2_with fail
  refine Calls.mono hol ?_
  rintro _ W5 ⟨rfl, N5⟩
  clear hol
  go_wp2_with (first
    | (refine wpList_alloc_at (by rfl) 8 (by rfl) 27 (by rfl) _ _ _ info27 ?_; intro Wa Ra Na)
    | (refine wpList_store_new (by rfl) 27 _ _ (by rfl) W5.heap.size (ansA ov) (by rfl) (by rfl) 27 _ Ra i27 rfl (ans_one _) ?_; intro W6 R6 B6; have N6 : New W5 W6 := B6.new Na (Nat.le_refl _)))
  have M6 := (M4.trans N5).trans N6
  have N36 := (N4.trans N5).trans N6
  have HR6 : Hid (Row W6 W5.heap.size (ansA ov) 27) := R6
  have HQ6 : Hid (Ls W6 1 (.slice b wy.length d) (wy.map natC)) := HQW.out.after (N5.trans N6)
  have HP6 : Hid (Ls W6 20 (.slice a t.length c) (t.map ndC)) := HPT.out.after N36
  generalize W5.heap.size = G at *
  clear Ra Na B6 R6 HQW N5 N6 N4 N36 HPT
  refine Calls.mono (hn _) ?_
  rintro _ W7 ⟨rfl, N7⟩
  have N7 : New W6 W7 := N7
  have M7 := M6.trans N7
  have HR7 : Hid (Row W7 G (ansA ov) 27) := HR6.out.after N7
  obtain ⟨b', d', e, hd, HSW⟩ := (HQ6.out.after N7).open 0
  cases e
  obtain ⟨a', c', e, hc, HST⟩ := (HP6.out.after N7).open noNd
  cases e
  clear hn HR6 HQ6 HP6 N7
  go_wp2_with fail
  go_loopw [11, 12] (fun s11 s12 wr => ∃ (A i : Nat) (q : Bt) (pre : List Nat), s11 = .int .i64 (A : Int) ∧ s12 = .int .i64 (pre.length : Int) ∧ Hid (wy = pre ++ (wayOf t i q).1 ∧ rs = (wayOf t i q).2 ∧ (pre.length = 0 → i = 0)) ∧ i < t.length ∧ A + q.length = N.length ∧ Hid (q = N.drop A) ∧ Hid (∀ c ∈ q, c.toNat < 16) ∧ New W7 wr) (fun _ s12 _ => wy.length - (intOf s12).toNat)
  case atStart => exact ⟨0, 0, N, [], rfl, rfl, ⟨HW0.out.1, HW0.out.2, fun _ => rfl⟩, hpos, by omega, rfl, HHV.out, New.refl _⟩
  case round =>
    obtain ⟨A, i, q, pre, rfl, rfl, hway, hi, hA, hq, hqh, NW⟩ := hrel
    obtain ⟨w', hw'⟩ := way_head HL.out (r := q) hi
    have hwe : wy = pre ++ i :: w' := by rw [hway.out.1, hw']
    have HWE : Hid (wy = pre ++ i :: w') := hwe
    have HWL : Hid (wy.length = pre.length + 1 + w'.length) := by show _ = _; rw [hwe]; simp; omega
    have hlt : pre.length < wy.length := by have := HWL.out; omega
    have hlb : (pre.length : Int) < (wy.length : Int) := by omega
    obtain ⟨gb, ob, rfl, hgb, hrb⟩ := HSW.out hwpos
    have ck : wr.cell? ⟨gb, ob + pre.length, none⟩ = some (.int .i64 (i : Int)) := by have := nat_at hrb NW hlt; rw [HWE.out, at_head] at this; exact this
    have c0 : pre.length = 0 → wr.cell? ⟨gb, ob, none⟩ = some (.int .i64 0) := fun h => by rw [h, hway.out.2.2 h] at ck; exact ck
    have hi0 : ¬ ((i : Int) < 0) := by omega
    have hit : (i : Int) < (t.length : Int) := by omega
    have hit' : ¬ ((t.length : Int) ≤ (i : Int)) := by omega
    clear hwe hw'
    go_upto_region 15 with fail
    go_cut [99] from 76 to 98 (fun s99 wx => s99 = .bool false ∧ wx = wr)
    case first =>
      by_cases hp0 : pre.length = 0
      · have y0 := c0 hp0
        have hb0 : ((pre.length : Int) == 0) = true := by rw [hp0]; rfl
        clear c0 hp0
        go_wp2_with fail
        go_meet
        case rel => exact ⟨rfl, rfl⟩
      · have hb0 : ((pre.length : Int) == 0) = false := by rw [beq_eq_false_iff_ne]; omega
        clear c0 hp0
        go_wp2_with fail
        go_meet
        case rel => exact ⟨rfl, rfl⟩
    case rest =>
      obtain ⟨rfl, hwc⟩ := hcut
      rw [hwc]
      clear hwc c0
      obtain ⟨ga, oa, rfl, hga, hra⟩ := HST.out hpos
      have R2 := hra wr NW i hi
      have hm := getD_some (d := noNd) hi
      obtain ⟨m, hmm⟩ : ∃ m, t.getD i noNd = m := ⟨_, rfl⟩
      have HMM : Hid (t.getD i noNd = m) := hmm
      rw [hmm] at R2 hm
      have M1 := HL.out.k16 m (List.mem_of_getElem? hm)
      have hp16 := HL.out.len m (List.mem_of_getElem? hm)
      have HM : Hid (t[i]? = some m) := hm
      have hA16 : A ≤ 16 := by omega
      have hAs : A ≤ (bs N).size := by rw [bs_size]; omega
      have hNs : (bs N).size ≤ 16 := by rw [bs_size]; exact hNl
      have hps : (bs m.path).size ≤ 16 := by rw [bs_size]; exact hp16
      have hqe : (bs N).extract A (bs N).size = bs q := by rw [hq.out]; exact tail_bs N A
      have hpl17 : pre.length ≤ 17 := by have := HWL.out; omega
      have HPS : Hid ((bs m.path).size = m.path.length ∧ (bs N).size = N.length) := ⟨bs_size _, bs_size _⟩
      clear hra hmm hm
      by_cases hx : (nxt m q).1 = 0
      · have hst := way_stop (r := q) hi (by rw [HMM.out]; exact hx)
        have hwe2 : wy = pre ++ [i] := by rw [hway.out.1, hst]
        have hrs2 : rs = q := by rw [hway.out.2.1, hst]
        have hov2 := HOV.out pre i q hwe2 hrs2
        rw [HMM.out] at hov2
        have hend : ((pre.length : Int) + 1 == (wy.length : Int)) = true := by rw [hwe2, beq_iff_eq, List.length_append, List.length_singleton]; omega
        obtain ⟨hs, hhs⟩ : ∃ b, (decide (m.path = q) && m.has) = b := ⟨_, rfl⟩
        have HHS : Hid ((decide (m.path = q) && m.has) = hs) := hhs
        have HOE : Hid (ov = if hs then some m.val else none) := by
          show _ = _
          rw [hov2, ← hhs]
          unfold ansN
          cases hb : m.has
          · rw [if_neg (by rintro ⟨h, _⟩; cases h), Bool.and_false]; rfl
          · by_cases hpq : m.path = q
            · rw [if_pos ⟨rfl, hpq⟩, decide_eq_true hpq]; rfl
            · rw [if_neg (by rintro ⟨_, h⟩; exact hpq h), decide_eq_false hpq]; rfl
        clear hst hwe2 hrs2 hov2 hhs hx
        go_wp2_with (first
          | refine wpList_load_mid (by rfl) 54 _ (by rfl) ga (oa + i * 20) (by rfl) (ndC m) _ R2 Tryd.underlying54 rfl (by rw [ndC_len M1]; exact i49) ?_
          | (refine wpList_alloc_at (by rfl) 13 (by rfl) 54 (by rfl) _ _ _ info49 ?_; intro Wb Rb Nb)
          | (refine wpList_store_new (by rfl) 54 _ _ (by rfl) wr.heap.size (ndA m) (by rfl) (by rfl) 54 _ Rb (by rw [ndA_size M1]; exact i49) (by rw [ndA_size M1]; rfl) (ndA_all _) ?_; intro Wc Rc Bc; have Nc : New wr Wc := Bc.new Nb (Nat.le_refl _); have HRB : Hid (Row Wc wr.heap.size (ndA m) 54) := Rc; have hNc : New wr Wc := Nc; clear Rb Nb Bc Rc Nc R2; generalize wr.heap.size = B at *))
        have q1 := NewW.cell (W := Wc) (g := B) (o := 1) (v := .string (bs m.path)) (HRB.out.has 1 rfl)
        have hne := NewW.ne Wc
        go_upto_region 19 with fail
        go_cut [14] from 112 to 131 (fun s14 wx => s14 = .bool hs ∧ New Wc wx)
        case first =>
          by_cases hl : A + m.path.length = N.length
          · have hc1 : ((A : Int) + ((bs m.path).size : Int) == ((bs N).size : Int)) = true := by rw [beq_iff_eq, bs_size, bs_size]; omega
            by_cases hpq : m.path = q
            · have hc2 : ((bs q).toList == (bs m.path).toList) = true := by rw [beq_bs, L_bs, L_bs]; exact decide_eq_true hpq.symm
              have HH : Hid (m.has = hs) := by show _ = _; rw [← HHS.out, decide_eq_true hpq]; rfl
              have q2 := NewW.cell (W := Wc) (g := B) (o := 2) (v := .bool hs) (by have := HRB.out.has 2 (v := .bool m.has) rfl; rw [HH.out] at this; exact this)
              clear hl hpq
              refine region_new Wc (New.refl Wc) (by kernel_rfl) (by kernel_rfl) ?_
              repeat (go_big_quiet_step (fail))
              refine wpQuiet_nil ?_
              rintro Wd ⟨⟨_, kd⟩, rfl⟩
              go_wp2_with fail
              go_meet
              case rel => exact ⟨rfl, kd⟩
            · have hc2 : ((bs q).toList == (bs m.path).toList) = false := by rw [beq_bs, L_bs, L_bs]; exact decide_eq_false (fun h => hpq h.symm)
              have HH : Hid (hs = false) := by show _ = _; rw [← HHS.out, decide_eq_false hpq]; rfl
              clear hl hpq
              refine region_new Wc (New.refl Wc) (by kernel_rfl) (by kernel_rfl) ?_
              repeat (go_big_quiet_step (fail))
              refine wpQuiet_nil ?_
              rintro Wd ⟨⟨_, kd⟩, rfl⟩
              go_wp2_with fail
              go_meet
              case rel => exact ⟨by rw [HH.out], kd⟩
          · have hc1 : ((A : Int) + ((bs m.path).size : Int) == ((bs N).size : Int)) = false := by rw [beq_eq_false_iff_ne, bs_size, bs_size]; omega
            have HH : Hid (hs = false) := by
              show _ = _; rw [← HHS.out, decide_eq_false (fun h => hl (by rw [h]; exact hA))]; rfl
            clear hl
            refine region_new Wc (New.refl Wc) (by kernel_rfl) (by kernel_rfl) ?_
            repeat (go_big_quiet_step (fail))
            refine wpQuiet_nil ?_
            rintro Wd ⟨⟨_, kd⟩, rfl⟩
            go_wp2_with fail
            go_meet
            case rel => exact ⟨by rw [HH.out], kd⟩
        case rest =>
          obtain ⟨rfl, kd⟩ := hcut
          have Rd := HRB.out.after kd
          have RG : Row wc G (ansA ov) 27 := HR7.out.after ((NW.trans hNc).trans kd)
          have y3 := Rd.has 3 (v := .string (bs m.val)) rfl
          have Mz : New w wc := ((M7.trans NW).trans hNc).trans kd
          have hoe := HOE.out
          clear q1 hne
          cases hs
          · rw [if_neg (by simp)] at hoe
            subst hoe
            have y0 := RG.has 0 (v := .bool false) rfl
            go_wp2_with fail
            refine Calls.mono (hwk Mz) ?_
            rintro _ Ww ⟨rfl, Nw⟩
            go_wp2_with fail
            go_ret
            exact ⟨rfl, Mz.trans Nw⟩
          · rw [if_pos rfl] at hoe
            subst hoe
            have y0 := RG.has 0 (v := .bool true) rfl
            have y1 := RG.has 1 (v := .string (bs m.val)) rfl
            have hvv : ((bs m.val).toList == (bs m.val).toList) = true := beq_self_eq_true _
            go_wp2_with fail
            refine Calls.mono (hwk Mz) ?_
            rintro _ Ww ⟨rfl, Nw⟩
            go_wp2_with fail
            go_ret
            exact ⟨rfl, Mz.trans Nw⟩
      · obtain ⟨j, ej, hij, hjl, hs1, hs2, hkind⟩ := nxt_on HL.out HM.out (r := q) hx
        obtain ⟨sk, hsk⟩ : ∃ z, (nxt m q).2 = z := ⟨_, rfl⟩
        rw [hsk] at hs1 hs2 hkind
        have hgo := way_go HL.out (r := q) hi (by rw [HMM.out]; exact hx)
        rw [HMM.out, hsk] at hgo
        simp only [ej, Int.toNat_natCast] at hgo
        obtain ⟨w2, hw2⟩ := way_head HL.out (r := q.drop sk) hjl
        have HW2 : Hid (wy = pre ++ i :: j :: w2) := by show _ = _; rw [hway.out.1, hgo, hw2]
        have HWAY2 : Hid (wy = (pre ++ [i]) ++ (wayOf t j (q.drop sk)).1 ∧ rs = (wayOf t j (q.drop sk)).2 ∧ ((pre ++ [i]).length = 0 → j = 0)) := ⟨by rw [hway.out.1, hgo]; simp, by rw [hway.out.2.1, hgo], fun h => by simp at h⟩
        have hlen2 : wy.length = pre.length + 2 + w2.length := by rw [HW2.out]; simp; omega
        have hend : ((pre.length : Int) + 1 == (wy.length : Int)) = false := by rw [beq_eq_false_iff_ne]; omega
        have hlt2 : pre.length + 1 < wy.length := by omega
        have hlb2 : (pre.length : Int) + 1 < (wy.length : Int) := by omega
        have hcj : ∀ W, New W7 W → W.cell? ⟨gb, ob + (pre.length + 1), none⟩ = some (.int .i64 (j : Int)) := fun W n => by have := nat_at hrb n hlt2; rw [HW2.out, at_next] at this; exact this
        have HQD : Hid (q.drop sk = N.drop (A + sk)) := by show _ = _; rw [hq.out, List.drop_drop]
        have HQH : Hid (∀ c ∈ q.drop sk, c.toNat < 16) := fun c hc => hqh.out c (List.mem_of_mem_drop hc)
        have hjb : ((j : Int) == 0) = false := by rw [beq_eq_false_iff_ne]; omega
        have HMEAS : Hid (wy.length - (pre.length + 1) < wy.length - pre.length) := by show _ < _; omega
        have HQL : Hid (A + sk + (q.drop sk).length = N.length) := by show _ = _; rw [List.length_drop]; omega
        clear hgo hw2 hx hlen2 hsk ej
        rcases hkind with ⟨h2, hbeg, hg, hsk⟩ | ⟨h3, hq0, hg, hsk⟩
        · subst hsk
          have hk3 : (m.kind == 3) = false := by rw [h2]; rfl
          have hN1 : (bs N).size = A + q.length := by rw [HPS.out.2]; exact hA.symm
          have hgt : decide (((bs N).size : Int) < (A : Int) + ((bs m.path).size : Int)) = false := by rw [HPS.out.1, hN1]; exact decide_eq_false (by omega)
          have hgt' : ¬ (((bs N).size : Int) < (A : Int) + ((bs m.path).size : Int)) := by rw [HPS.out.1, hN1]; omega
          have hex : (bs N).extract A (A + (bs m.path).size) = bs m.path := by
            apply eq_of_L
            rw [L_extract, L_bs, L_bs, HPS.out.1, List.drop_take, ← hq.out, show A + m.path.length - A = m.path.length by omega]
            exact begB_take hbeg
          have hee : ((bs m.path).toList == (bs m.path).toList) = true := beq_self_eq_true _
          have HK2 : Hid (m.kind = 2) := h2
          have HG : Hid (m.kids.getD 0 0 = (j : Int)) := hg
          clear hbeg h2 hN1 hg
          go_wp2_with (first
            | refine wpList_load_mid (by rfl) 54 _ (by rfl) ga (oa + i * 20) (by rfl) (ndC m) _ R2 Tryd.underlying54 rfl (by rw [ndC_len M1]; exact i49) ?_
            | (refine wpList_alloc_at (by rfl) 13 (by rfl) 54 (by rfl) _ _ _ info49 ?_; intro Wb Rb Nb)
            | (refine wpList_store_new (by rfl) 54 _ _ (by rfl) wr.heap.size (ndA m) (by rfl) (by rfl) 54 _ Rb (by rw [ndA_size M1]; exact i49) (by rw [ndA_size M1]; rfl) (ndA_all _) ?_; intro Wc Rc Bc; have Nc : New wr Wc := Bc.new Nb (Nat.le_refl _); have HRB : Hid (Row Wc wr.heap.size (ndA m) 54) := Rc; have hNc : New wr Wc := Nc; clear Rb Nb Bc Rc Nc R2; generalize wr.heap.size = B at *))
          have q1 := NewW.cell (W := Wc) (g := B) (o := 1) (v := .string (bs m.path)) (HRB.out.has 1 rfl)
          have hne := NewW.ne Wc
          refine region_new Wc (New.refl Wc) (by kernel_rfl) (by kernel_rfl) ?_
          repeat (go_big_quiet_step (fail))
          refine wpQuiet_nil ?_
          rintro Wd ⟨⟨_, kd⟩, rfl⟩
          have Rd := HRB.out.after kd
          have y0 : Wd.cell? ⟨B, 0, none⟩ = some (.int .i64 2) := by have := Rd.has 0 (v := .int .i64 m.kind) rfl; rw [HK2.out] at this; exact this
          have y1 := Rd.has 1 (v := .string (bs m.path)) rfl
          have y4 : Wd.cell? ⟨B, 4, none⟩ = some (.int .i64 (j : Int)) := by have := kid_cell Rd M1 (c := 0) (by decide); rw [HG.out] at this; exact this
          have Nd3 := (NW.trans hNc).trans kd
          have cj := hcj _ Nd3
          clear q1 hne hcj Rd
          go_wp2_with fail
          exact ⟨⟨A + m.path.length, j, q.drop m.path.length, pre ++ [i], by rw [HPS.out.1, Int.natCast_add], by simp, HWAY2.out, hjl, HQL.out, HQD.out, HQH.out, Nd3⟩, by have := HMEAS.out; simp [intOf]; omega⟩
        · subst hsk
          have hpe := HL.out.br m (List.mem_of_getElem? HM.out) h3
          have HPE : Hid (m.path = []) := hpe
          cases q with
          | nil => exact absurd rfl hq0
          | cons b q2 =>
            have hb16 : b.toNat < 16 := hqh.out b (by simp)
            have hi16 : (b.toNat : Int) < 16 := by omega
            have hNA : A < (bs N).size := by rw [HPS.out.2, ← hA]; simp
            obtain ⟨D, hD⟩ : ∃ D, bs m.path = D := ⟨_, rfl⟩
            have HD : Hid (bs m.path = D) := hD
            have HZ : Hid ((D.size : Int) = 0) := by show _ = _; rw [← hD, hpe]; rfl
            have HZ' : Hid (D.size = 0) := by show _ = _; rw [← hD, hpe]; rfl
            have hD16 : D.size ≤ 16 := by have := HZ'.out; omega
            have hee : (D.toList == D.toList) = true := beq_self_eq_true _
            have hgt : decide (((bs N).size : Int) < (A : Int) + (D.size : Int)) = false := by rw [HZ.out]; exact decide_eq_false (by omega)
            have hgt' : ¬ (((bs N).size : Int) < (A : Int) + (D.size : Int)) := by rw [HZ.out]; omega
            have hge : decide (((bs N).size : Int) ≤ (A : Int)) = false := decide_eq_false (by omega)
            have hge' : ¬ (((bs N).size : Int) ≤ (A : Int)) := by omega
            have hix : (bs N)[A]'hNA = b := by
              have h1 := L_get (bs N) A hNA
              rw [L_bs] at h1
              have h2 : N[A]? = some b := by
                have h3 : (N.drop A)[0]? = some b := by rw [← hq.out]; rfl
                rw [List.getElem?_drop, Nat.add_zero] at h3; exact h3
              rw [h2] at h1
              exact (Option.some.inj h1).symm
            have hex : (bs N).extract A (A + D.size) = D := by
              rw [HZ'.out, Nat.add_zero, ← hD, hpe]
              apply eq_of_L
              rw [L_extract, L_bs, L_bs, List.drop_take, Nat.sub_self, List.take_zero]
            have HK3 : Hid (m.kind = 3) := h3
            have HG : Hid (m.kids.getD b.toNat 0 = (j : Int)) := hg
            clear h3 hg hpe hq0 hps hD
            go_wp2_with (first
              | refine wpList_load_mid (by rfl) 54 _ (by rfl) ga (oa + i * 20) (by rfl) (ndC m) _ R2 Tryd.underlying54 rfl (by rw [ndC_len M1]; exact i49) ?_
              | (refine wpList_alloc_at (by rfl) 13 (by rfl) 54 (by rfl) _ _ _ info49 ?_; intro Wb Rb Nb)
              | (refine wpList_store_new (by rfl) 54 _ _ (by rfl) wr.heap.size (ndA m) (by rfl) (by rfl) 54 _ Rb (by rw [ndA_size M1]; exact i49) (by rw [ndA_size M1]; rfl) (ndA_all _) ?_; intro Wc Rc Bc; have Nc : New wr Wc := Bc.new Nb (Nat.le_refl _); have HRB : Hid (Row Wc wr.heap.size (ndA m) 54) := Rc; have hNc : New wr Wc := Nc; clear Rb Nb Bc Rc Nc R2; generalize wr.heap.size = B at *))
            have q1 := NewW.cell (W := Wc) (g := B) (o := 1) (v := .string D) (by have := HRB.out.has 1 (v := .string (bs m.path)) rfl; rw [HD.out] at this; exact this)
            have hne := NewW.ne Wc
            refine region_new Wc (New.refl Wc) (by kernel_rfl) (by kernel_rfl) ?_
            repeat (go_big_quiet_step (fail))
            refine wpQuiet_nil ?_
            rintro Wd ⟨⟨_, kd⟩, rfl⟩
            have Rd := HRB.out.after kd
            have y0 : Wd.cell? ⟨B, 0, none⟩ = some (.int .i64 3) := by have := Rd.has 0 (v := .int .i64 m.kind) rfl; rw [HK3.out] at this; exact this
            have y1 : Wd.cell? ⟨B, 1, none⟩ = some (.string D) := by have := Rd.has 1 (v := .string (bs m.path)) rfl; rw [HD.out] at this; exact this
            have y4 : Wd.cell? ⟨B, 4, none⟩ = some (.int .i64 (m.kids.getD 0 0)) := kid_cell Rd M1 (c := 0) (by decide)
            have yb : Wd.cell? ⟨B, 4 + b.toNat, none⟩ = some (.int .i64 (j : Int)) := by have := kid_cell Rd M1 (c := b.toNat) hb16; rw [HG.out] at this; exact this
            have Nd3 := (NW.trans hNc).trans kd
            have cj := hcj _ Nd3
            clear q1 hne hcj Rd
            generalize m.kids.getD 0 0 = z0 at *
            clear hgt hgt' hex hee
            have hz := HZ.out
            go_wp2_with fail
            exact ⟨⟨A + 1, j, (b :: q2).drop 1, pre ++ [i], by simp, by simp, HWAY2.out, hjl, HQL.out, HQD.out, HQH.out, Nd3⟩, by have := HMEAS.out; simp [intOf]; omega⟩
end Go.Proofs.YtimmbnipagnbfaaDoor
