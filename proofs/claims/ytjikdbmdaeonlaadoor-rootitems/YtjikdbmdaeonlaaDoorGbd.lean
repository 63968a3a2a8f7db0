/-
  RootItems's walk: whatever pairs, the call returns true, where the tables lie as their initialisers lay them.
-/
import Derived.Test.YtjikdbmdaeonlaaDoorGba
namespace Go.Proofs.YtjikdbmdaeonlaaDoor
open Go.RowKit
set_option maxRecDepth 20000

theorem mask_test {ks : List Int} {c : Nat} {x : Int} (hx : ks[c]? = some x) (hc : c < 16) : (bits .and .i64 ((maskT ks 16 : Int) / 2 ^ c) 1 == 1) = (x != 0) := by
  have h := maskT_bit ks c 16
  rw [getD_some hx] at h
  have e : ((maskT ks 16 : Int) / 2 ^ c) = ((maskT ks 16 / 2 ^ c : Nat) : Int) := by norm_cast
  rw [e, No.i64_and1]
  have e2 : (((maskT ks 16 / 2 ^ c : Nat) : Int) % 2) = ((maskT ks 16 / 2 ^ c % 2 : Nat) : Int) := by norm_cast
  rw [e2, h]
  by_cases h0 : x = 0
  · subst h0; rw [if_neg (by simp)]; rfl
  · rw [if_pos ⟨hc, h0⟩]
    have : (x != 0) = true := by rw [bne_iff_ne]; exact h0
    rw [this]; rfl
theorem allL_ok {t : List Nd} (h : okT t = true) : allL t = HL t := by unfold allL; rw [h, if_pos rfl]
theorem short_of {l : List Pr} (h : longB lenP 3000 ([], []) l = false) : l.length ≤ 10000 ∧ ∀ p ∈ l, p.1.length ≤ 4000 ∧ p.2.length ≤ 4000 := by
  obtain ⟨h1, h2⟩ := prs_of h
  exact ⟨by omega, h2⟩

set_option maxHeartbeats 16000000 in
theorem items_any {w : World} {v : Value} {l : List Pr} (P : Ls w 2 v (l.map prC)) (hl : l.length ≤ maxLen) (hT : No.TT w) :
    Calls Tryd.prog 5 #[v] w fun e w' => e = .returned (.bool true) ∧ New w w' := by
  unfold maxLen at hl
  have hwk := fun W (N : New w W) => wakes_any W (hT.after N)
  have hlp := longPairs_any P (by omega)
  have HT : Hid (No.TT w) := hT
  obtain ⟨b1, hb1⟩ : ∃ b, longB lenP 3000 ([], []) l = b := ⟨_, rfl⟩
  rw [hb1] at hlp
  have HB1 : Hid (longB lenP 3000 ([], []) l = b1) := hb1
  have HP : Hid (Ls w 2 v (l.map prC)) := P
  obtain ⟨a, c, rfl, hc, _⟩ := P.open ([], [])
  clear P hT hb1
  cases b1
  case true =>
    go_enter Tryd.func5, Tryd.ntmps5
    go_wp2_with fail
    refine Calls.mono hlp ?_
    rintro _ W1 ⟨rfl, N1⟩
    have N1 : New w W1 := N1
    clear hlp
    go_wp2_with fail
    refine Calls.mono (hwk _ N1) ?_
    rintro _ W6 ⟨rfl, N6⟩
    have N6 : New W1 W6 := N6
    go_wp2_with fail
    go_ret
    exact ⟨rfl, N1.trans N6⟩
  obtain ⟨hs1, hs2⟩ := short_of HB1.out
  have hmay := fun W (N : New w W) => refMay_any (HP.out.after N) hs1 hs2
  obtain ⟨b2, hb2⟩ : ∃ b, mayB l = b := ⟨_, rfl⟩
  rw [hb2] at hmay
  have HB2 : Hid (mayB l = b2) := hb2
  have HS2 : Hid (∀ p ∈ l, p.1.length ≤ 4000 ∧ p.2.length ≤ 4000) := hs2
  clear hb2 hs2
  cases b2
  case false =>
    go_enter Tryd.func5, Tryd.ntmps5
    go_wp2_with fail
    refine Calls.mono hlp ?_
    rintro _ W1 ⟨rfl, N1⟩
    have N1 : New w W1 := N1
    clear hlp
    go_wp2_with fail
    refine Calls.mono (hmay _ N1) ?_
    rintro _ W2 ⟨rfl, N2⟩
    have N2 : New W1 W2 := N2
    have M2 := N1.trans N2
    clear hmay
    go_wp2_with fail
    refine Calls.mono (hwk _ M2) ?_
    rintro _ W6 ⟨rfl, N6⟩
    have N6 : New W2 W6 := N6
    go_wp2_with fail
    go_ret
    exact ⟨rfl, M2.trans N6⟩
  by_cases h12 : 12 < l.length
  · have d12 : decide ((12 : Int) < (l.length : Int)) = true := decide_eq_true (by omega)
    go_enter Tryd.func5, Tryd.ntmps5
    go_wp2_with fail
    refine Calls.mono hlp ?_
    rintro _ W1 ⟨rfl, N1⟩
    have N1 : New w W1 := N1
    clear hlp
    go_wp2_with fail
    refine Calls.mono (hmay _ N1) ?_
    rintro _ W2 ⟨rfl, N2⟩
    have N2 : New W1 W2 := N2
    have M2 := N1.trans N2
    clear hmay
    go_wp2_with fail
    refine Calls.mono (hwk _ M2) ?_
    rintro _ W6 ⟨rfl, N6⟩
    have N6 : New W2 W6 := N6
    go_wp2_with fail
    go_ret
    exact ⟨rfl, M2.trans N6⟩
  have d12 : decide ((12 : Int) < (l.length : Int)) = false := decide_eq_false (by omega)
  have hbu := fun W (N : New w W) => r_build (HP.out.after N) hs1 HS2.out
  have hbX : bX l = buildN l := by unfold bX; rw [HB2.out]; rfl
  rw [HB2.out, hbX] at hbu
  have htok := build_ok HB2.out (by omega)
  have hok := ok_build HB2.out
  obtain ⟨t, ht⟩ : ∃ t, buildN l = t := ⟨_, rfl⟩
  rw [ht] at hbu htok hok
  have HOK : Hid (okT t = true) := hok
  have HTK : Hid (TOk t) := htok
  clear htok hok hbX ht h12 hs1
  go_enter Tryd.func5, Tryd.ntmps5
  go_wp2_with fail
  refine Calls.mono hlp ?_
  rintro _ W1 ⟨rfl, N1⟩
  have N1 : New w W1 := N1
  clear hlp
  go_wp2_with fail
  refine Calls.mono (hmay _ N1) ?_
  rintro _ W2 ⟨rfl, N2⟩
  have N2 : New W1 W2 := N2
  have M2 := N1.trans N2
  clear hmay N1 N2
  go_wp2_with fail
  refine Calls.mono (hbu _ M2) ?_
  rintro _ W3 ⟨ta, tn, tc, b, m, d, rfl, Q3, _, N3⟩
  have N3 : New W2 W3 := N3
  have M3 := M2.trans N3
  obtain ⟨a', c', e, htc, HS⟩ := Q3.open noNd
  cases e
  have HQ : Hid (Ls W3 20 (.slice ta t.length tc) (t.map ndC)) := Q3
  have hf := field_T ta t.length tc b m d true
  clear hbu M2 N3 Q3
  go_wp2_with fail
  have ha := all_any HQ.out HTK.out (HT.out.after M3)
  rw [HOK.out, allL_ok HOK.out] at ha
  refine Calls.mono ha ?_
  rintro _ W4 ⟨va, rfl, Q4, N4⟩
  have N4 : New W3 W4 := N4
  have M4 := M3.trans N4
  obtain ⟨pa, pc, rfl, hpc, HA⟩ := Q4.open []
  rw [HL_len] at HA hpc ⊢
  have HPA : Hid (No.Tx W4 pa (HL t)) := ls_tx Q4
  clear ha Q4
  go_wp2_with fail
  have ha := root_any (HQ.out.after N4) HTK.out (HT.out.after M4)
  rw [HOK.out] at ha
  refine Calls.mono ha ?_
  rintro _ W5 ⟨rfl, N5⟩
  have N5 : New W4 W5 := N5
  have M5 := M4.trans N5
  have K5 : New W3 W5 := N4.trans N5
  clear ha
  have HR : Hid (rootL t = if t.length = 0 then emptyH else (HL t).getD 0 []) := by
    show _ = _
    unfold rootL; rw [HOK.out, if_pos rfl]
  obtain ⟨rs, hrs⟩ : ∃ rs, bs (rootL t) = rs := ⟨_, rfl⟩
  have HRS : Hid (bs (rootL t) = rs) := hrs
  rw [hrs]
  clear hrs
  have HA5 : Hid (0 < t.length → ∃ g o, pa = some ⟨g, o, none⟩ ∧ g < W4.heap.size ∧ ∀ (W : World), New W4 W → ∀ i, i < t.length → W.cell? ⟨g, o + i, none⟩ = some (.string (bs ((HL t).getD i [])))) := fun h0 => by
    obtain ⟨g, o, h1, h2, h3⟩ := HA.out h0
    refine ⟨g, o, h1, h2, fun W N i hi => ?_⟩
    have := h3 W N i hi 0 _ rfl
    rw [Nat.mul_one] at this
    exact this
  clear HA
  by_cases h0 : t.length = 0
  · obtain rfl : t = [] := List.eq_nil_of_length_eq_zero h0
    clear h0 HA5 HS
    go_wp2_with fail
    go_loopw [8] (fun s wr => s = .int .i64 0 ∧ wr = W5) (fun _ _ => 0)
    case atStart => exact ⟨rfl, rfl⟩
    case round =>
      obtain ⟨rfl, rfl⟩ := hrel
      go_wp2_with fail
      refine Calls.mono (hwk _ M5) ?_
      rintro _ W6 ⟨rfl, N6⟩
      go_wp2_with fail
      go_ret
      exact ⟨rfl, M5.trans N6⟩
  · obtain ⟨pg, po, rfl, hpg, hpr⟩ := HA5.out (by omega)
    obtain ⟨tg, tq, rfl, htg, htr⟩ := HS.out (by omega)
    have c0 : W5.cell? ⟨pg, po, none⟩ = some (.string rs) := by
      have := hpr W5 N5 0 (by omega)
      rw [Nat.add_zero] at this
      rw [this, ← HRS.out, HR.out, if_neg h0]
    have HPR : Hid (∀ (W : World), New W4 W → ∀ i, i < t.length → W.cell? ⟨pg, po + i, none⟩ = some (.string (bs ((HL t).getD i [])))) := hpr
    have HTR : Hid (∀ (W : World), New W3 W → ∀ i, i < t.length → W.rangeAt tg (tq + i * 20) (ndC (t.getD i noNd))) := htr
    have htl := HTK.out.few
    have hnt : (0 : Int) < (t.length : Int) := by omega
    have hdt : decide ((0 : Int) < (t.length : Int)) = true := decide_eq_true hnt
    have hbr : (rs.toList != rs.toList) = false := by simp
    clear hpr htr HA5 HS HR HRS HPA
    go_wp2_with fail
    clear c0 hbr hnt hdt hf
    go_loopw [8] (fun s wr => ∃ i : Nat, i ≤ t.length ∧ s = .int .i64 (i : Int) ∧ New W5 wr) (fun s _ => t.length - (intOf s).toNat)
    case atStart => exact ⟨0, Nat.zero_le _, rfl, New.refl _⟩
    case round =>
      obtain ⟨i, hit, rfl, N⟩ := hrel
      have M : New w wr := M5.trans N
      by_cases hlt : i < t.length
      · have hm := List.getElem?_eq_getElem hlt
        obtain ⟨mm, hmm⟩ : ∃ mm, t[i] = mm := ⟨_, rfl⟩
        rw [hmm] at hm
        have RT := ok_rt HOK.out
        have hk := RT.k16 mm (List.mem_of_getElem? hm)
        have hiy := item_yes (HQ.out.after (K5.trans N)) HTK.out (HT.out.after M) hm HOK.out
        have hgood := RT.good hm
        have hsml := No.good_small _ hgood
        have hhash : No.hashB (itW mm (HL t)) = (HL t).getD i [] := (getD_some (HL_at RT.kd hm)).symm
        have hch := fun a c => No.c_hash (itW mm (HL t)) hsml a c
        have hcg := fun a c => No.c_good (itW mm (HL t)) hsml a c
        rw [hhash, hgood] at hch
        rw [hgood] at hcg
        have hone := fun a c => No.itC_one (itW mm (HL t)) a c
        have HKD : Hid (∀ x ∈ nz mm.kids, ∃ j : Nat, x = (j : Int) ∧ i < j ∧ j < t.length) := RT.kd.kid i mm hm
        have HIS : Hid ((itW mm (HL t)).hs = kidH (HL t) mm.kids) := rfl
        have HIM : Hid ((itW mm (HL t)).m = (maskT mm.kids 16 : Nat)) := rfl
        have HMM : Hid (t.getD i noNd = mm) := getD_some hm
        have pi := HPR.out wr (N5.trans N) i hlt
        clear hm hmm RT hgood hsml hhash
        generalize itW mm (HL t) = I at *
        go_wp2_with fail
        refine Calls.mono hiy ?_
        rintro _ W6 ⟨xa, xc, rfl, hTx, hxb, N6⟩
        have N6 : New wr W6 := N6
        have hch := hch xa xc
        have hcg := hcg xa xc
        have hone := hone xa xc
        obtain ⟨C, hC⟩ : ∃ C, No.itC I xa xc = C := ⟨_, rfl⟩
        have hC4 : C[4]? = some (.int .i64 (maskT mm.kids 16 : Nat)) := by rw [← hC, ← HIM.out]; rfl
        have hC5 : C[5]? = some (.slice xa I.hs.length xc) := by rw [← hC]; rfl
        have hCs : C.size = 6 := by rw [← hC]; rfl
        rw [hC] at hch hcg hone ⊢
        clear hC
        clear hiy
        go_wp2_with (first
          | (refine wpList_alloc_at (by rfl) 9 (by rfl) 32 (by rfl) _ _ _ No.info24 ?_; intro W7 R7 N7)
          | (refine wpList_store_new (by rfl) 32 _ _ (by rfl) W6.heap.size C (by rfl) (by rfl) 32 _ R7 (by rw [hCs]; exact No.i24) (by rw [hCs]; rfl) hone ?_; intro W8 R8 B8; have N8 : New W6 W8 := B8.new N7 (Nat.le_refl _))
          | refine wpList_load_row (by rfl) 32 _ (by rfl) W6.heap.size (by rfl) 32 C (0, 0) _ R8 Tryd.underlying32 rfl (by rw [hCs]; exact No.i24) ?_)
        have M8 : New w W8 := M.trans (N6.trans N8)
        have hTx8 := hTx.after N8
        have HT8 := HT.out.after M8
        have K8 : New W5 W8 := N.trans (N6.trans N8)
        have hGl : W6.heap.size < W8.heap.size := R8.lt
        generalize W6.heap.size = G at *
        refine Calls.mono (hch W8 hTx8 HT8) ?_
        rintro _ W9 ⟨rfl, N9⟩
        have N9 : New W8 W9 := N9
        have R9 := R8.after N9
        have hTx9 := hTx8.after N9
        have M9 := M8.trans N9
        have K9 := K8.trans N9
        have p9 := HPR.out W9 (N5.trans K9) i hlt
        have hcg9 := hcg W9 hTx9
        generalize bs ((HL t).getD i []) = hi at *
        have hbh : (hi.toList != hi.toList) = false := by simp
        have hin : (i : Int) < (t.length : Int) := by omega
        clear hch hcg R7 N7 R8 B8 N8 N6 hTx hTx8 HT8 M8 K8 N9 pi hxb
        go_wp2_with (first
          | refine wpList_load_want (by rfl) 32 _ (by rfl) G (by rfl) 32 C _ R9 Tryd.underlying32 rfl (by rw [hCs]; exact No.i24) ?_)
        refine Calls.mono hcg9 ?_
        rintro _ Wa ⟨rfl, Na⟩
        have Na : New W9 Wa := Na
        have HRa : Hid (Row Wa G C 32) := R9.after Na
        have HTa : Hid (No.Tx Wa xa I.hs) := hTx9.after Na
        have Ma := M9.trans Na
        have Ka := K9.trans Na
        clear hcg9 R9 hTx9 M9 K9 Na p9 hbh
        go_wp2_with fail
        go_loopw [13, 14] (fun s c wz => ∃ cc : Nat, cc ≤ 16 ∧ c = .int .i64 (cc : Int) ∧ s = .int .i64 (((nz (mm.kids.take cc)).length : Nat) : Int) ∧ New Wa wz) (fun _ c _ => 16 - (intOf c).toNat)
        case atStart => exact ⟨0, by omega, rfl, rfl, New.refl _⟩
        case round =>
          obtain ⟨cc, hcc, rfl, rfl, Nz⟩ := hrel
          have Rz : Row wr G C 32 := HRa.out.after Nz
          have z4 := Rz.has 4 hC4
          have z5 := Rz.has 5 hC5
          by_cases hc16 : cc < 16
          · obtain ⟨x, hx⟩ : ∃ x, mm.kids[cc]? = some x := ⟨mm.kids[cc]'(by omega), List.getElem?_eq_getElem (by omega)⟩
            have hmt := mask_test hx hc16
            have R2 := HTR.out wr (K5.trans (Ka.trans Nz)) i hlt
            rw [HMM.out] at R2
            have cx : wr.cell? ⟨tg, tq + i * 20 + 4 + cc, none⟩ = some (.int .i64 x) := by
              have := R2 (4 + cc) (.int .i64 x) (by
                unfold ndC
                rw [show 4 + cc = cc + 1 + 1 + 1 + 1 by omega]
                simp only [List.getElem?_cons_succ]
                rw [List.getElem?_map, hx]; rfl)
              rw [← Nat.add_assoc] at this
              exact this
            have hcc' : (cc : Int) < 16 := by omega
            clear R2
            by_cases hx0 : x = 0
            · subst hx0
              have HZ : Hid ((nz (mm.kids.take (cc + 1))).length = (nz (mm.kids.take cc)).length) := by
                show _ = _
                rw [nz_take_zero hx]
              rw [show ((0 : Int) != 0) = false from rfl] at hmt
              clear hx
              generalize maskT mm.kids 16 = mk at *
              generalize (nz (mm.kids.take cc)).length = A at *
              go_wp2_with fail
              exact ⟨⟨cc + 1, by omega, by go_num, by rw [HZ.out], Nz⟩, by simp [intOf]; omega⟩
            · obtain ⟨j, rfl, _, hjl⟩ := HKD.out x (mem_nz.2 ⟨List.mem_of_getElem? hx, hx0⟩)
              have hxb : ((j : Int) != 0) = true := by rw [bne_iff_ne]; exact hx0
              rw [hxb] at hmt
              have HZ : Hid ((nz (mm.kids.take (cc + 1))).length = (nz (mm.kids.take cc)).length + 1) := by
                show _ = _
                rw [nz_take_more hx hx0, List.length_append]; rfl
              have hget : I.hs[(nz (mm.kids.take cc)).length]? = some ((HL t).getD j []) := by
                rw [HIS.out]
                unfold kidH
                rw [List.getElem?_map, nz_split mm.kids (cc + 1), nz_take_more hx hx0, List.append_assoc, List.getElem?_append_right (Nat.le_refl _), Nat.sub_self]
                rfl
              have hAl : (nz (mm.kids.take cc)).length < I.hs.length := (List.getElem?_eq_some_iff.1 hget).1
              obtain ⟨y, rfl, hy⟩ := (HTa.out.after Nz) (by omega)
              have e1 := hy _ _ hget
              have e2 := HPR.out wr (N5.trans (Ka.trans Nz)) j hjl
              have hA16 : (nz (mm.kids.take cc)).length ≤ 16 := Nat.le_trans (nz_le _) (by rw [List.length_take]; omega)
              clear hx hget hy hx0
              generalize maskT mm.kids 16 = mk at *
              generalize (nz (mm.kids.take cc)).length = A at *
              generalize bs ((HL t).getD j []) = sj at *
              generalize I.hs.length = nh at *
              have hbj : (sj.toList != sj.toList) = false := by simp
              have hAn : (A : Int) < (nh : Int) := by omega
              have dA : decide ((nh : Int) ≤ (A : Int)) = false := decide_eq_false (by omega)
              have dA2 : decide (nh ≤ A) = false := decide_eq_false (by omega)
              have hjt : (j : Int) < (t.length : Int) := by omega
              have q1 := NewW.cell (W := wr) (g := G) (o := 5) z5
              have q2 : ∀ p : NewW wr, p.v.cell? (y.add A) = some (.string sj) := fun p => (p.h.cell (World.block_lt_of_cell? wr _ e1)).trans e1
              have q3 := NewW.cell (W := wr) (g := pg) (o := po + j) e2
              have hne := NewW.ne wr
              go_wp2_with fail
              refine region_new wr (New.refl wr) (by kernel_rfl) (by kernel_rfl) ?_
              repeat (go_big_quiet_step (fail))
              refine wpQuiet_nil ?_
              rintro Wq ⟨⟨_, kq⟩, rfl⟩
              clear q1 q2 q3 hne z4 z5 cx e1 e2
              go_wp2_with fail
              exact ⟨⟨cc + 1, by omega, by go_num, by rw [HZ.out]; go_num, Nz.trans kq⟩, by simp [intOf]; omega⟩
          · obtain rfl : cc = 16 := by omega
            have hA : (nz (mm.kids.take 16)).length = I.hs.length := by
              rw [HIS.out, List.take_of_length_le (by omega)]
              exact (List.length_map _).symm
            rw [hA] at *
            generalize I.hs.length = nh at *
            have hnb : ((nh : Int) != (nh : Int)) = false := by simp
            go_wp2_with fail
            exact ⟨⟨i + 1, by omega, by go_num, Ka.trans Nz⟩, by simp [intOf]; omega⟩
      · obtain rfl : i = t.length := by omega
        go_wp2_with fail
        refine Calls.mono (hwk _ M) ?_
        rintro _ W6 ⟨rfl, N6⟩
        go_wp2_with fail
        go_ret
        exact ⟨rfl, M.trans N6⟩

end Go.Proofs.YtjikdbmdaeonlaaDoor
