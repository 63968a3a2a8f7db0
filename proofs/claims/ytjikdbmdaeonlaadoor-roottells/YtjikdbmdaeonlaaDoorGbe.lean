/-
  RootItems's walk: whatever pairs, the call returns true, where the tables lie as their initialisers lay them. RootValue's walk: whatever pairs, number and value, the call returns true, where the tables lie as their initialisers lay them. RootValue's walk: whatever pairs, number and value, the call returns true, where the tables lie as their initialisers lay them. The document's own root: its good, its empty digest; All's cells; a copy of a trie. What lies in memory while the document's own root is built.
-/
import Derived.Test.YtjikdbmdaeonlaaDoorGba
import Derived.Test.YtjikdbmdaeonlaaDoorGbd
import Derived.Test.YtjikdbmdaeonlaaDoorGak
import Derived.Test.YtjikdbmdaeonlaaDoorGaj
namespace Go.Proofs.YtjikdbmdaeonlaaDoor
open Go.RowKit
set_option maxRecDepth 20000

theorem mask_test {ks : List Int} {c : Nat} {x : Int} (hx : ks[c]? = some x) (hc : c < 16) : (bits .and .i64 ((maskT ks 16 : Int) / 2 ^ c) 1 == 1) = (x != 0) := by
  have h := maskT_bit ks c 16
  rw [getD_some hx] at h
  have e : ((maskT ks 16 : Int) / 2 ^ c) = ((maskT ks 16 / 2 ^ c : Nat) : Int) := by norm_cast
  rw [e, No.i64_and1]
  have e2 : (((maskT ks 16 / 2 ^ c : Nat) : Int) % 2) = ((maskT ks 16 / 2 ^ c % 2 : Nat) : Int) := by norm_cast
  rw [e2, h]
  by_cases h0 : x = 0
  · subst h0; rw [if_neg (by simp)]; rfl
  · rw [if_pos ⟨hc, h0⟩]
    have : (x != 0) = true := by rw [bne_iff_ne]; exact h0
    rw [this]; rfl
theorem allL_ok {t : List Nd} (h : okT t = true) : allL t = HL t := by unfold allL; rw [h, if_pos rfl]
theorem short_of {l : List Pr} (h : longB lenP 3000 ([], []) l = false) : l.length ≤ 10000 ∧ ∀ p ∈ l, p.1.length ≤ 4000 ∧ p.2.length ≤ 4000 := by
  obtain ⟨h1, h2⟩ := prs_of h
  exact ⟨by omega, h2⟩

set_option maxHeartbeats 16000000 in
theorem items_any {w : World} {v : Value} {l : List Pr} (P : Ls w 2 v (l.map prC)) (hl : l.length ≤ maxLen) (hT : No.TT w) :
    Calls Tryd.prog 5 #[v] w fun e w' => e = .returned (.bool true) ∧ New w w' := by
  unfold maxLen at hl
  have hwk := fun W (N : New w W) => wakes_any W (hT.after N)
  have hlp := longPairs_any P (by omega)
  have HT : Hid (No.TT w) := hT
  obtain ⟨b1, hb1⟩ : ∃ b, longB lenP 3000 ([], []) l = b := ⟨_, rfl⟩
  rw [hb1] at hlp
  have HB1 : Hid (longB lenP 3000 ([], []) l = b1) := hb1
  have HP : Hid (Ls w 2 v (l.map prC)) := P
  obtain ⟨a, c, rfl, hc, _⟩ := P.open ([], [])
  clear P hT hb1
  cases b1
  case true =>
    go_enter Tryd.func5, Tryd.ntmps5
    go_wp2_with fail
    refine Calls.mono hlp ?_
    rintro _ W1 ⟨rfl, N1⟩
    have N1 : New w W1 := N1
    clear hlp
    go_wp2_with fail
    refine Calls.mono (hwk _ N1) ?_
    rintro _ W6 ⟨rfl, N6⟩
    have N6 : New W1 W6 := N6
    go_wp2_with fail
    go_ret
    exact ⟨rfl, N1.trans N6⟩
  obtain ⟨hs1, hs2⟩ := short_of HB1.out
  have hmay := fun W (N : New w W) => refMay_any (HP.out.after N) hs1 hs2
  obtain ⟨b2, hb2⟩ : ∃ b, mayB l = b := ⟨_, rfl⟩
  rw [hb2] at hmay
  have HB2 : Hid (mayB l = b2) := hb2
  have HS2 : Hid (∀ p ∈ l, p.1.length ≤ 4000 ∧ p.2.length ≤ 4000) := hs2
  clear hb2 hs2
  cases b2
  case false =>
    go_enter Tryd.func5, Tryd.ntmps5
    go_wp2_with fail
    refine Calls.mono hlp ?_
    rintro _ W1 ⟨rfl, N1⟩
    have N1 : New w W1 := N1
    clear hlp
    go_wp2_with fail
    refine Calls.mono (hmay _ N1) ?_
    rintro _ W2 ⟨rfl, N2⟩
    have N2 : New W1 W2 := N2
    have M2 := N1.trans N2
    clear hmay
    go_wp2_with fail
    refine Calls.mono (hwk _ M2) ?_
    rintro _ W6 ⟨rfl, N6⟩
    have N6 : New W2 W6 := N6
    go_wp2_with fail
    go_ret
    exact ⟨rfl, M2.trans N6⟩
  by_cases h12 : 12 < l.length
  · have d12 : decide ((12 : Int) < (l.length : Int)) = true := decide_eq_true (by omega)
    go_enter Tryd.func5, Tryd.ntmps5
    go_wp2_with fail
    refine Calls.mono hlp ?_
    rintro _ W1 ⟨rfl, N1⟩
    have N1 : New w W1 := N1
    clear hlp
    go_wp2_with fail
    refine Calls.mono (hmay _ N1) ?_
    rintro _ W2 ⟨rfl, N2⟩
    have N2 : New W1 W2 := N2
    have M2 := N1.trans N2
    clear hmay
    go_wp2_with fail
    refine Calls.mono (hwk _ M2) ?_
    rintro _ W6 ⟨rfl, N6⟩
    have N6 : New W2 W6 := N6
    go_wp2_with fail
    go_ret
    exact ⟨rfl, M2.trans N6⟩
  have d12 : decide ((12 : Int) < (l.length : Int)) = false := decide_eq_false (by omega)
  have hbu := fun W (N : New w W) => r_build (HP.out.after N) hs1 HS2.out
  have hbX : bX l = buildN l := by unfold bX; rw [HB2.out]; rfl
  rw [HB2.out, hbX] at hbu
  have htok := build_ok HB2.out (by omega)
  have hok := ok_build HB2.out
  obtain ⟨t, ht⟩ : ∃ t, buildN l = t := ⟨_, rfl⟩
  rw [ht] at hbu htok hok
  have HOK : Hid (okT t = true) := hok
  have HTK : Hid (TOk t) := htok
  clear htok hok hbX ht h12 hs1
  go_enter Tryd.func5, Tryd.ntmps5
  go_wp2_with fail
  refine Calls.mono hlp ?_
  rintro _ W1 ⟨rfl, N1⟩
  have N1 : New w W1 := N1
  clear hlp
  go_wp2_with fail
  refine Calls.mono (hmay _ N1) ?_
  rintro _ W2 ⟨rfl, N2⟩
  have N2 : New W1 W2 := N2
  have M2 := N1.trans N2
  clear hmay N1 N2
  go_wp2_with fail
  refine Calls.mono (hbu _ M2) ?_
  rintro _ W3 ⟨ta, tn, tc, b, m, d, rfl, Q3, _, N3⟩
  have N3 : New W2 W3 := N3
  have M3 := M2.trans N3
  obtain ⟨a', c', e, htc, HS⟩ := Q3.open noNd
  cases e
  have HQ : Hid (Ls W3 20 (.slice ta t.length tc) (t.map ndC)) := Q3
  have hf := field_T ta t.length tc b m d true
  clear hbu M2 N3 Q3
  go_wp2_with fail
  have ha := all_any HQ.out HTK.out (HT.out.after M3)
  rw [HOK.out, allL_ok HOK.out] at ha
  refine Calls.mono ha ?_
  rintro _ W4 ⟨va, rfl, Q4, N4⟩
  have N4 : New W3 W4 := N4
  have M4 := M3.trans N4
  obtain ⟨pa, pc, rfl, hpc, HA⟩ := Q4.open []
  rw [HL_len] at HA hpc ⊢
  have HPA : Hid (No.Tx W4 pa (HL t)) := ls_tx Q4
  clear ha Q4
  go_wp2_with fail
  have ha := root_any (HQ.out.after N4) HTK.out (HT.out.after M4)
  rw [HOK.out] at ha
  refine Calls.mono ha ?_
  rintro _ W5 ⟨rfl, N5⟩
  have N5 : New W4 W5 := N5
  have M5 := M4.trans N5
  have K5 : New W3 W5 := N4.trans N5
  clear ha
  have HR : Hid (rootL t = if t.length = 0 then emptyH else (HL t).getD 0 []) := by
    show _ = _
    unfold rootL; rw [HOK.out, if_pos rfl]
  obtain ⟨rs, hrs⟩ : ∃ rs, bs (rootL t) = rs := ⟨_, rfl⟩
  have HRS : Hid (bs (rootL t) = rs) := hrs
  rw [hrs]
  clear hrs
  have HA5 : Hid (0 < t.length → ∃ g o, pa = some ⟨g, o, none⟩ ∧ g < W4.heap.size ∧ ∀ (W : World), New W4 W → ∀ i, i < t.length → W.cell? ⟨g, o + i, none⟩ = some (.string (bs ((HL t).getD i [])))) := fun h0 => by
    obtain ⟨g, o, h1, h2, h3⟩ := HA.out h0
    refine ⟨g, o, h1, h2, fun W N i hi => ?_⟩
    have := h3 W N i hi 0 _ rfl
    rw [Nat.mul_one] at this
    exact this
  clear HA
  by_cases h0 : t.length = 0
  · obtain rfl : t = [] := List.eq_nil_of_length_eq_zero h0
    clear h0 HA5 HS
    go_wp2_with fail
    go_loopw [8] (fun s wr => s = .int .i64 0 ∧ wr = W5) (fun _ _ => 0)
    case atStart => exact ⟨rfl, rfl⟩
    case round =>
      obtain ⟨rfl, rfl⟩ := hrel
      go_wp2_with fail
      refine Calls.mono (hwk _ M5) ?_
      rintro _ W6 ⟨rfl, N6⟩
      go_wp2_with fail
      go_ret
      exact ⟨rfl, M5.trans N6⟩
  · obtain ⟨pg, po, rfl, hpg, hpr⟩ := HA5.out (by omega)
    obtain ⟨tg, tq, rfl, htg, htr⟩ := HS.out (by omega)
    have c0 : W5.cell? ⟨pg, po, none⟩ = some (.string rs) := by
      have := hpr W5 N5 0 (by omega)
      rw [Nat.add_zero] at this
      rw [this, ← HRS.out, HR.out, if_neg h0]
    have HPR : Hid (∀ (W : World), New W4 W → ∀ i, i < t.length → W.cell? ⟨pg, po + i, none⟩ = some (.string (bs ((HL t).getD i [])))) := hpr
    have HTR : Hid (∀ (W : World), New W3 W → ∀ i, i < t.length → W.rangeAt tg (tq + i * 20) (ndC (t.getD i noNd))) := htr
    have htl := HTK.out.few
    have hnt : (0 : Int) < (t.length : Int) := by omega
    have hdt : decide ((0 : Int) < (t.length : Int)) = true := decide_eq_true hnt
    have hbr : (rs.toList != rs.toList) = false := by simp
    clear hpr htr HA5 HS HR HRS HPA
    go_wp2_with fail
    clear c0 hbr hnt hdt hf
    go_loopw [8] (fun s wr => ∃ i : Nat, i ≤ t.length ∧ s = .int .i64 (i : Int) ∧ New W5 wr) (fun s _ => t.length - (intOf s).toNat)
    case atStart => exact ⟨0, Nat.zero_le _, rfl, New.refl _⟩
    case round =>
      obtain ⟨i, hit, rfl, N⟩ := hrel
      have M : New w wr := M5.trans N
      by_cases hlt : i < t.length
      · have hm := List.getElem?_eq_getElem hlt
        obtain ⟨mm, hmm⟩ : ∃ mm, t[i] = mm := ⟨_, rfl⟩
        rw [hmm] at hm
        have RT := ok_rt HOK.out
        have hk := RT.k16 mm (List.mem_of_getElem? hm)
        have hiy := item_yes (HQ.out.after (K5.trans N)) HTK.out (HT.out.after M) hm HOK.out
        have hgood := RT.good hm
        have hsml := No.good_small _ hgood
        have hhash : No.hashB (itW mm (HL t)) = (HL t).getD i [] := (getD_some (HL_at RT.kd hm)).symm
        have hch := fun a c => No.c_hash (itW mm (HL t)) hsml a c
        have hcg := fun a c => No.c_good (itW mm (HL t)) hsml a c
        rw [hhash, hgood] at hch
        rw [hgood] at hcg
        have hone := fun a c => No.itC_one (itW mm (HL t)) a c
        have HKD : Hid (∀ x ∈ nz mm.kids, ∃ j : Nat, x = (j : Int) ∧ i < j ∧ j < t.length) := RT.kd.kid i mm hm
        have HIS : Hid ((itW mm (HL t)).hs = kidH (HL t) mm.kids) := rfl
        have HIM : Hid ((itW mm (HL t)).m = (maskT mm.kids 16 : Nat)) := rfl
        have HMM : Hid (t.getD i noNd = mm) := getD_some hm
        have pi := HPR.out wr (N5.trans N) i hlt
        clear hm hmm RT hgood hsml hhash
        generalize itW mm (HL t) = I at *
        go_wp2_with fail
        refine Calls.mono hiy ?_
        rintro _ W6 ⟨xa, xc, rfl, hTx, hxb, N6⟩
        have N6 : New wr W6 := N6
        have hch := hch xa xc
        have hcg := hcg xa xc
        have hone := hone xa xc
        obtain ⟨C, hC⟩ : ∃ C, No.itC I xa xc = C := ⟨_, rfl⟩
        have hC4 : C[4]? = some (.int .i64 (maskT mm.kids 16 : Nat)) := by rw [← hC, ← HIM.out]; rfl
        have hC5 : C[5]? = some (.slice xa I.hs.length xc) := by rw [← hC]; rfl
        have hCs : C.size = 6 := by rw [← hC]; rfl
        rw [hC] at hch hcg hone ⊢
        clear hC
        clear hiy
        go_wp2_with (first
          | (refine wpList_alloc_at (by rfl) 9 (by rfl) 32 (by rfl) _ _ _ No.info24 ?_; intro W7 R7 N7)
          | (refine wpList_store_new (by rfl) 32 _ _ (by rfl) W6.heap.size C (by rfl) (by rfl) 32 _ R7 (by rw [hCs]; exact No.i24) (by rw [hCs]; rfl) hone ?_; intro W8 R8 B8; have N8 : New W6 W8 := B8.new N7 (Nat.le_refl _))
          | refine wpList_load_row (by rfl) 32 _ (by rfl) W6.heap.size (by rfl) 32 C (0, 0) _ R8 Tryd.underlying32 rfl (by rw [hCs]; exact No.i24) ?_)
        have M8 : New w W8 := M.trans (N6.trans N8)
        have hTx8 := hTx.after N8
        have HT8 := HT.out.after M8
        have K8 : New W5 W8 := N.trans (N6.trans N8)
        have hGl : W6.heap.size < W8.heap.size := R8.lt
        generalize W6.heap.size = G at *
        refine Calls.mono (hch W8 hTx8 HT8) ?_
        rintro _ W9 ⟨rfl, N9⟩
        have N9 : New W8 W9 := N9
        have R9 := R8.after N9
        have hTx9 := hTx8.after N9
        have M9 := M8.trans N9
        have K9 := K8.trans N9
        have p9 := HPR.out W9 (N5.trans K9) i hlt
        have hcg9 := hcg W9 hTx9
        generalize bs ((HL t).getD i []) = hi at *
        have hbh : (hi.toList != hi.toList) = false := by simp
        have hin : (i : Int) < (t.length : Int) := by omega
        clear hch hcg R7 N7 R8 B8 N8 N6 hTx hTx8 HT8 M8 K8 N9 pi hxb
        go_wp2_with (first
          | refine wpList_load_want (by rfl) 32 _ (by rfl) G (by rfl) 32 C _ R9 Tryd.underlying32 rfl (by rw [hCs]; exact No.i24) ?_)
        refine Calls.mono hcg9 ?_
        rintro _ Wa ⟨rfl, Na⟩
        have Na : New W9 Wa := Na
        have HRa : Hid (Row Wa G C 32) := R9.after Na
        have HTa : Hid (No.Tx Wa xa I.hs) := hTx9.after Na
        have Ma := M9.trans Na
        have Ka := K9.trans Na
        clear hcg9 R9 hTx9 M9 K9 Na p9 hbh
        go_wp2_with fail
        go_loopw [13, 14] (fun s c wz => ∃ cc : Nat, cc ≤ 16 ∧ c = .int .i64 (cc : Int) ∧ s = .int .i64 (((nz (mm.kids.take cc)).length : Nat) : Int) ∧ New Wa wz) (fun _ c _ => 16 - (intOf c).toNat)
        case atStart => exact ⟨0, by omega, rfl, rfl, New.refl _⟩
        case round =>
          obtain ⟨cc, hcc, rfl, rfl, Nz⟩ := hrel
          have Rz : Row wr G C 32 := HRa.out.after Nz
          have z4 := Rz.has 4 hC4
          have z5 := Rz.has 5 hC5
          by_cases hc16 : cc < 16
          · obtain ⟨x, hx⟩ : ∃ x, mm.kids[cc]? = some x := ⟨mm.kids[cc]'(by omega), List.getElem?_eq_getElem (by omega)⟩
            have hmt := mask_test hx hc16
            have R2 := HTR.out wr (K5.trans (Ka.trans Nz)) i hlt
            rw [HMM.out] at R2
            have cx : wr.cell? ⟨tg, tq + i * 20 + 4 + cc, none⟩ = some (.int .i64 x) := by
              have := R2 (4 + cc) (.int .i64 x) (by
                unfold ndC
                rw [show 4 + cc = cc + 1 + 1 + 1 + 1 by omega]
                simp only [List.getElem?_cons_succ]
                rw [List.getElem?_map, hx]; rfl)
              rw [← Nat.add_assoc] at this
              exact this
            have hcc' : (cc : Int) < 16 := by omega
            clear R2
            by_cases hx0 : x = 0
            · subst hx0
              have HZ : Hid ((nz (mm.kids.take (cc + 1))).length = (nz (mm.kids.take cc)).length) := by
                show _ = _
                rw [nz_take_zero hx]
              rw [show ((0 : Int) != 0) = false from rfl] at hmt
              clear hx
              generalize maskT mm.kids 16 = mk at *
              generalize (nz (mm.kids.take cc)).length = A at *
              go_wp2_with fail
              exact ⟨⟨cc + 1, by omega, by go_num, by rw [HZ.out], Nz⟩, by simp [intOf]; omega⟩
            · obtain ⟨j, rfl, _, hjl⟩ := HKD.out x (mem_nz.2 ⟨List.mem_of_getElem? hx, hx0⟩)
              have hxb : ((j : Int) != 0) = true := by rw [bne_iff_ne]; exact hx0
              rw [hxb] at hmt
              have HZ : Hid ((nz (mm.kids.take (cc + 1))).length = (nz (mm.kids.take cc)).length + 1) := by
                show _ = _
                rw [nz_take_more hx hx0, List.length_append]; rfl
              have hget : I.hs[(nz (mm.kids.take cc)).length]? = some ((HL t).getD j []) := by
                rw [HIS.out]
                unfold kidH
                rw [List.getElem?_map, nz_split mm.kids (cc + 1), nz_take_more hx hx0, List.append_assoc, List.getElem?_append_right (Nat.le_refl _), Nat.sub_self]
                rfl
              have hAl : (nz (mm.kids.take cc)).length < I.hs.length := (List.getElem?_eq_some_iff.1 hget).1
              obtain ⟨y, rfl, hy⟩ := (HTa.out.after Nz) (by omega)
              have e1 := hy _ _ hget
              have e2 := HPR.out wr (N5.trans (Ka.trans Nz)) j hjl
              have hA16 : (nz (mm.kids.take cc)).length ≤ 16 := Nat.le_trans (nz_le _) (by rw [List.length_take]; omega)
              clear hx hget hy hx0
              generalize maskT mm.kids 16 = mk at *
              generalize (nz (mm.kids.take cc)).length = A at *
              generalize bs ((HL t).getD j []) = sj at *
              generalize I.hs.length = nh at *
              have hbj : (sj.toList != sj.toList) = false := by simp
              have hAn : (A : Int) < (nh : Int) := by omega
              have dA : decide ((nh : Int) ≤ (A : Int)) = false := decide_eq_false (by omega)
              have dA2 : decide (nh ≤ A) = false := decide_eq_false (by omega)
              have hjt : (j : Int) < (t.length : Int) := by omega
              have q1 := NewW.cell (W := wr) (g := G) (o := 5) z5
              have q2 : ∀ p : NewW wr, p.v.cell? (y.add A) = some (.string sj) := fun p => (p.h.cell (World.block_lt_of_cell? wr _ e1)).trans e1
              have q3 := NewW.cell (W := wr) (g := pg) (o := po + j) e2
              have hne := NewW.ne wr
              go_wp2_with fail
              refine region_new wr (New.refl wr) (by kernel_rfl) (by kernel_rfl) ?_
              repeat (go_big_quiet_step (fail))
              refine wpQuiet_nil ?_
              rintro Wq ⟨⟨_, kq⟩, rfl⟩
              clear q1 q2 q3 hne z4 z5 cx e1 e2
              go_wp2_with fail
              exact ⟨⟨cc + 1, by omega, by go_num, by rw [HZ.out]; go_num, Nz.trans kq⟩, by simp [intOf]; omega⟩
          · obtain rfl : cc = 16 := by omega
            have hA : (nz (mm.kids.take 16)).length = I.hs.length := by
              rw [HIS.out, List.take_of_length_le (by omega)]
              exact (List.length_map _).symm
            rw [hA] at *
            generalize I.hs.length = nh at *
            have hnb : ((nh : Int) != (nh : Int)) = false := by simp
            go_wp2_with fail
            exact ⟨⟨i + 1, by omega, by go_num, Ka.trans Nz⟩, by simp [intOf]; omega⟩
      · obtain rfl : i = t.length := by omega
        go_wp2_with fail
        refine Calls.mono (hwk _ M) ?_
        rintro _ W6 ⟨rfl, N6⟩
        go_wp2_with fail
        go_ret
        exact ⟨rfl, M.trans N6⟩

end Go.Proofs.YtjikdbmdaeonlaaDoor
namespace Go.Proofs.YtjikdbmdaeonlaaDoor
open Go.RowKit
set_option maxRecDepth 20000

/-- The pairs with another value at a place. -/
def chg (l : List Pr) (k : Nat) (v : Bt) : List Pr := l.set k ((l.getD k ([], [])).1, v)
theorem chg_keys {l : List Pr} {k : Nat} (v : Bt) (hk : k < l.length) : (chg l k v).map (·.1) = l.map (·.1) := by
  unfold chg
  rw [List.map_set]
  refine set_same ?_
  rw [List.getElem?_map, List.getD_eq_getElem?_getD, List.getElem?_eq_getElem hk]; rfl
theorem chg_may {l : List Pr} {k : Nat} {v : Bt} (hk : k < l.length) (h : mayB l = true) (hv : v.length ≤ 16) : mayB (chg l k v) = true := by
  have hl : (chg l k v).length = l.length := List.length_set
  rw [mayB_iff] at h ⊢
  intro i hi
  rw [hl] at hi
  have hkey : ∀ j, j < l.length → ((chg l k v).getD j ([], [])).1 = (l.getD j ([], [])).1 := fun j hj => by
    have e := congrArg (fun x => x[j]?) (chg_keys v hk)
    simp only [List.getElem?_map] at e
    rw [List.getD_eq_getElem?_getD, List.getD_eq_getElem?_getD, List.getElem?_eq_getElem hj, List.getElem?_eq_getElem (by rw [hl]; exact hj)]
    rw [List.getElem?_eq_getElem hj, List.getElem?_eq_getElem (by rw [hl]; exact hj)] at e
    exact Option.some.inj e
  have hi' := h i hi
  unfold atB at hi' ⊢
  rw [Bool.and_eq_true] at hi' ⊢
  refine ⟨?_, ?_⟩
  · have h1 := hi'.1
    have hval : ((chg l k v).getD i ([], [])).2.length ≤ 16 := by
      unfold chg
      by_cases e : k = i
      · subst e
        rw [List.getD_eq_getElem?_getD, List.getElem?_set_self hk]; exact hv
      · rw [List.getD_eq_getElem?_getD, List.getElem?_set_ne e, ← List.getD_eq_getElem?_getD]
        exact (okP_key _ h1).2.2
    unfold okP at h1 ⊢
    rw [hkey i hi]
    simp only [Bool.and_eq_true, decide_eq_true_eq] at h1 ⊢
    exact ⟨h1.1, h1.2.1, hval⟩
  · rw [hkey i hi]
    have h2 := hi'.2
    by_cases h0 : i = 0
    · simp [h0]
    · rw [hkey (i - 1) (by omega)]; exact h2
theorem chg_same {l : List Pr} {k : Nat} (hk : k < l.length) : chg l k (l.getD k ([], [])).2 = l := by
  unfold chg
  refine set_same ?_
  rw [List.getElem?_eq_getElem hk, List.getD_eq_getElem?_getD, List.getElem?_eq_getElem hk]; rfl
theorem chg_at {l : List Pr} {k : Nat} (v : Bt) (hk : k < l.length) (h : chg l k v = l) : (l.getD k ([], [])).2 = v := by
  have e := congrArg (fun x => x[k]?) h
  unfold chg at e
  simp only [List.getElem?_set_self hk, List.getElem?_eq_getElem hk] at e
  rw [List.getD_eq_getElem?_getD, List.getElem?_eq_getElem hk]
  exact (congrArg Prod.snd (Option.some.inj e)).symm

end Go.Proofs.YtjikdbmdaeonlaaDoor
namespace Go.Proofs.YtjikdbmdaeonlaaDoor
open Go.RowKit
set_option maxRecDepth 20000

theorem value_len {w : World} {v : Value} {l : List Pr} (P : Ls w 2 v (l.map prC)) (hl : l.length ≤ 1000000) :
    ∃ v' w', (Builtin.append_ #[45, 45] 45 #[.slice (some ⟨w.heap.size, 0, none⟩) 0 0, v]).run Tryd.prog (w.alloc (.cells #[] 58)) = .ok v' w' ∧ Pl w' (Fresh w) 58 2 v' (l.map prC) ∧ New w w' :=
  run_copy_all (w := w) 45 58 45 2 _ _ Tryd.underlying45 info52 rfl (by decide) (by decide) P (fun e he => by obtain ⟨p, _, rfl⟩ := List.mem_map.1 he; rfl) (fun e he => by obtain ⟨p, _, rfl⟩ := List.mem_map.1 he; exact prC_one p) (by rw [List.length_map]; exact hl)

theorem wpQuiet_load_in {P : Program} {ops : Array Oper} {Q : Act → Prop} {a : Act} {o : Oper} {rest : List Oper} {C : World → Prop} (hw : Region.wanted o (yielded ops a.tmps) = true) (ty : TypeId) (x : Operand) (ho : o.op = .load ty x)
    (g off : Nat) (hx : a.eval x = .pointer (some ⟨g, off, none⟩)) (cs : List Value) (hr : ∀ w, C w → w.rangeAt g off cs) (d : TypeDesc)
    (hu : P.underlying ty = some d) (hd : d.isRow = true) (hi : (P.info? ty).map (·.size) = some cs.length)
    (h : wpQuiet P ops C Q rest (a.put o.dst (.agg cs.toArray))) : wpQuiet P ops C Q (o :: rest) a :=
  wpQuiet_run hw _ (fun w k => exec_load ho g off hx cs (hr w k) d hu hd hi) h

theorem addr0 (a : Addr) : a.add 0 = a := by
  unfold Addr.add
  split
  · rfl
  · rename_i h; exact absurd rfl h
theorem row_quiet {W : World} {g : Nat} {C : Array Value} {t : TypeId} (R : Row W g C t) : ∀ w, (∃ p : NewW W, w = p.v) → w.rangeAt g 0 C.toList := fun w ⟨p, hp⟩ => by
  subst hp
  have h := (R.after p.h).range 0 C.size
  rw [List.drop_zero, List.take_of_length_le (by simp)] at h
  exact h

set_option maxHeartbeats 16000000 in
theorem value_any {w : World} {v : Value} {l : List Pr} {z : UInt8} {q : ByteArray} (P : Ls w 2 v (l.map prC)) (hl : l.length ≤ maxLen) (hT : No.TT w) :
    Calls Tryd.prog 6 #[v, .int .u8 (z.toNat : Int), .string q] w fun e w' => e = .returned (.bool true) ∧ New w w' := by
  unfold maxLen at hl
  have hwk := fun W (N : New w W) => wakes_any W (hT.after N)
  have hlp := longPairs_any P (by omega)
  have HT : Hid (No.TT w) := hT
  obtain ⟨b1, hb1⟩ : ∃ b, longB lenP 3000 ([], []) l = b := ⟨_, rfl⟩
  rw [hb1] at hlp
  have HB1 : Hid (longB lenP 3000 ([], []) l = b1) := hb1
  have HP : Hid (Ls w 2 v (l.map prC)) := P
  obtain ⟨a, c, rfl, hc, HLL⟩ := P.open ([], [])
  clear P hT hb1
  cases b1
  case true =>
    go_enter Tryd.func6, Tryd.ntmps6
    go_wp2_with fail
    refine Calls.mono hlp ?_
    rintro _ W1 ⟨rfl, N1⟩
    have N1 : New w W1 := N1
    clear hlp
    go_wp2_with fail
    refine Calls.mono (hwk _ N1) ?_
    rintro _ W6 ⟨rfl, N6⟩
    have N6 : New W1 W6 := N6
    go_wp2_with fail
    go_ret
    exact ⟨rfl, N1.trans N6⟩
  obtain ⟨hs1, hs2⟩ := short_of HB1.out
  have hmay := fun W (N : New w W) => refMay_any (HP.out.after N) hs1 hs2
  obtain ⟨b2, hb2⟩ : ∃ b, mayB l = b := ⟨_, rfl⟩
  rw [hb2] at hmay
  have HB2 : Hid (mayB l = b2) := hb2
  have HS2 : Hid (∀ p ∈ l, p.1.length ≤ 4000 ∧ p.2.length ≤ 4000) := hs2
  clear hb2 hs2
  cases b2
  case false =>
    go_enter Tryd.func6, Tryd.ntmps6
    go_wp2_with fail
    refine Calls.mono hlp ?_
    rintro _ W1 ⟨rfl, N1⟩
    have N1 : New w W1 := N1
    clear hlp
    go_wp2_with fail
    refine Calls.mono (hmay _ N1) ?_
    rintro _ W2 ⟨rfl, N2⟩
    have N2 : New W1 W2 := N2
    have M2 := N1.trans N2
    clear hmay
    go_wp2_with fail
    refine Calls.mono (hwk _ M2) ?_
    rintro _ W6 ⟨rfl, N6⟩
    have N6 : New W2 W6 := N6
    go_wp2_with fail
    go_ret
    exact ⟨rfl, M2.trans N6⟩
  by_cases h0 : l.length = 0
  · have d0 : ((l.length : Int) == 0) = true := by rw [beq_iff_eq]; omega
    obtain ⟨n, hn⟩ : ∃ n, l.length = n := ⟨_, rfl⟩
    rw [hn] at hlp hmay hc d0 ⊢
    clear hn h0
    go_enter Tryd.func6, Tryd.ntmps6
    go_wp2_with fail
    refine Calls.mono hlp ?_
    rintro _ W1 ⟨rfl, N1⟩
    have N1 : New w W1 := N1
    clear hlp
    go_wp2_with fail
    refine Calls.mono (hmay _ N1) ?_
    rintro _ W2 ⟨rfl, N2⟩
    have N2 : New W1 W2 := N2
    have M2 := N1.trans N2
    clear hmay
    go_wp2_with fail
    refine Calls.mono (hwk _ M2) ?_
    rintro _ W6 ⟨rfl, N6⟩
    have N6 : New W2 W6 := N6
    go_wp2_with fail
    go_ret
    exact ⟨rfl, M2.trans N6⟩
  have d0 : ((l.length : Int) == 0) = false := by rw [beq_eq_false_iff_ne]; omega
  by_cases h12 : 10 < l.length
  · have d12 : decide ((10 : Int) < (l.length : Int)) = true := decide_eq_true (by omega)
    go_enter Tryd.func6, Tryd.ntmps6
    go_wp2_with fail
    refine Calls.mono hlp ?_
    rintro _ W1 ⟨rfl, N1⟩
    have N1 : New w W1 := N1
    clear hlp
    go_wp2_with fail
    refine Calls.mono (hmay _ N1) ?_
    rintro _ W2 ⟨rfl, N2⟩
    have N2 : New W1 W2 := N2
    have M2 := N1.trans N2
    clear hmay
    go_wp2_with fail
    refine Calls.mono (hwk _ M2) ?_
    rintro _ W6 ⟨rfl, N6⟩
    have N6 : New W2 W6 := N6
    go_wp2_with fail
    go_ret
    exact ⟨rfl, M2.trans N6⟩
  have d12 : decide ((10 : Int) < (l.length : Int)) = false := decide_eq_false (by omega)
  by_cases h16 : 16 < q.size
  · have d16 : decide ((16 : Int) < (q.size : Int)) = true := decide_eq_true (by omega)
    go_enter Tryd.func6, Tryd.ntmps6
    go_wp2_with fail
    refine Calls.mono hlp ?_
    rintro _ W1 ⟨rfl, N1⟩
    have N1 : New w W1 := N1
    clear hlp
    go_wp2_with fail
    refine Calls.mono (hmay _ N1) ?_
    rintro _ W2 ⟨rfl, N2⟩
    have N2 : New W1 W2 := N2
    have M2 := N1.trans N2
    clear hmay
    go_wp2_with fail
    refine Calls.mono (hwk _ M2) ?_
    rintro _ W6 ⟨rfl, N6⟩
    have N6 : New W2 W6 := N6
    go_wp2_with fail
    go_ret
    exact ⟨rfl, M2.trans N6⟩
  have d16 : decide ((16 : Int) < (q.size : Int)) = false := decide_eq_false (by omega)
  have hbu := fun W (N : New w W) => r_build (HP.out.after N) hs1 HS2.out
  have hbX : bX l = buildN l := by unfold bX; rw [HB2.out]; rfl
  rw [HB2.out, hbX] at hbu
  obtain ⟨k, hk⟩ : ∃ k, z.toNat % l.length = k := ⟨_, rfl⟩
  have hkl : k < l.length := by rw [← hk]; exact Nat.mod_lt _ (by omega)
  have hkm : (wrap64 (z.toNat : Int)).tmod (l.length : Int) = (k : Int) := by
    have hz := z.toNat_lt
    rw [show wrap64 (z.toNat : Int) = (z.toNat : Int) by unfold wrap64; omega, ← hk]; norm_cast
  have hcp := fun W (N : New w W) => value_len (HP.out.after N) (by omega)
  have hmm := chg_may (v := L q) hkl HB2.out (by rw [L_size]; omega)
  have HMM : Hid (mayB (chg l k (L q)) = true) := hmm
  clear hbX hk
  go_enter Tryd.func6, Tryd.ntmps6
  go_wp2_with fail
  refine Calls.mono hlp ?_
  rintro _ W1 ⟨rfl, N1⟩
  have N1 : New w W1 := N1
  clear hlp
  go_wp2_with fail
  refine Calls.mono (hmay _ N1) ?_
  rintro _ W2 ⟨rfl, N2⟩
  have N2 : New W1 W2 := N2
  have M2 := N1.trans N2
  clear hmay
  obtain ⟨v7, W3, ha3, Q3, N3⟩ := hcp _ M2
  have hl3 : (l.map prC).length = l.length := List.length_map _
  obtain ⟨g3, c3, rfl, hF3, hg3, hc3⟩ := Q3.full (by omega)
  rw [hl3] at ha3 hc3 Q3
  have M3 := M2.trans N3
  have he3 : (l.map prC)[k]? = some (prC (l.getD k ([], []))) := map_getD prC l k ([], []) hkl
  obtain ⟨cc, ff⟩ := Q3.cellAt he3 (j := 1) (u := .string (bs (l.getD k ([], [])).2)) rfl
  have Q4 := Q3.setCell he3 (j := 1) (by omega) (.string q)
  have hset : (l.map prC).set k ((prC (l.getD k ([], []))).set 1 (.string q)) = (chg l k (L q)).map prC := by
    unfold chg
    rw [List.map_set]
    congr 1
  rw [hset] at Q4
  have hclen : (chg l k (L q)).length = l.length := List.length_set
  have M4 : New w (W3.setCell ⟨g3, k * 2 + 1, none⟩ (.string q)) := M3.setCell (a := ⟨g3, k * 2 + 1, none⟩) (Nat.le_trans M2.size hF3) _
  have HQ4 : Hid (Pl (W3.setCell ⟨g3, k * 2 + 1, none⟩ (.string q)) (Fresh W2) 58 2 (.slice (some ⟨g3, 0, none⟩) l.length c3) ((chg l k (L q)).map prC)) := Q4
  have hki : (k : Int) < (l.length : Int) := by omega
  clear hset Q4 Q3 he3 hcp
  go_wp2_with (first
    | refine wpList_run (by rfl) _ _ (exec_buildNone (by rfl) (run_buildNone _ 45 58 _ _ _ Tryd.underlying45 info52)) ?_
    | refine wpList_appends (by rfl) _ _ 45 45 _ _ _ W3 (by rfl) (by rfl) (by rfl) (by rfl) ha3 ?_)
  generalize W3.setCell ⟨g3, k * 2 + 1, none⟩ (.string q) = W4 at *
  have hbm := fun W (N : New W4 W) => r_build (HQ4.out.ls.after N) (by rw [hclen]; exact hs1) (fun p hp => by
    have h1 := (mayB_rise _ HMM.out).2 p hp
    have := okP_key p h1; omega)
  have hbY : bX (chg l k (L q)) = buildN (chg l k (L q)) := by unfold bX; rw [HMM.out]; rfl
  rw [HMM.out, hbY] at hbm
  have htk1 := build_ok HB2.out (by omega)
  have htk2 := build_ok HMM.out (by rw [hclen]; omega)
  have hok1 := ok_build HB2.out
  have hok2 := ok_build HMM.out
  have hal := alike (chg_keys (L q) hkl).symm
  have hf1 : (l.getD k ([], [])).2 = L q → buildN l = buildN (chg l k (L q)) := fun e => by rw [← e, chg_same hkl]
  have hf2 : (l.getD k ([], [])).2 ≠ L q → (∀ (i : Nat) a b, (buildN l)[i]? = some a → (buildN (chg l k (L q)))[i]? = some b → (HL (buildN l)).getD i [] = (HL (buildN (chg l k (L q)))).getD i [] → itW a (HL (buildN l)) = itW b (HL (buildN (chg l k (L q))))) → (HL (buildN l)).getD 0 [] ≠ (HL (buildN (chg l k (L q)))).getD 0 [] := fun hne H h0 =>
    hne (chg_at (L q) hkl (same_down HB2.out HMM.out (chg_keys (L q) hkl).symm h0 H).symm)
  have htn : 0 < (buildN l).length := by
    have := (trie_blk HB2.out (by intro e; rw [e] at h0; exact h0 rfl)).ne
    unfold buildN; rw [List.length_map]; exact this
  obtain ⟨v0, hv0⟩ : ∃ v0, (l.getD k ([], [])).2 = v0 := ⟨_, rfl⟩
  rw [hv0] at hf1 hf2
  obtain ⟨gl, ol, rfl, hgl, hrl⟩ := HLL.out (by omega)
  have HV : Hid (∀ W, New w W → W.cell? ⟨gl, ol + k * 2 + 1, none⟩ = some (.string (bs v0))) := fun W N => by
    have := hrl W N k hkl 1 (.string (bs (l.getD k ([], [])).2)) rfl
    rw [hv0] at this; exact this
  clear hbY hmm hv0 HMM HB2 hrl cc ff hclen HQ4 ha3 HS2
  generalize buildN (chg l k (L q)) = u at *
  generalize buildN l = t at *
  have HUL : Hid (t.length = u.length) := hal.len
  have HOK1 : Hid (okT t = true) := hok1
  have HOK2 : Hid (okT u = true) := hok2
  have HTK1 : Hid (TOk t) := htk1
  have HTK2 : Hid (TOk u) := htk2
  have HF1 : Hid (v0 = L q → t = u) := hf1
  have HF2 : Hid (v0 ≠ L q → (∀ (i : Nat) a b, t[i]? = some a → u[i]? = some b → (HL t).getD i [] = (HL u).getD i [] → itW a (HL t) = itW b (HL u)) → (HL t).getD 0 [] ≠ (HL u).getD 0 []) := hf2
  have htl : t.length ≤ 10000 := htk1.few
  clear hok1 hok2 htk1 htk2 hf1 hf2 hal
  refine Calls.mono (hbu _ M4) ?_
  rintro _ W5 ⟨ta, tn, tc, b, m, d, rfl, Q5, _, N5⟩
  have N5 : New W4 W5 := N5
  have M5 := M4.trans N5
  obtain ⟨a', c', e, htc, _⟩ := Q5.open noNd
  cases e
  have HQ5 : Hid (Ls W5 20 (.slice ta t.length tc) (t.map ndC)) := Q5
  have hf := field_T ta t.length tc b m d true
  clear hbu M4 Q5
  go_wp2_with fail
  refine Calls.mono (hbm _ N5) ?_
  rintro _ W6 ⟨ua, un, uc, b', m', d', rfl, Q6, _, N6⟩
  have N6 : New W5 W6 := N6
  have M6 := M5.trans N6
  obtain ⟨a', c', e, huc, _⟩ := Q6.open noNd
  cases e
  rw [← HUL.out] at Q6 huc ⊢
  have HQ6 : Hid (Ls W6 20 (.slice ua t.length uc) (u.map ndC)) := Q6
  have HQ5' : Hid (Ls W6 20 (.slice ta t.length tc) (t.map ndC)) := HQ5.out.after N6
  have hf' := field_T ua t.length uc b' m' d' true
  clear hbm N5 N6 Q6 M5
  go_wp2_with fail
  have ha := all_any HQ5'.out HTK1.out (HT.out.after M6)
  rw [HOK1.out, allL_ok HOK1.out] at ha
  refine Calls.mono ha ?_
  rintro _ W7 ⟨va, rfl, Q7, N7⟩
  have N7 : New W6 W7 := N7
  have M7 := M6.trans N7
  obtain ⟨pa, pc, rfl, hpc, HA⟩ := Q7.open []
  rw [HL_len] at HA hpc ⊢
  have HPA : Hid (No.Tx W7 pa (HL t)) := ls_tx Q7
  clear ha Q7 hf hf'
  go_wp2_with fail
  have ha := all_any (HQ6.out.after N7) HTK2.out (HT.out.after M7)
  rw [HOK2.out, allL_ok HOK2.out] at ha
  refine Calls.mono ha ?_
  rintro _ W8 ⟨va, rfl, Q8, N8⟩
  have N8 : New W7 W8 := N8
  have M8 := M7.trans N8
  obtain ⟨qa, qc, rfl, hqc, HB⟩ := Q8.open []
  rw [HL_len, ← HUL.out] at HB hqc ⊢
  have HQA : Hid (No.Tx W8 qa (HL u)) := ls_tx Q8
  have HPA8 : Hid (No.Tx W8 pa (HL t)) := HPA.out.after N8
  have HQ58 : Hid (Ls W8 20 (.slice ta t.length tc) (t.map ndC)) := HQ5'.out.after (N7.trans N8)
  have HQ68 : Hid (Ls W8 20 (.slice ua t.length uc) (u.map ndC)) := HQ6.out.after (N7.trans N8)
  have cv := HV.out W8 M8
  have hnb : ((t.length : Int) != (t.length : Int)) = false := by simp
  clear ha Q8 HA HB HPA HQ5' HQ6 HQ5 HV
  have hqv : ((bs v0).toList == q.toList) = (v0 == L q) := by
    have := No.beq_bs v0 (L q)
    rwa [bs_L] at this
  by_cases hsame : v0 = L q
  · obtain rfl := HF1.out hsame
    rw [show (v0 == L q) = true by rw [beq_iff_eq]; exact hsame] at hqv
    have htx := No.texts_any (HL t) (HL t) pa qa pc qc (by rw [HL_len]; omega) W8 HPA8.out HQA.out
    rw [HL_len, beq_self_eq_true] at htx
    clear hsame HF1 HF2 HQA HPA8 HQ58 HQ68 HOK2 HTK2 HUL
    go_wp2_with fail
    refine Calls.mono htx ?_
    rintro _ W9 ⟨rfl, N9⟩
    have N9 : New W8 W9 := N9
    clear htx
    go_wp2_with fail
    refine Calls.mono (hwk _ (M8.trans N9)) ?_
    rintro _ Wa ⟨rfl, Na⟩
    have Na : New W9 Wa := Na
    go_wp2_with fail
    go_ret
    exact ⟨rfl, (M8.trans N9).trans Na⟩
  · rw [show (v0 == L q) = false by rw [beq_eq_false_iff_ne]; exact hsame] at hqv
    have HF : Hid ((∀ (i : Nat) a b, t[i]? = some a → u[i]? = some b → (HL t).getD i [] = (HL u).getD i [] → itW a (HL t) = itW b (HL u)) → (HL t).getD 0 [] ≠ (HL u).getD 0 []) := HF2.out hsame
    clear hsame HF1 HF2
    obtain ⟨px, rfl, hpx⟩ := HPA8.out (by rw [HL_len]; exact htn)
    obtain ⟨qx, rfl, hqx⟩ := HQA.out (by rw [HL_len, ← HUL.out]; exact htn)
    have HPX : Hid (∀ W, New W8 W → ∀ i, i < t.length → W.cell? (px.add i) = some (.string (bs ((HL t).getD i [])))) := fun W N i hi => by
      have := hpx i ((HL t).getD i []) (by rw [List.getD_eq_getElem?_getD, List.getElem?_eq_getElem (by rw [HL_len]; exact hi)]; rfl)
      exact (N.cell (World.block_lt_of_cell? W8 _ this)).trans this
    have HQX : Hid (∀ W, New W8 W → ∀ i, i < t.length → W.cell? (qx.add i) = some (.string (bs ((HL u).getD i [])))) := fun W N i hi => by
      have := hqx i ((HL u).getD i []) (by rw [List.getD_eq_getElem?_getD, List.getElem?_eq_getElem (by rw [HL_len, ← HUL.out]; exact hi)]; rfl)
      exact (N.cell (World.block_lt_of_cell? W8 _ this)).trans this
    clear hpx hqx HPA8 HQA
    go_wp2_with fail
    clear cv hqv hnb
    go_loopw [15] (fun s wr => ∃ i : Nat, i ≤ t.length ∧ s = .int .i64 (i : Int) ∧ New W8 wr ∧ Hid (∀ (j : Nat) a b, j < i → t[j]? = some a → u[j]? = some b → (HL t).getD j [] = (HL u).getD j [] → itW a (HL t) = itW b (HL u))) (fun s _ => t.length - (intOf s).toNat)
    case atStart => exact ⟨0, Nat.zero_le _, rfl, New.refl _, fun j a b h => absurd h (by omega)⟩
    case round =>
      obtain ⟨i, hit, rfl, N, HI⟩ := hrel
      have M : New w wr := M8.trans N
      by_cases hlt : i < t.length
      · have hlu : i < u.length := by rw [← HUL.out]; exact hlt
        obtain ⟨m1, hm1⟩ : ∃ m1, t[i]? = some m1 := ⟨_, List.getElem?_eq_getElem hlt⟩
        obtain ⟨m2, hm2⟩ : ∃ m2, u[i]? = some m2 := ⟨_, List.getElem?_eq_getElem hlu⟩
        have hi1 := item_yes (HQ58.out.after N) HTK1.out (HT.out.after M) hm1 HOK1.out
        have hi2 := fun W (N' : New wr W) => item_yes (HQ68.out.after (N.trans N')) HTK2.out (HT.out.after (M.trans N')) hm2 HOK2.out
        have hsm1 := No.good_small _ ((ok_rt HOK1.out).good hm1)
        have HH1 : Hid ((HL t).getD i [] = No.hashB (itW m1 (HL t))) := getD_some (HL_at (ok_rt HOK1.out).kd hm1)
        have HH2 : Hid ((HL u).getD i [] = No.hashB (itW m2 (HL u))) := getD_some (HL_at (ok_rt HOK2.out).kd hm2)
        have HNX : Hid (((HL t).getD i [] = (HL u).getD i [] → itW m1 (HL t) = itW m2 (HL u)) → ∀ (j : Nat) a b, j < i + 1 → t[j]? = some a → u[j]? = some b → (HL t).getD j [] = (HL u).getD j [] → itW a (HL t) = itW b (HL u)) := fun H j a b hj ha hb e => by
          rcases Nat.lt_or_ge j i with h | h
          · exact HI.out j a b h ha hb e
          · obtain rfl : j = i := by omega
            rw [hm1] at ha; rw [hm2] at hb
            obtain rfl := Option.some.inj ha
            obtain rfl := Option.some.inj hb
            exact H e
        have hp := fun W (N' : New wr W) => HPX.out W (N.trans N') i hlt
        have hq := fun W (N' : New wr W) => HQX.out W (N.trans N') i hlt
        have hin : (i : Int) < (t.length : Int) := by omega
        clear HI hm1 hm2 hlu
        generalize itW m1 (HL t) = I at *
        generalize itW m2 (HL u) = J at *
        generalize (HL t).getD i [] = hI at *
        generalize (HL u).getD i [] = hJ at *
        go_wp2_with fail
        refine Calls.mono hi1 ?_
        rintro _ Wa ⟨xa, xc, rfl, hx, _, Na⟩
        have Na : New wr Wa := Na
        have h1 := No.itC_one I xa xc
        obtain ⟨C, hC⟩ : ∃ C, No.itC I xa xc = C := ⟨_, rfl⟩
        have HC : Hid (No.itC I xa xc = C) := hC
        have hCs : C.size = 6 := by rw [← hC]; rfl
        rw [hC] at h1 ⊢
        clear hi1 hC
        go_wp2_with (first
          | (refine wpList_alloc_at (by rfl) 16 (by rfl) 32 (by rfl) _ _ _ No.info24 ?_; intro Wb Rb Nb)
          | (refine wpList_store_new (by rfl) 32 _ _ (by rfl) Wa.heap.size C (by rfl) (by rfl) 32 _ Rb (by rw [hCs]; exact No.i24) (by rw [hCs]; rfl) h1 ?_; intro Wc Rc Bc; have Nc : New Wa Wc := Bc.new Nb (Nat.le_refl _)))
        have hxc := hx.after Nc
        have Nwc : New wr Wc := Na.trans Nc
        have hGc : Wa.heap.size < Wc.heap.size := Rc.lt
        generalize Wa.heap.size = G at *
        clear Rb Nb Bc hx Na Nc
        refine Calls.mono (hi2 _ Nwc) ?_
        rintro _ Wd ⟨ya, yc, rfl, hy, _, Nd'⟩
        have Nd' : New Wc Wd := Nd'
        have h2 := No.itC_one J ya yc
        obtain ⟨D, hD⟩ : ∃ D, No.itC J ya yc = D := ⟨_, rfl⟩
        have HD : Hid (No.itC J ya yc = D) := hD
        have hDs : D.size = 6 := by rw [← hD]; rfl
        rw [hD] at h2 ⊢
        have Rd := Rc.after Nd'
        have hxd := hxc.after Nd'
        have Nwd := Nwc.trans Nd'
        clear hi2 hD Rc hxc Nwc Nd' hGc
        go_wp2_with (first
          | (refine wpList_alloc_at (by rfl) 18 (by rfl) 32 (by rfl) _ _ _ No.info24 ?_; intro We Re Ne)
          | (refine wpList_store_new (by rfl) 32 _ _ (by rfl) Wd.heap.size D (by rfl) (by rfl) 32 _ Re (by rw [hDs]; exact No.i24) (by rw [hDs]; rfl) h2 ?_; intro Wf Rf Bf; have Nf : New Wd Wf := Bf.new Ne (Nat.le_refl _)))
        have HXF : Hid (No.Tx Wf xa I.hs) := hxd.after Nf
        have HYF : Hid (No.Tx Wf ya J.hs) := hy.after Nf
        have HRC : Hid (Row Wf G C 32) := Rd.after Nf
        have Nwf : New wr Wf := Nwd.trans Nf
        have HRD : Hid (Row Wf Wd.heap.size D 32) := Rf
        generalize Wd.heap.size = E at *
        clear Re Ne Bf hxd hy Rd Nwd Nf Rf
        have hsame := fun V (K : New Wf V) => No.c_same I J hsm1 xa ya xc yc V (HXF.out.after K) (HYF.out.after K)
        rw [HC.out, HD.out] at hsame
        obtain ⟨e, he⟩ : ∃ e, No.eqIt I J = e := ⟨_, rfl⟩
        rw [he] at hsame
        have hp2 := hp _ Nwf
        have hq2 := hq _ Nwf
        cases e
        · have hIJ : ¬ I = J := fun h => by rw [(No.eqIt_iff I J).2 h] at he; cases he
          have hne := NewW.ne Wf
          clear he
          go_wp2_with fail
          refine region_new Wf (New.refl Wf) (by kernel_rfl) (by kernel_rfl) ?_
          refine wpQuiet_load_in (by rfl) 32 _ (by rfl) G 0 (by rfl) C.toList (row_quiet HRC.out) _ Tryd.underlying32 rfl (by rw [Array.length_toList, hCs]; exact No.i24) ?_
          refine wpQuiet_load_in (by rfl) 32 _ (by rfl) E 0 (by rfl) D.toList (row_quiet HRD.out) _ Tryd.underlying32 rfl (by rw [Array.length_toList, hDs]; exact No.i24) ?_
          simp only [Act.put, List.setIfInBounds_toArray, List.set_cons_zero, List.set_cons_succ, Array.toArray_toList]
          repeat (go_big_quiet_step (first | (go_at_call 16; exact Calls.neww (hsame _ (NewW.h _)))))
          refine wpQuiet_nil ?_
          rintro Wg ⟨⟨_, kg⟩, rfl⟩
          clear hne
          have hsame2 := fun V (K : New Wg V) => hsame V (kg.trans K)
          have e1 := (kg.cell (World.block_lt_of_cell? Wf _ hp2)).trans hp2
          have e2 := (kg.cell (World.block_lt_of_cell? Wf _ hq2)).trans hq2
          have q1 : ∀ p : NewW Wg, p.v.cell? (px.add i) = some (.string (bs hI)) := fun p => (p.h.cell (World.block_lt_of_cell? Wg _ e1)).trans e1
          have q2 : ∀ p : NewW Wg, p.v.cell? (qx.add i) = some (.string (bs hJ)) := fun p => (p.h.cell (World.block_lt_of_cell? Wg _ e2)).trans e2
          have HRC2 : Hid (Row Wg G C 32) := HRC.out.after kg
          have HRD2 : Hid (Row Wg E D 32) := HRD.out.after kg
          have Nwg := Nwf.trans kg
          have hne := NewW.ne Wg
          have hbb := No.beq_bs hI hJ
          clear hsame e1 e2 hp2 hq2 HRC HRD kg
          by_cases hh : hI = hJ
          · rw [show (hI == hJ) = true by rw [beq_iff_eq]; exact hh] at hbb
            clear hh
            generalize bs hI = sI at *
            generalize bs hJ = sJ at *
            go_wp2_with fail
            refine region_new Wg (New.refl Wg) (by kernel_rfl) (by kernel_rfl) ?_
            refine wpQuiet_load_in (by rfl) 32 _ (by rfl) G 0 (by rfl) C.toList (row_quiet HRC2.out) _ Tryd.underlying32 rfl (by rw [Array.length_toList, hCs]; exact No.i24) ?_
            refine wpQuiet_load_in (by rfl) 32 _ (by rfl) E 0 (by rfl) D.toList (row_quiet HRD2.out) _ Tryd.underlying32 rfl (by rw [Array.length_toList, hDs]; exact No.i24) ?_
            simp only [Act.put, List.setIfInBounds_toArray, List.set_cons_zero, List.set_cons_succ, Array.toArray_toList]
            repeat (go_big_quiet_step (first | (go_at_call 16; exact Calls.neww (hsame2 _ (NewW.h _)))))
            refine wpQuiet_nil ?_
            rintro Wh ⟨⟨_, kh⟩, rfl⟩
            clear hne q1 q2
            go_wp2_with fail
            refine Calls.mono (hwk _ (M.trans (Nwg.trans kh))) ?_
            rintro _ Wi ⟨rfl, Ni⟩
            have Ni : New Wh Wi := Ni
            go_wp2_with fail
            go_ret
            exact ⟨rfl, (M.trans (Nwg.trans kh)).trans Ni⟩
          · have HNX2 := HNX.out (fun h => absurd h hh)
            have HNX3 : Hid (_) := HNX2
            rw [show (hI == hJ) = false by rw [beq_eq_false_iff_ne]; exact hh] at hbb
            clear hh HNX2
            generalize bs hI = sI at *
            generalize bs hJ = sJ at *
            go_wp2_with fail
            refine region_new Wg (New.refl Wg) (by kernel_rfl) (by kernel_rfl) ?_
            refine wpQuiet_load_in (by rfl) 32 _ (by rfl) G 0 (by rfl) C.toList (row_quiet HRC2.out) _ Tryd.underlying32 rfl (by rw [Array.length_toList, hCs]; exact No.i24) ?_
            refine wpQuiet_load_in (by rfl) 32 _ (by rfl) E 0 (by rfl) D.toList (row_quiet HRD2.out) _ Tryd.underlying32 rfl (by rw [Array.length_toList, hDs]; exact No.i24) ?_
            simp only [Act.put, List.setIfInBounds_toArray, List.set_cons_zero, List.set_cons_succ, Array.toArray_toList]
            repeat (go_big_quiet_step (first | (go_at_call 16; exact Calls.neww (hsame2 _ (NewW.h _)))))
            refine wpQuiet_nil ?_
            rintro Wh ⟨⟨_, kh⟩, rfl⟩
            clear hne q1 q2
            go_wp2_with fail
            exact ⟨⟨i + 1, by omega, by go_num, N.trans (Nwg.trans kh), HNX3.out⟩, by simp [intOf]; omega⟩
        · have hIJ : I = J := (No.eqIt_iff I J).1 he
          have hh : hI = hJ := by rw [HH1.out, HH2.out, hIJ]
          have HNX3 : Hid (_) := HNX.out (fun _ => hIJ)
          have hbb := No.beq_bs hI hJ
          have hbn : ((bs hI).toList != (bs hJ).toList) = false := by rw [hh]; simp
          have hbe : ((bs hI).toList == (bs hJ).toList) = true := by rw [hh]; exact beq_self_eq_true _
          have q1 : ∀ p : NewW Wf, p.v.cell? (px.add i) = some (.string (bs hI)) := fun p => (p.h.cell (World.block_lt_of_cell? Wf _ hp2)).trans hp2
          have q2 : ∀ p : NewW Wf, p.v.cell? (qx.add i) = some (.string (bs hJ)) := fun p => (p.h.cell (World.block_lt_of_cell? Wf _ hq2)).trans hq2
          have hne := NewW.ne Wf
          clear he hh hIJ hbb HNX HH1 HH2
          generalize bs hI = sI at *
          generalize bs hJ = sJ at *
          go_wp2_with fail
          refine region_new Wf (New.refl Wf) (by kernel_rfl) (by kernel_rfl) ?_
          refine wpQuiet_load_in (by rfl) 32 _ (by rfl) G 0 (by rfl) C.toList (row_quiet HRC.out) _ Tryd.underlying32 rfl (by rw [Array.length_toList, hCs]; exact No.i24) ?_
          refine wpQuiet_load_in (by rfl) 32 _ (by rfl) E 0 (by rfl) D.toList (row_quiet HRD.out) _ Tryd.underlying32 rfl (by rw [Array.length_toList, hDs]; exact No.i24) ?_
          simp only [Act.put, List.setIfInBounds_toArray, List.set_cons_zero, List.set_cons_succ, Array.toArray_toList]
          repeat (go_big_quiet_step (first | (go_at_call 16; exact Calls.neww (hsame _ (NewW.h _)))))
          refine wpQuiet_nil ?_
          rintro Wg ⟨⟨_, kg⟩, rfl⟩
          clear hne q1 q2
          have hsame2 := fun V (K : New Wg V) => hsame V (kg.trans K)
          have HRC2 : Hid (Row Wg G C 32) := HRC.out.after kg
          have HRD2 : Hid (Row Wg E D 32) := HRD.out.after kg
          have Nwg := Nwf.trans kg
          have hne := NewW.ne Wg
          clear hsame HRC HRD kg hp2 hq2
          go_wp2_with fail
          refine region_new Wg (New.refl Wg) (by kernel_rfl) (by kernel_rfl) ?_
          refine wpQuiet_load_in (by rfl) 32 _ (by rfl) G 0 (by rfl) C.toList (row_quiet HRC2.out) _ Tryd.underlying32 rfl (by rw [Array.length_toList, hCs]; exact No.i24) ?_
          refine wpQuiet_load_in (by rfl) 32 _ (by rfl) E 0 (by rfl) D.toList (row_quiet HRD2.out) _ Tryd.underlying32 rfl (by rw [Array.length_toList, hDs]; exact No.i24) ?_
          simp only [Act.put, List.setIfInBounds_toArray, List.set_cons_zero, List.set_cons_succ, Array.toArray_toList]
          repeat (go_big_quiet_step (first | (go_at_call 16; exact Calls.neww (hsame2 _ (NewW.h _)))))
          refine wpQuiet_nil ?_
          rintro Wh ⟨⟨_, kh⟩, rfl⟩
          clear hne
          go_wp2_with fail
          exact ⟨⟨i + 1, by omega, by go_num, N.trans (Nwg.trans kh), HNX3.out⟩, by simp [intOf]; omega⟩
      · obtain rfl : i = t.length := by omega
        have hne0 := HF.out (fun j a b ha hb e => HI.out j a b (List.getElem?_eq_some_iff.1 ha).1 ha hb e)
        have e1 := HPX.out wr N 0 htn
        have e2 := HQX.out wr N 0 htn
        rw [addr0] at e1 e2
        have hbn : ((bs ((HL t).getD 0 [])).toList != (bs ((HL u).getD 0 [])).toList) = true := by
          have := No.beq_bs ((HL t).getD 0 []) ((HL u).getD 0 [])
          rw [show (((HL t).getD 0 []) == ((HL u).getD 0 [])) = false by rw [beq_eq_false_iff_ne]; exact hne0] at this
          rw [bne, this]; rfl
        have hbe : ((bs ((HL t).getD 0 [])).toList == (bs ((HL u).getD 0 [])).toList) = false := by
          have := No.beq_bs ((HL t).getD 0 []) ((HL u).getD 0 [])
          rw [show (((HL t).getD 0 []) == ((HL u).getD 0 [])) = false by rw [beq_eq_false_iff_ne]; exact hne0] at this
          exact this
        have q1 : ∀ p : NewW wr, p.v.cell? px = some (.string (bs ((HL t).getD 0 []))) := fun p => (p.h.cell (World.block_lt_of_cell? wr _ e1)).trans e1
        have q2 : ∀ p : NewW wr, p.v.cell? qx = some (.string (bs ((HL u).getD 0 []))) := fun p => (p.h.cell (World.block_lt_of_cell? wr _ e2)).trans e2
        have hne := NewW.ne wr
        have hnt : (0 : Int) < (t.length : Int) := by omega
        clear hne0 e1 e2 HI HF
        generalize bs ((HL t).getD 0 []) = sI at *
        generalize bs ((HL u).getD 0 []) = sJ at *
        go_wp2_with fail
        refine region_new wr (New.refl wr) (by kernel_rfl) (by kernel_rfl) ?_
        repeat (go_big_quiet_step (first | (go_at_call 9; exact Calls.neww (hwk _ (M.trans (NewW.h _))))))
        refine wpQuiet_nil ?_
        rintro Wg ⟨⟨_, kg⟩, rfl⟩
        clear hne q1 q2
        go_wp2_with fail
        go_ret
        exact ⟨rfl, M.trans kg⟩

end Go.Proofs.YtjikdbmdaeonlaaDoor
namespace Go.Proofs.YtjikdbmdaeonlaaDoor
open Go.RowKit
set_option maxRecDepth 20000

theorem field_91 (a : Option Addr) (n c : Nat) (x : Bool) (w : World) : (Instr.field 91 (.agg #[.slice a n c, .bool x]) 1).run Tryd.prog w = .ok (.bool x) w := by
  simp [Instr.field, run_underlying Tryd.underlying91, asAgg, part, Tryd.isAgg4, Tryd.sizeOf4]

set_option maxHeartbeats 1000000 in
theorem refGood_any {w : World} {v : Value} {t : List Nd} (P : Ls w 20 v (t.map ndC)) (K : TOk t) :
    Calls Tryd.prog 33 #[v] w fun e w' => e = .returned (.bool (okT t)) ∧ New w w' := by
  have hp := r_pairs P K
  rw [show (readF t).isSome = okT t from rfl] at hp
  generalize okT t = b at *
  obtain ⟨a, c, rfl, _⟩ := P.open noNd
  clear P K
  go_enter Tryd.func33, Tryd.ntmps33
  go_wp2_with fail
  refine Calls.mono hp ?_
  rintro _ W1 ⟨pa, pn, pc, rfl, _, N1⟩
  have hf := field_91 pa pn pc b
  clear hp
  go_wp2_with fail
  go_ret
  exact ⟨rfl, N1⟩

set_option maxHeartbeats 1000000 in
theorem refEmpty_any (w : World) : Calls Tryd.prog 18 #[] w fun e w' => e = .returned (.string (bs emptyH)) ∧ New w w' := by
  have h : ∀ W, Calls Tryd.prog 38 #[.string ⟨#[0]⟩] W fun e w' => e = .returned (.string (bs emptyH)) ∧ New W w' := fun W => Dg.refOf_any ⟨#[0]⟩ (by decide) W
  generalize bs emptyH = E at *
  go_enter Tryd.func18, Tryd.ntmps18
  go_wp2_with fail
  refine Calls.mono (h _) ?_
  rintro _ W1 ⟨rfl, N1⟩
  go_wp2_with fail
  go_ret
  exact ⟨rfl, N1⟩

def allZ : Array Value := #[.slice none 0 0, .slice none 0 0, .bool false]
/-- All's cells: its Items, its hashes. -/
def allC (gi gh n : Nat) : Array Value := #[.slice (some ⟨gi, 0, none⟩) n n, .slice (some ⟨gh, 0, none⟩) n n, .bool true]
theorem infoA : (Tryd.prog.info? 37).map (fun i => (i.zero, i.size, i.bytes)) = some (some (.agg allZ), 3, 56) := by kernel_rfl
theorem iA : (Tryd.prog.info? 37).map (·.size) = some 3 := by kernel_rfl
theorem infoS : (Tryd.prog.info? 67).map (fun i => (i.zero, i.size, i.bytes)) = some (some (.agg (Dg.cw (List.replicate 8 0))), 8, 32) := by kernel_rfl
theorem infoC : (Tryd.prog.info? 69).map (fun i => (i.zero, i.size, i.bytes)) = some (some (.agg (Dg.cw (List.replicate 64 0))), 64, 256) := by kernel_rfl
theorem iS : (Tryd.prog.info? 67).map (·.size) = some 8 := by kernel_rfl
theorem iC : (Tryd.prog.info? 69).map (·.size) = some 64 := by kernel_rfl
theorem builtA0 : Tryd.prog.built 37 [] = some allZ := by kernel_rfl
theorem builtA3 (a : Option Addr) (n c : Nat) (b : Option Addr) (m d : Nat) : Tryd.prog.built 37 [(0, .slice a n c), (1, .slice b m d), (2, .bool true)] = some #[.slice a n c, .slice b m d, .bool true] := by kernel_rfl
theorem run_buildA (a : Option Addr) (n c : Nat) (b : Option Addr) (m d : Nat) (w : World) : (Instr.build 37 #[(0, .slice a n c), (1, .slice b m d), (2, .bool true)]).run Tryd.prog w = .ok (.agg #[.slice a n c, .slice b m d, .bool true]) w := run_build w 37 _ _ (builtA3 _ _ _ _ _ _)
theorem allZ_one : allZ.all (·.oneCell') = true := by simp [allZ, Value.oneCell']
theorem allC_one (gi gh n : Nat) : (allC gi gh n).all (·.oneCell') = true := by simp [allC, Value.oneCell']
theorem cw_one (l : List Nat) : (Dg.cw l).all (·.oneCell') = true := by simp [Dg.cw, Value.oneCell']
theorem exec_build3 {P : Program} {o : Oper} {a : Act} {w : World} {T : TypeId} {x0 x1 x2 : Operand} {v0 v1 v2 r : Value} (ho : o.op = .build T #[(0, x0), (1, x1), (2, x2)]) (h0 : a.eval x0 = v0) (h1 : a.eval x1 = v1) (h2 : a.eval x2 = v2) (hr : (Instr.build T #[(0, v0), (1, v1), (2, v2)]).run P w = .ok r w) : (execOp a.eval o).run P w = .ok (.value r) w := by
  unfold execOp
  simp only [ho, List.map_toArray, List.map_cons, List.map_nil, h0, h1, h2, Sem.run_bind, hr, Result.andThen_ok, Sem.run_pure]
theorem exec_make {P : Program} {o : Oper} {a : Act} {w w' : World} {T : TypeId} {x y : Operand} {u v r : Value} (ho : o.op = .makeSlice T x y) (h0 : a.eval x = u) (h1 : a.eval y = v) (hr : (Instr.makeSlice T u v).run P w = .ok r w') : (execOp a.eval o).run P w = .ok (.value r) w' := by
  unfold execOp
  simp only [ho, h0, h1, Sem.run_bind, hr, Result.andThen_ok, Sem.run_pure]

theorem trie_copy {w : World} {v : Value} {t : List Nd} (P : Ls w 20 v (t.map ndC)) (h16 : ∀ x ∈ t, x.kids.length = 16) (hl : t.length ≤ 1000000) :
    ∃ v' w', (Builtin.append_ #[23, 23] 23 #[.slice (some ⟨w.heap.size, 0, none⟩) 0 0, v]).run Tryd.prog (w.alloc (.cells #[] 55)) = .ok v' w' ∧ Pl w' (Fresh w) 55 20 v' (t.map ndC) ∧ New w w' :=
  run_copy_all (w := w) 23 55 23 20 _ _ Tryd.underlying23 info49 rfl (by decide) (by decide) P (fun e he => by obtain ⟨p, hp, rfl⟩ := List.mem_map.1 he; exact ndC_len (h16 p hp)) (fun e he => by obtain ⟨p, _, rfl⟩ := List.mem_map.1 he; exact ndC_one p) (by rw [List.length_map]; exact hl)

end Go.Proofs.YtjikdbmdaeonlaaDoor
namespace Go.Proofs.YtjikdbmdaeonlaaDoor
open Go.RowKit
set_option maxRecDepth 20000

/-- The blocks of the document's own root: all told apart, all old. -/
structure Far (GR GA GI GH GS GC B : Nat) : Prop where
  r : GR < B
  a : GA < B
  i : GI < B
  h : GH < B
  s : GS < B
  c : GC < B
  ri : GR ≠ GI
  ai : GA ≠ GI
  hi : GH ≠ GI
  si : GS ≠ GI
  ci : GC ≠ GI
  rh : GR ≠ GH
  ah : GA ≠ GH
  sh : GS ≠ GH
  ch : GC ≠ GH
/-- From node bi on the Items lie there, from bh on the hashes. -/
structure RSt (t : List Nd) (GR GA GI GH GS GC B bi bh : Nat) (w : World) : Prop where
  rr : Row w GR allZ 37
  ra : Row w GA (allC GI GH t.length) 37
  rs : Row w GS (Dg.cw Dg.firstN.list) 67
  rc : Row w GC (Dg.cw Dg.roundsN) 69
  qh : Pl w (fun b => b = GH) 9 1 (.slice (some ⟨GH, 0, none⟩) t.length t.length) ((partL t bh t.length).map txC)
  qi : ∃ es, Pl w (fun b => b = GI) 32 6 (.slice (some ⟨GI, 0, none⟩) t.length t.length) es ∧ es.length = t.length ∧ ∀ (j : Nat) m, bi ≤ j → t[j]? = some m → ∃ a c, es[j]? = some (No.itC (itW m (HL t)) a c).toList ∧ No.Tx w a (itW m (HL t)).hs ∧ ∀ x, a = some x → B ≤ x.block
variable {t : List Nd} {GR GA GI GH GS GC B bi bh : Nat} {w w' : World}
theorem RSt.after (S : RSt t GR GA GI GH GS GC B bi bh w) (n : New w w') : RSt t GR GA GI GH GS GC B bi bh w' := by
  obtain ⟨es, h1, h2, h3⟩ := S.qi
  refine ⟨S.rr.after n, S.ra.after n, S.rs.after n, S.rc.after n, S.qh.after n, es, h1.after n, h2, fun j m hj hm => ?_⟩
  obtain ⟨a, c, e, hT, hb⟩ := h3 j m hj hm
  exact ⟨a, c, e, hT.after n, hb⟩
theorem RSt.putItem {k : Nat} {m : Nd} {a : Option Addr} {c : Nat} {es : List (List Value)} (S : RSt t GR GA GI GH GS GC B (k + 1) bh w) (F : Far GR GA GI GH GS GC B) (h2 : es.length = t.length)
    (h3 : ∀ (j : Nat) m, k + 1 ≤ j → t[j]? = some m → ∃ a c, es[j]? = some (No.itC (itW m (HL t)) a c).toList ∧ No.Tx w a (itW m (HL t)).hs ∧ ∀ x, a = some x → B ≤ x.block)
    (hQ : Pl w' (fun b => b = GI) 32 6 (.slice (some ⟨GI, 0, none⟩) t.length t.length) (es.set k (No.itC (itW m (HL t)) a c).toList)) (hB : But GI w w') (hm : t[k]? = some m) (hT : No.Tx w a (itW m (HL t)).hs) (hb : ∀ x, a = some x → B ≤ x.block) :
    RSt t GR GA GI GH GS GC B k bh w' := by
  have htx : ∀ (a : Option Addr) hs, No.Tx w a hs → (∀ x, a = some x → B ≤ x.block) → No.Tx w' a hs := fun a hs h hb => h.of fun x hx _ => hB.block _ (by have := hb x hx; have := F.i; omega)
  refine ⟨S.rr.but hB F.ri, S.ra.but hB F.ai, S.rs.but hB F.si, S.rc.but hB F.ci, S.qh.but hB (fun e => F.hi e.symm), _, hQ, by rw [List.length_set]; exact h2, fun j m' hj hm' => ?_⟩
  have hk := (List.getElem?_eq_some_iff.1 hm).1
  rcases Nat.lt_or_ge k j with hlt | hge
  · obtain ⟨a', c', e, hT', hb'⟩ := h3 j m' hlt hm'
    exact ⟨a', c', by rw [List.getElem?_set_ne (by omega)]; exact e, htx _ _ hT' hb', hb'⟩
  · obtain rfl : j = k := by omega
    rw [hm] at hm'
    obtain rfl := Option.some.inj hm'
    exact ⟨a, c, by rw [List.getElem?_set_self (by omega)], htx _ _ hT hb, hb⟩
theorem RSt.putHash {k : Nat} (S : RSt t GR GA GI GH GS GC B bi (k + 1) w) (F : Far GR GA GI GH GS GC B) (hk : k < t.length) :
    RSt t GR GA GI GH GS GC B bi k (w.setCell ⟨GH, k, none⟩ (.string (bs ((HL t).getD k [])))) := by
  have hB : But GH w (w.setCell ⟨GH, k, none⟩ (.string (bs ((HL t).getD k [])))) := ⟨rfl, rfl, rfl, by simp [World.setCell], fun b hb => Below.heap_setCell _ _ _ _ hb⟩
  have hQ : Pl (w.setCell ⟨GH, k, none⟩ (.string (bs ((HL t).getD k [])))) (fun b => b = GH) 9 1 (.slice (some ⟨GH, 0, none⟩) t.length t.length) ((partL t k t.length).map txC) := by
    rw [← partL_set t hk hk]
    exact tx_set S.qh (by rw [partL_len]; exact hk) _
  obtain ⟨es, h1, h2, h3⟩ := S.qi
  refine ⟨S.rr.but hB F.rh, S.ra.but hB F.ah, S.rs.but hB F.sh, S.rc.but hB F.ch, hQ, es, h1.but hB (fun e => F.hi e), h2, fun j m hj hm => ?_⟩
  obtain ⟨a, c, e, hT, hb⟩ := h3 j m hj hm
  exact ⟨a, c, e, hT.of fun x hx _ => hB.block _ (by have := hb x hx; have := F.h; omega), hb⟩
theorem RSt.start (rr : Row w GR allZ 37) (ra : Row w GA (allC GI GH t.length) 37) (rs : Row w GS (Dg.cw Dg.firstN.list) 67) (rc : Row w GC (Dg.cw Dg.roundsN) 69)
    (qi : Pl w (fun b => b = GI) 32 6 (.slice (some ⟨GI, 0, none⟩) t.length t.length) (List.replicate t.length No.itZ.toList)) (qh : Pl w (fun b => b = GH) 9 1 (.slice (some ⟨GH, 0, none⟩) t.length t.length) (List.replicate t.length (txC []))) :
    RSt t GR GA GI GH GS GC B t.length t.length w :=
  ⟨rr, ra, rs, rc, by rw [partL_none t (Nat.le_refl _), List.map_replicate]; exact qh, _, qi, List.length_replicate, fun j m hj hm => absurd (List.getElem?_eq_some_iff.1 hm).1 (by omega)⟩

/-- The worlds in which four cells have these values. -/
structure FourW (p q r s : Addr) (x y z u : Value) where
  v : World
  hp : v.cell? p = some x
  hq : v.cell? q = some y
  hr : v.cell? r = some z
  hs : v.cell? s = some u
def HasFour (p q r s : Addr) (x y z u : Value) (w : World) : Prop := ∃ f : FourW p q r s x y z u, w = f.v
theorem HasFour.of {p q r s : Addr} {x y z u : Value} {w : World} (h1 : w.cell? p = some x) (h2 : w.cell? q = some y) (h3 : w.cell? r = some z) (h4 : w.cell? s = some u) : HasFour p q r s x y z u w := ⟨⟨w, h1, h2, h3, h4⟩, rfl⟩

end Go.Proofs.YtjikdbmdaeonlaaDoor
