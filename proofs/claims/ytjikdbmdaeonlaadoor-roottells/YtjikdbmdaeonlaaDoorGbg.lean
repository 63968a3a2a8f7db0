/-
  The document's own Root, and All whatever the trie. RootTells's walk: whatever nodes and number, the call returns true, where the tables lie as their initialisers lay them.
-/
import Derived.Test.YtjikdbmdaeonlaaDoorGbf
import Derived.Test.YtjikdbmdaeonlaaDoorGao
namespace Go.Proofs.YtjikdbmdaeonlaaDoor
open Go.RowKit
set_option maxRecDepth 20000

theorem refAll_any {w : World} {v : Value} {t : List Nd} (P : Ls w 20 v (t.map ndC)) (K : TOk t) :
    Calls Tryd.prog 13 #[v] w fun e w' => ∃ (ia : Option Addr) (ni ci : Nat) (ha : Option Addr) (ch : Nat), e = .returned (.agg #[.slice ia ni ci, .slice ha (allL t).length ch, .bool (okT t)]) ∧ No.Tx w' ha (allL t) ∧
      (∀ (k : Nat) m, okT t = true → t[k]? = some m → ∃ gi, ia = some ⟨gi, 0, none⟩ ∧ ni = t.length ∧ ∃ a c, w'.rangeAt gi (k * 6) (No.itC (itW m (HL t)) a c).toList ∧ No.Tx w' a (itW m (HL t)).hs) ∧ New w w' := by
  cases hok : okT t
  · refine (refAll_no P K hok).mono ?_
    rintro e w' ⟨rfl, n⟩
    have e1 : allL t = [] := by unfold allL; rw [hok]; rfl
    rw [e1]
    exact ⟨none, 0, 0, none, 0, rfl, No.Tx.nil _ _, (fun _ _ h => by cases h), n⟩
  · refine (refAll_yes P K hok).mono ?_
    rintro e w' ⟨gi, gh, rfl, hT, hI, n⟩
    have e1 : allL t = HL t := allL_ok hok
    rw [e1, HL_len]
    exact ⟨_, _, _, _, _, rfl, hT, (fun k m _ hm => ⟨gi, rfl, rfl, hI k m hm⟩), n⟩

set_option maxHeartbeats 4000000 in
theorem refRoot_any {w : World} {v : Value} {t : List Nd} (P : Ls w 20 v (t.map ndC)) (K : TOk t) :
    Calls Tryd.prog 14 #[v] w fun e w' => e = .returned (.string (bs (rootL t))) ∧ New w w' := by
  have ha := refAll_any P K
  have htl := K.few
  obtain ⟨a, c, rfl, hc, _⟩ := P.open noNd
  have hE := fun W => refEmpty_any W
  obtain ⟨b, hb⟩ : ∃ b, okT t = b := ⟨_, rfl⟩
  have HR : Hid (rootL t = if b then (if t.length = 0 then emptyH else (HL t).getD 0 []) else []) := by show _ = _; unfold rootL; rw [hb]
  have HLN : Hid (b = true → allL t = HL t) := fun h => allL_ok (hb.trans h)
  rw [hb] at ha
  clear P K hb
  cases b
  · have HE : Hid (rootL t = []) := by show _ = _; rw [HR.out]; rfl
    rw [HE.out]
    go_enter Tryd.func14, Tryd.ntmps14
    go_wp2_with fail
    refine Calls.mono ha ?_
    rintro _ W1 ⟨ia, ni, ci, hx, ch, rfl, hT, _, N1⟩
    have N1 : New w W1 := N1
    clear ha
    go_wp2_with (first
      | (refine wpList_alloc_at (by rfl) 3 (by rfl) 37 (by rfl) _ _ _ infoA ?_; intro W2 R2 N2)
      | (refine wpList_store_new (by rfl) 37 _ _ (by rfl) W1.heap.size #[.slice ia ni ci, .slice hx (allL t).length ch, .bool false] (by rfl) (by rfl) 37 _ R2 iA rfl (by simp [Value.oneCell']) ?_; intro W3 R3 B3; have N3 : New W1 W3 := B3.new N2 (Nat.le_refl _); have c2 : W3.cell? ⟨W1.heap.size, 2, none⟩ = some (.bool false) := R3.has 2 rfl; have c1 : W3.cell? ⟨W1.heap.size, 1, none⟩ = some (.slice hx (allL t).length ch) := R3.has 1 rfl))
    go_ret
    exact ⟨rfl, N1.trans N3⟩
  by_cases h0 : t.length = 0
  · have HE : Hid (rootL t = emptyH) := by show _ = _; rw [HR.out, if_pos rfl, if_pos h0]
    rw [HE.out]
    have d0 : ((t.length : Int) == 0) = true := by rw [beq_iff_eq]; omega
    obtain ⟨n, hn⟩ : ∃ n, t.length = n := ⟨_, rfl⟩
    rw [hn] at ha hc d0 htl ⊢
    clear HR h0 hn
    go_enter Tryd.func14, Tryd.ntmps14
    go_wp2_with fail
    refine Calls.mono ha ?_
    rintro _ W1 ⟨ia, ni, ci, hx, ch, rfl, hT, _, N1⟩
    have N1 : New w W1 := N1
    clear ha
    go_wp2_with (first
      | (refine wpList_alloc_at (by rfl) 3 (by rfl) 37 (by rfl) _ _ _ infoA ?_; intro W2 R2 N2)
      | (refine wpList_store_new (by rfl) 37 _ _ (by rfl) W1.heap.size #[.slice ia ni ci, .slice hx (allL t).length ch, .bool true] (by rfl) (by rfl) 37 _ R2 iA rfl (by simp [Value.oneCell']) ?_; intro W3 R3 B3; have N3 : New W1 W3 := B3.new N2 (Nat.le_refl _); have c2 : W3.cell? ⟨W1.heap.size, 2, none⟩ = some (.bool true) := R3.has 2 rfl; have c1 : W3.cell? ⟨W1.heap.size, 1, none⟩ = some (.slice hx (allL t).length ch) := R3.has 1 rfl))
    refine Calls.mono (hE _) ?_
    rintro _ W4 ⟨rfl, N4⟩
    have N4 : New W3 W4 := N4
    go_wp2_with fail
    go_ret
    exact ⟨rfl, (N1.trans N3).trans N4⟩
  · have HE : Hid (rootL t = (HL t).getD 0 []) := by show _ = _; rw [HR.out, if_pos rfl, if_neg h0]
    rw [HE.out]
    have d0 : ((t.length : Int) == 0) = false := by rw [beq_eq_false_iff_ne]; omega
    have HX : Hid ((HL t)[0]? = some ((HL t).getD 0 [])) := by show _ = _; rw [List.getD_eq_getElem?_getD, List.getElem?_eq_getElem (by rw [HL_len]; omega)]; rfl
    generalize hEE : bs ((HL t).getD 0 []) = E
    have HEE : Hid (bs ((HL t).getD 0 []) = E) := hEE
    clear hEE
    have hl := HLN.out rfl
    have hlen : (allL t).length = t.length := by rw [hl, HL_len]
    rw [hlen] at ha
    rw [hl] at ha
    have h0n : (0 : Int) < (t.length : Int) := by omega
    have HH0 : Hid (0 < t.length) := by show _ < _; omega
    clear HR h0 hl hlen
    go_enter Tryd.func14, Tryd.ntmps14
    go_wp2_with fail
    refine Calls.mono ha ?_
    rintro _ W1 ⟨ia, ni, ci, hx, ch, rfl, hT, _, N1⟩
    have N1 : New w W1 := N1
    obtain ⟨y, rfl, hy⟩ := hT (by rw [HL_len]; exact HH0.out)
    have cy := hy 0 _ HX.out
    rw [addr0, HEE.out] at cy
    have HCY : Hid (∀ W, New W1 W → W.cell? y = some (.string E)) := fun W k => (k.cell (World.block_lt_of_cell? W1 _ cy)).trans cy
    clear hy hT cy
    clear ha
    go_wp2_with (first
      | (refine wpList_alloc_at (by rfl) 3 (by rfl) 37 (by rfl) _ _ _ infoA ?_; intro W2 R2 N2)
      | (refine wpList_store_new (by rfl) 37 _ _ (by rfl) W1.heap.size #[.slice ia ni ci, .slice (some y) t.length ch, .bool true] (by rfl) (by rfl) 37 _ R2 iA rfl (by simp [Value.oneCell']) ?_; intro W3 R3 B3; have N3 : New W1 W3 := B3.new N2 (Nat.le_refl _); have c2 : W3.cell? ⟨W1.heap.size, 2, none⟩ = some (.bool true) := R3.has 2 rfl; have c1 : W3.cell? ⟨W1.heap.size, 1, none⟩ = some (.slice (some y) t.length ch) := R3.has 1 rfl; have c0 := HCY.out _ N3))
    go_ret
    exact ⟨rfl, N1.trans N3⟩

end Go.Proofs.YtjikdbmdaeonlaaDoor
namespace Go.Proofs.YtjikdbmdaeonlaaDoor
open Go.RowKit
set_option maxRecDepth 20000

theorem item_small (t : List Nd) (z : Int) : No.Small (itemL t z) := by
  unfold itemL
  split
  · rename_i h
    unfold inT at h
    simp only [Bool.and_eq_true, decide_eq_true_eq] at h
    obtain ⟨h0, h1, h2⟩ := h
    have hk : z.toNat < t.length := by omega
    have hm := List.getElem?_eq_getElem hk
    rw [getD_some hm]
    exact No.good_small _ ((ok_rt h2).good hm)
  · unfold itZero
    constructor <;> simp

set_option maxHeartbeats 16000000 in
theorem tells_any {w : World} {v : Value} {t : List Nd} {z : Int} (P : Ls w 20 v (t.map ndC)) (h16 : ∀ x ∈ t, x.kids.length = 16) (hl : t.length ≤ maxLen) (hT : No.TT w) :
    Calls Tryd.prog 3 #[v, .int .i64 z] w fun e w' => e = .returned (.bool true) ∧ New w w' := by
  unfold maxLen at hl
  have hwk := fun W (N : New w W) => wakes_any W (hT.after N)
  have hfe := few_any P (by omega)
  have HT : Hid (No.TT w) := hT
  have HP : Hid (Ls w 20 v (t.map ndC)) := P
  obtain ⟨a, c, rfl, hc, _⟩ := P.open noNd
  obtain ⟨b0, hb0⟩ : ∃ b, fewB t = b := ⟨_, rfl⟩
  rw [hb0] at hfe
  clear P hT
  cases b0
  case false =>
    clear hb0
    go_enter Tryd.func3, Tryd.ntmps3
    go_wp2_with fail
    refine Calls.mono hfe ?_
    rintro _ W1 ⟨rfl, N1⟩
    have N1 : New w W1 := N1
    clear hfe
    go_wp2_with fail
    refine Calls.mono (hwk _ N1) ?_
    rintro _ W6 ⟨rfl, N6⟩
    have N6 : New W1 W6 := N6
    go_wp2_with fail
    go_ret
    exact ⟨rfl, N1.trans N6⟩
  obtain ⟨K, h40⟩ := few_small h16 hb0
  have HK : Hid (TOk t) := K
  have htl : t.length ≤ 10000 := by omega
  have hcp := fun W (N : New w W) => trie_copy (HP.out.after N) h16 (by omega)
  have hra := fun W (N : New w W) => refAll_any (HP.out.after N) K
  have hrr := fun W (N : New w W) => refRoot_any (HP.out.after N) K
  have hro := fun W (N : New w W) (v' : Value) (Q : Ls W 20 v' (t.map ndC)) => root_any Q K (HT.out.after N)
  generalize hrtq : bs (rootL t) = rt at *
  clear hrtq
  clear K h40 hb0
  go_enter Tryd.func3, Tryd.ntmps3
  go_wp2_with fail
  refine Calls.mono hfe ?_
  rintro _ W1 ⟨rfl, N1⟩
  have N1 : New w W1 := N1
  clear hfe
  obtain ⟨v5, W2, ha2, Q2, N2⟩ := hcp _ N1
  have M2 := N1.trans N2
  have HQ2 : Hid (Ls W2 20 v5 (t.map ndC)) := Q2.ls
  obtain ⟨a5, c5, hv5, hc5, _⟩ := HQ2.out.open noNd
  subst hv5
  clear hcp Q2
  go_wp2_with (first
    | refine wpList_run (by rfl) _ _ (exec_buildNone (by rfl) (run_buildNone _ 23 55 _ _ _ Tryd.underlying23 info49)) ?_
    | refine wpList_appends (by rfl) _ _ 23 23 _ _ _ W2 (by rfl) (by rfl) (by rfl) (by rfl) ha2 ?_)
  clear ha2
  refine Calls.mono (hro _ M2 _ HQ2.out) ?_
  rintro _ W3 ⟨rfl, N3⟩
  have N3 : New W2 W3 := N3
  have M3 := M2.trans N3
  obtain ⟨b, hb⟩ : ∃ b, okT t = b := ⟨_, rfl⟩
  have HB : Hid (okT t = b) := hb
  rw [hb] at hra ⊢
  clear hb hro
  go_wp2_with fail
  have ha := all_any (HQ2.out.after N3) HK.out (HT.out.after M3)
  rw [HB.out] at ha
  refine Calls.mono ha ?_
  rintro _ W4 ⟨va, rfl, Q4, N4⟩
  have N4 : New W3 W4 := N4
  have M4 := M3.trans N4
  have N24 := N3.trans N4
  obtain ⟨pa, pc, rfl, hpc, _⟩ := Q4.open []
  have HPA : Hid (No.Tx W4 pa (allL t)) := ls_tx Q4
  clear ha Q4
  go_wp2_with fail
  refine Calls.mono (item_any (HQ2.out.after N24) HK.out (HT.out.after M4) z) ?_
  rintro _ W5 ⟨ra, rc, rfl, hTx, N5⟩
  have N5 : New W4 W5 := N5
  have M5 := M4.trans N5
  obtain ⟨b2, hb2⟩ : ∃ b, inT t z = b := ⟨_, rfl⟩
  have HB2 : Hid (inT t z = b2) := hb2
  rw [hb2]
  have h1 := No.itC_one (itemL t z) ra rc
  obtain ⟨C, hC⟩ : ∃ C, No.itC (itemL t z) ra rc = C := ⟨_, rfl⟩
  have HC : Hid (No.itC (itemL t z) ra rc = C) := hC
  have hCs : C.size = 6 := by rw [← hC]; rfl
  rw [hC] at h1 ⊢
  clear hC hb2
  go_wp2_with (first
    | (refine wpList_alloc_at (by rfl) 10 (by rfl) 32 (by rfl) _ _ _ No.info24 ?_; intro W6 R6 N6)
    | (refine wpList_store_new (by rfl) 32 _ _ (by rfl) W5.heap.size C (by rfl) (by rfl) 32 _ R6 (by rw [hCs]; exact No.i24) (by rw [hCs]; rfl) h1 ?_; intro W7 R7 B7; have N7 : New W5 W7 := B7.new N6 (Nat.le_refl _)))
  have HTX : Hid (No.Tx W7 ra (itemL t z).hs) := hTx.after N7
  have HRC : Hid (Row W7 W5.heap.size C 32) := R7
  have M7 := M5.trans N7
  have N57 := N5.trans N7
  have hG5 : W5.heap.size < W7.heap.size := R7.lt
  clear R6 N6 R7 B7 hTx M5 h1
  generalize W5.heap.size = G5 at *
  refine Calls.mono (hra _ M7) ?_
  rintro _ W8 ⟨ia, ni, ci, ha, ch, rfl, hTa, hIt, N8⟩
  have N8 : New W7 W8 := N8
  have M8 := M7.trans N8
  clear hra
  go_upto_region 8 with (first
    | (refine wpList_alloc_at (by rfl) 12 (by rfl) 37 (by rfl) _ _ _ infoA ?_; intro W9 R9 N9)
    | (refine wpList_store_new (by rfl) 37 _ _ (by rfl) W8.heap.size #[.slice ia ni ci, .slice ha (allL t).length ch, .bool b] (by rfl) (by rfl) 37 _ R9 iA rfl (by simp [Value.oneCell']) ?_; intro Wa Ra Ba; have Na : New W8 Wa := Ba.new N9 (Nat.le_refl _)))
  have HRA : Hid (Row Wa W8.heap.size #[.slice ia ni ci, .slice ha (allL t).length ch, .bool b] 37) := Ra
  have HTA : Hid (No.Tx Wa ha (allL t)) := hTa.after Na
  have HIT : Hid (∀ (k : Nat) m, b = true → t[k]? = some m → ∃ gi, ia = some ⟨gi, 0, none⟩ ∧ ni = t.length ∧ ∃ a c, Wa.rangeAt gi (k * 6) (No.itC (itW m (HL t)) a c).toList ∧ No.Tx Wa a (itW m (HL t)).hs) := fun k m hb hm => by
    obtain ⟨gi, e1, e2, a', c', h1, h2⟩ := hIt k m hb hm
    exact ⟨gi, e1, e2, a', c', fun j u hu => (Na.cell (World.block_lt_of_cell? W8 _ (h1 j u hu))).trans (h1 j u hu), h2.after Na⟩
  have Ma := M8.trans Na
  have N7a := N8.trans Na
  have hG8 : W8.heap.size < Wa.heap.size := Ra.lt
  have hG58 : G5 < W8.heap.size := Nat.lt_of_lt_of_le hG5 N8.size
  clear R9 N9 Ra Ba hTa hIt Na N8 M8
  generalize W8.heap.size = G8 at *
  have hin : inT t z = (decide (0 ≤ z) && (decide (z < (t.length : Int)) && b)) := by unfold inT; rw [HB.out]
  have hre := refEmpty_any
  have HLEN : Hid ((allL t).length ≤ 4611686018427387904) := by
    have : (allL t).length ≤ t.length := by
      unfold allL; split
      · rw [HL_len]; exact Nat.le_refl _
      · exact Nat.zero_le _
    show _ ≤ _; omega
  cases b
  · obtain rfl : b2 = false := by rw [← HB2.out, hin]; simp
    clear hin
    go_wp2_with (first
          | refine wpList_build0 (by rfl) 32 (by rfl) _ builtZ ?_
          | (refine wpList_alloc_at (by rfl) 13 (by rfl) 32 (by rfl) _ _ _ No.info24 ?_; intro Wb Rb Nb)
          | (refine wpList_store_new (by rfl) 32 _ _ (by rfl) Wa.heap.size No.itZ (by rfl) (by rfl) 32 _ Rb No.i24 rfl itZ_one ?_; intro Wc Rc Bc; have Nc : New Wa Wc := Bc.new Nb (Nat.le_refl _); have c2 : Wc.cell? ⟨G8, 2, none⟩ = some (.bool false) := (HRA.out.after Nc).has 2 rfl; have c0 : Wc.cell? ⟨G8, 0, none⟩ = some (.slice ia ni ci) := (HRA.out.after Nc).has 0 rfl))
    have e1 : itemL t z = itZero := by unfold itemL; rw [HB2.out]; rfl
    have HRX : Hid (Row Wc Wa.heap.size No.itZ 32) := Rc
    have HTX9 : Hid (No.Tx Wc none (itemL t z).hs) := by rw [e1]; exact No.Tx.nil _ _
    have NX := Nc
    have HD2 : Hid (No.itC (itemL t z) none 0 = No.itZ) := by rw [e1]; rfl
    have hD2s : No.itZ.size = 6 := rfl
    clear Rb Nb Rc Bc c2 c0 Nc e1
    generalize Wa.heap.size = GX at *
    refine Calls.mono (hrr _ (Ma.trans NX)) ?_
    rintro _ Wd ⟨rfl, Nd'⟩
    have Nd' : New Wc Wd := Nd'
    have Nad := NX.trans Nd'
    have Rad := HRA.out.after Nad
    have x2 := Rad.has 2 (v := .bool false) rfl
    have x1 := Rad.has 1 (v := .slice ha (allL t).length ch) rfl
    have hrt : (rt.toList == rt.toList) = true := beq_self_eq_true _
    have htx := No.texts_any (allL t) (allL t) pa ha pc ch HLEN.out Wd (HPA.out.after (N57.trans (N7a.trans Nad))) (HTA.out.after Nad)
    rw [beq_self_eq_true] at htx
    have HRY : Hid (Row Wd GX No.itZ 32) := HRX.out.after Nd'
    have HTY : Hid (No.Tx Wd (none : Option Addr) (itemL t z).hs) := HTX9.out.after Nd'
    clear hrr HRX HTX9 Nd' NX Rad
    go_wp2_with fail
    refine Calls.mono htx ?_
    rintro _ We ⟨rfl, Ne⟩
    have Ne : New Wd We := Ne
    have Nae := Nad.trans Ne
    have y2 := (HRA.out.after Nae).has 2 (v := .bool false) rfl
    have RC5 : Row We G5 C 32 := HRC.out.after (N7a.trans Nae)
    have RX5 : Row We GX No.itZ 32 := HRY.out.after Ne
    have hsm := fun V (n : New We V) => No.c_same (itemL t z) (itemL t z) (item_small t z) ra (none : Option Addr) rc 0 V (HTX.out.after (N7a.trans (Nae.trans n))) (HTY.out.after (Ne.trans n))
    rw [HC.out, HD2.out, (No.eqIt_iff _ _).2 rfl] at hsm
    clear htx x1 x2 HRY HTY Ne Nad
    go_wp2_with (first
      | refine wpList_load_want (by rfl) 32 _ (by rfl) G5 (by rfl) 32 C _ RC5 Tryd.underlying32 rfl (by rw [hCs]; exact No.i24) ?_
      | refine wpList_load_want (by rfl) 32 _ (by rfl) GX (by rfl) 32 No.itZ _ RX5 Tryd.underlying32 rfl (by rw [hD2s]; exact No.i24) ?_)
    refine Calls.mono (hsm _ (New.refl _)) ?_
    rintro _ Wf ⟨rfl, Nf⟩
    have Nf : New We Wf := Nf
    have Naf := Nae.trans Nf
    have Mf := Ma.trans Naf
    clear hsm RC5 RX5 y2 Nf Nae
    go_wp2_with fail
    refine Calls.mono (empty_any _ (HT.out.after Mf)) ?_
    rintro _ Wg ⟨rfl, Ng⟩
    have Ng : New Wf Wg := Ng
    generalize bs emptyH = eh at *
    have heh : (eh.toList == eh.toList) = true := beq_self_eq_true _
    have Nag := Naf.trans Ng
    clear Ng Naf Mf
    go_wp2_with fail
    refine Calls.mono (hre _) ?_
    rintro _ Wh ⟨rfl, Nh⟩
    have Nh : New Wg Wh := Nh
    have Nah := Nag.trans Nh
    have Mh := Ma.trans Nah
    have hkt := keepTrie_any (HQ2.out.after (N24.trans (N57.trans (N7a.trans Nah)))) (HP.out.after Mh) HK.out.k16 HK.out.k16 (by omega) (by omega)
    rw [decide_eq_true (rfl : t = t)] at hkt
    clear Nh Nag
    go_wp2_with fail
    refine Calls.mono hkt ?_
    rintro _ Wi ⟨rfl, Ni⟩
    have Ni : New Wh Wi := Ni
    have Mi := Mh.trans Ni
    clear hkt Ni
    go_wp2_with fail
    refine Calls.mono (hwk _ Mi) ?_
    rintro _ Wj ⟨rfl, Nj⟩
    have Nj : New Wi Wj := Nj
    go_wp2_with fail
    go_ret
    exact ⟨rfl, Mi.trans Nj⟩
  by_cases z0 : 0 ≤ z
  case neg =>
    have d0 : decide (0 ≤ z) = false := decide_eq_false z0
    obtain rfl : b2 = false := by rw [← HB2.out, hin, d0]; rfl
    clear hin z0
    go_wp2_with (first
          | refine wpList_build0 (by rfl) 32 (by rfl) _ builtZ ?_
          | (refine wpList_alloc_at (by rfl) 13 (by rfl) 32 (by rfl) _ _ _ No.info24 ?_; intro Wb Rb Nb)
          | (refine wpList_store_new (by rfl) 32 _ _ (by rfl) Wa.heap.size No.itZ (by rfl) (by rfl) 32 _ Rb No.i24 rfl itZ_one ?_; intro Wc Rc Bc; have Nc : New Wa Wc := Bc.new Nb (Nat.le_refl _); have c2 : Wc.cell? ⟨G8, 2, none⟩ = some (.bool true) := (HRA.out.after Nc).has 2 rfl; have c0 : Wc.cell? ⟨G8, 0, none⟩ = some (.slice ia ni ci) := (HRA.out.after Nc).has 0 rfl))
    have e1 : itemL t z = itZero := by unfold itemL; rw [HB2.out]; rfl
    have HRX : Hid (Row Wc Wa.heap.size No.itZ 32) := Rc
    have HTX9 : Hid (No.Tx Wc none (itemL t z).hs) := by rw [e1]; exact No.Tx.nil _ _
    have NX := Nc
    have HD2 : Hid (No.itC (itemL t z) none 0 = No.itZ) := by rw [e1]; rfl
    have hD2s : No.itZ.size = 6 := rfl
    clear Rb Nb Rc Bc c2 c0 Nc e1
    generalize Wa.heap.size = GX at *
    refine Calls.mono (hrr _ (Ma.trans NX)) ?_
    rintro _ Wd ⟨rfl, Nd'⟩
    have Nd' : New Wc Wd := Nd'
    have Nad := NX.trans Nd'
    have Rad := HRA.out.after Nad
    have x2 := Rad.has 2 (v := .bool true) rfl
    have x1 := Rad.has 1 (v := .slice ha (allL t).length ch) rfl
    have hrt : (rt.toList == rt.toList) = true := beq_self_eq_true _
    have htx := No.texts_any (allL t) (allL t) pa ha pc ch HLEN.out Wd (HPA.out.after (N57.trans (N7a.trans Nad))) (HTA.out.after Nad)
    rw [beq_self_eq_true] at htx
    have HRY : Hid (Row Wd GX No.itZ 32) := HRX.out.after Nd'
    have HTY : Hid (No.Tx Wd (none : Option Addr) (itemL t z).hs) := HTX9.out.after Nd'
    clear hrr HRX HTX9 Nd' NX Rad
    go_wp2_with fail
    refine Calls.mono htx ?_
    rintro _ We ⟨rfl, Ne⟩
    have Ne : New Wd We := Ne
    have Nae := Nad.trans Ne
    have y2 := (HRA.out.after Nae).has 2 (v := .bool true) rfl
    have RC5 : Row We G5 C 32 := HRC.out.after (N7a.trans Nae)
    have RX5 : Row We GX No.itZ 32 := HRY.out.after Ne
    have hsm := fun V (n : New We V) => No.c_same (itemL t z) (itemL t z) (item_small t z) ra (none : Option Addr) rc 0 V (HTX.out.after (N7a.trans (Nae.trans n))) (HTY.out.after (Ne.trans n))
    rw [HC.out, HD2.out, (No.eqIt_iff _ _).2 rfl] at hsm
    clear htx x1 x2 HRY HTY Ne Nad
    go_wp2_with (first
      | refine wpList_load_want (by rfl) 32 _ (by rfl) G5 (by rfl) 32 C _ RC5 Tryd.underlying32 rfl (by rw [hCs]; exact No.i24) ?_
      | refine wpList_load_want (by rfl) 32 _ (by rfl) GX (by rfl) 32 No.itZ _ RX5 Tryd.underlying32 rfl (by rw [hD2s]; exact No.i24) ?_)
    refine Calls.mono (hsm _ (New.refl _)) ?_
    rintro _ Wf ⟨rfl, Nf⟩
    have Nf : New We Wf := Nf
    have Naf := Nae.trans Nf
    have Mf := Ma.trans Naf
    clear hsm RC5 RX5 y2 Nf Nae
    go_wp2_with fail
    refine Calls.mono (empty_any _ (HT.out.after Mf)) ?_
    rintro _ Wg ⟨rfl, Ng⟩
    have Ng : New Wf Wg := Ng
    generalize bs emptyH = eh at *
    have heh : (eh.toList == eh.toList) = true := beq_self_eq_true _
    have Nag := Naf.trans Ng
    clear Ng Naf Mf
    go_wp2_with fail
    refine Calls.mono (hre _) ?_
    rintro _ Wh ⟨rfl, Nh⟩
    have Nh : New Wg Wh := Nh
    have Nah := Nag.trans Nh
    have Mh := Ma.trans Nah
    have hkt := keepTrie_any (HQ2.out.after (N24.trans (N57.trans (N7a.trans Nah)))) (HP.out.after Mh) HK.out.k16 HK.out.k16 (by omega) (by omega)
    rw [decide_eq_true (rfl : t = t)] at hkt
    clear Nh Nag
    go_wp2_with fail
    refine Calls.mono hkt ?_
    rintro _ Wi ⟨rfl, Ni⟩
    have Ni : New Wh Wi := Ni
    have Mi := Mh.trans Ni
    clear hkt Ni
    go_wp2_with fail
    refine Calls.mono (hwk _ Mi) ?_
    rintro _ Wj ⟨rfl, Nj⟩
    have Nj : New Wi Wj := Nj
    go_wp2_with fail
    go_ret
    exact ⟨rfl, Mi.trans Nj⟩
  have d0 : decide (0 ≤ z) = true := decide_eq_true z0
  by_cases z1 : z < (t.length : Int)
  case neg =>
    have d1 : decide (z < (t.length : Int)) = false := decide_eq_false z1
    obtain rfl : b2 = false := by rw [← HB2.out, hin, d0, d1]; rfl
    clear hin z0 z1
    go_wp2_with (first
          | refine wpList_build0 (by rfl) 32 (by rfl) _ builtZ ?_
          | (refine wpList_alloc_at (by rfl) 13 (by rfl) 32 (by rfl) _ _ _ No.info24 ?_; intro Wb Rb Nb)
          | (refine wpList_store_new (by rfl) 32 _ _ (by rfl) Wa.heap.size No.itZ (by rfl) (by rfl) 32 _ Rb No.i24 rfl itZ_one ?_; intro Wc Rc Bc; have Nc : New Wa Wc := Bc.new Nb (Nat.le_refl _); have c2 : Wc.cell? ⟨G8, 2, none⟩ = some (.bool true) := (HRA.out.after Nc).has 2 rfl; have c0 : Wc.cell? ⟨G8, 0, none⟩ = some (.slice ia ni ci) := (HRA.out.after Nc).has 0 rfl))
    have e1 : itemL t z = itZero := by unfold itemL; rw [HB2.out]; rfl
    have HRX : Hid (Row Wc Wa.heap.size No.itZ 32) := Rc
    have HTX9 : Hid (No.Tx Wc none (itemL t z).hs) := by rw [e1]; exact No.Tx.nil _ _
    have NX := Nc
    have HD2 : Hid (No.itC (itemL t z) none 0 = No.itZ) := by rw [e1]; rfl
    have hD2s : No.itZ.size = 6 := rfl
    clear Rb Nb Rc Bc c2 c0 Nc e1
    generalize Wa.heap.size = GX at *
    refine Calls.mono (hrr _ (Ma.trans NX)) ?_
    rintro _ Wd ⟨rfl, Nd'⟩
    have Nd' : New Wc Wd := Nd'
    have Nad := NX.trans Nd'
    have Rad := HRA.out.after Nad
    have x2 := Rad.has 2 (v := .bool true) rfl
    have x1 := Rad.has 1 (v := .slice ha (allL t).length ch) rfl
    have hrt : (rt.toList == rt.toList) = true := beq_self_eq_true _
    have htx := No.texts_any (allL t) (allL t) pa ha pc ch HLEN.out Wd (HPA.out.after (N57.trans (N7a.trans Nad))) (HTA.out.after Nad)
    rw [beq_self_eq_true] at htx
    have HRY : Hid (Row Wd GX No.itZ 32) := HRX.out.after Nd'
    have HTY : Hid (No.Tx Wd (none : Option Addr) (itemL t z).hs) := HTX9.out.after Nd'
    clear hrr HRX HTX9 Nd' NX Rad
    go_wp2_with fail
    refine Calls.mono htx ?_
    rintro _ We ⟨rfl, Ne⟩
    have Ne : New Wd We := Ne
    have Nae := Nad.trans Ne
    have y2 := (HRA.out.after Nae).has 2 (v := .bool true) rfl
    have RC5 : Row We G5 C 32 := HRC.out.after (N7a.trans Nae)
    have RX5 : Row We GX No.itZ 32 := HRY.out.after Ne
    have hsm := fun V (n : New We V) => No.c_same (itemL t z) (itemL t z) (item_small t z) ra (none : Option Addr) rc 0 V (HTX.out.after (N7a.trans (Nae.trans n))) (HTY.out.after (Ne.trans n))
    rw [HC.out, HD2.out, (No.eqIt_iff _ _).2 rfl] at hsm
    clear htx x1 x2 HRY HTY Ne Nad
    go_wp2_with (first
      | refine wpList_load_want (by rfl) 32 _ (by rfl) G5 (by rfl) 32 C _ RC5 Tryd.underlying32 rfl (by rw [hCs]; exact No.i24) ?_
      | refine wpList_load_want (by rfl) 32 _ (by rfl) GX (by rfl) 32 No.itZ _ RX5 Tryd.underlying32 rfl (by rw [hD2s]; exact No.i24) ?_)
    refine Calls.mono (hsm _ (New.refl _)) ?_
    rintro _ Wf ⟨rfl, Nf⟩
    have Nf : New We Wf := Nf
    have Naf := Nae.trans Nf
    have Mf := Ma.trans Naf
    clear hsm RC5 RX5 y2 Nf Nae
    go_wp2_with fail
    refine Calls.mono (empty_any _ (HT.out.after Mf)) ?_
    rintro _ Wg ⟨rfl, Ng⟩
    have Ng : New Wf Wg := Ng
    generalize bs emptyH = eh at *
    have heh : (eh.toList == eh.toList) = true := beq_self_eq_true _
    have Nag := Naf.trans Ng
    clear Ng Naf Mf
    go_wp2_with fail
    refine Calls.mono (hre _) ?_
    rintro _ Wh ⟨rfl, Nh⟩
    have Nh : New Wg Wh := Nh
    have Nah := Nag.trans Nh
    have Mh := Ma.trans Nah
    have hkt := keepTrie_any (HQ2.out.after (N24.trans (N57.trans (N7a.trans Nah)))) (HP.out.after Mh) HK.out.k16 HK.out.k16 (by omega) (by omega)
    rw [decide_eq_true (rfl : t = t)] at hkt
    clear Nh Nag
    go_wp2_with fail
    refine Calls.mono hkt ?_
    rintro _ Wi ⟨rfl, Ni⟩
    have Ni : New Wh Wi := Ni
    have Mi := Mh.trans Ni
    clear hkt Ni
    go_wp2_with fail
    refine Calls.mono (hwk _ Mi) ?_
    rintro _ Wj ⟨rfl, Nj⟩
    have Nj : New Wi Wj := Nj
    go_wp2_with fail
    go_ret
    exact ⟨rfl, Mi.trans Nj⟩
  have d1 : decide (z < (t.length : Int)) = true := decide_eq_true z1
  obtain rfl : b2 = true := by rw [← HB2.out, hin, d0, d1]; rfl
  obtain ⟨k, rfl⟩ := Int.eq_ofNat_of_zero_le z0
  have hkl : k < t.length := by omega
  have hm := List.getElem?_eq_getElem hkl
  obtain ⟨m, hmm⟩ : ∃ m, t[k] = m := ⟨_, rfl⟩
  rw [hmm] at hm
  obtain ⟨gi, rfl, rfl, xa, xc, hr, hT'⟩ := HIT.out k m rfl hm
  have e1 : itemL t (k : Int) = itW m (HL t) := by unfold itemL; rw [HB2.out, if_pos rfl, Int.toNat_natCast, getD_some hm]
  have HE : Hid (itemL t (k : Int) = itW m (HL t)) := e1
  have hone := No.itC_one (itW m (HL t)) xa xc
  obtain ⟨D, hD⟩ : ∃ D, No.itC (itW m (HL t)) xa xc = D := ⟨_, rfl⟩
  have HD : Hid (No.itC (itemL t (k : Int)) xa xc = D) := by show _ = _; rw [e1]; exact hD
  have hDs : D.size = 6 := by rw [← hD]; rfl
  rw [hD] at hr hone
  have HRR : Hid (∀ V, New Wa V → V.rangeAt gi (k * 6) D.toList) := fun V n j u hu => (n.cell (World.block_lt_of_cell? Wa _ (hr j u hu))).trans (hr j u hu)
  have HTT : Hid (No.Tx Wa xa (itW m (HL t)).hs) := hT'
  clear hin z0 hm hmm hD hr hT' e1
  go_wp2_with (first
        | refine wpList_build0 (by rfl) 32 (by rfl) _ builtZ ?_
        | (refine wpList_alloc_at (by rfl) 13 (by rfl) 32 (by rfl) _ _ _ No.info24 ?_; intro Wb Rb Nb)
        | (refine wpList_store_new (by rfl) 32 _ _ (by rfl) Wa.heap.size No.itZ (by rfl) (by rfl) 32 _ Rb No.i24 rfl itZ_one ?_; intro Wc Rc Bc; have Nc : New Wa Wc := Bc.new Nb (Nat.le_refl _); have c2 : Wc.cell? ⟨G8, 2, none⟩ = some (.bool true) := (HRA.out.after Nc).has 2 rfl; have c0 : Wc.cell? ⟨G8, 0, none⟩ = some (.slice (some ⟨gi, 0, none⟩) t.length ci) := (HRA.out.after Nc).has 0 rfl)
        | refine wpList_load_mid (by rfl) 32 _ (by rfl) gi (k * 6) (by rfl) D.toList _ (HRR.out _ Nc) Tryd.underlying32 rfl (by rw [Array.length_toList, hDs]; exact No.i24) ?_
        | (refine wpList_store_new (by rfl) 32 _ _ (by rfl) Wa.heap.size D (by rfl) (by rfl) 32 _ Rc (by rw [hDs]; exact No.i24) (by rw [hDs]; rfl) hone ?_; intro We Re Be; have Ne : New Wa We := Be.new Nc (Nat.le_refl _)))
  have HRX : Hid (Row We Wa.heap.size D 32) := Re
  have HTX9 : Hid (No.Tx We xa (itemL t (k : Int)).hs) := by rw [HE.out]; exact HTT.out.after Ne
  have NX := Ne
  clear Rb Nb Bc Rc Re Be c2 c0 d0 d1 Nc Ne
  generalize Wa.heap.size = GX at *
  refine Calls.mono (hrr _ (Ma.trans NX)) ?_
  rintro _ Wd ⟨rfl, Nd'⟩
  have Nd' : New We Wd := Nd'
  have Nad := NX.trans Nd'
  have Rad := HRA.out.after Nad
  have x2 := Rad.has 2 (v := .bool true) rfl
  have x1 := Rad.has 1 (v := .slice ha (allL t).length ch) rfl
  have hrt : (rt.toList == rt.toList) = true := beq_self_eq_true _
  have htx := No.texts_any (allL t) (allL t) pa ha pc ch HLEN.out Wd (HPA.out.after (N57.trans (N7a.trans Nad))) (HTA.out.after Nad)
  rw [beq_self_eq_true] at htx
  have HRX2 : Hid (Row Wd GX D 32) := HRX.out.after Nd'
  have HTX2 : Hid (No.Tx Wd xa (itemL t (k : Int)).hs) := HTX9.out.after Nd'
  clear hrr HRX HTX9 Nd' NX Rad
  go_wp2_with fail
  refine Calls.mono htx ?_
  rintro _ We ⟨rfl, Ne⟩
  have Ne : New Wd We := Ne
  have Nae := Nad.trans Ne
  have y2 := (HRA.out.after Nae).has 2 (v := .bool true) rfl
  have RC5 : Row We G5 C 32 := HRC.out.after (N7a.trans Nae)
  have RX5 : Row We GX D 32 := HRX2.out.after Ne
  have hsm := fun V (n : New We V) => No.c_same (itemL t (k : Int)) (itemL t (k : Int)) (item_small t (k : Int)) ra xa rc xc V (HTX.out.after (N7a.trans (Nae.trans n))) (HTX2.out.after (Ne.trans n))
  rw [HC.out, HD.out, (No.eqIt_iff _ _).2 rfl] at hsm
  clear htx x1 x2 HRX2 HTX2 Ne Nad
  go_wp2_with (first
    | refine wpList_load_want (by rfl) 32 _ (by rfl) G5 (by rfl) 32 C _ RC5 Tryd.underlying32 rfl (by rw [hCs]; exact No.i24) ?_
    | refine wpList_load_want (by rfl) 32 _ (by rfl) GX (by rfl) 32 D _ RX5 Tryd.underlying32 rfl (by rw [hDs]; exact No.i24) ?_)
  refine Calls.mono (hsm _ (New.refl _)) ?_
  rintro _ Wf ⟨rfl, Nf⟩
  have Nf : New We Wf := Nf
  have Naf := Nae.trans Nf
  have Mf := Ma.trans Naf
  clear hsm RC5 RX5 y2 Nf Nae
  go_wp2_with fail
  refine Calls.mono (empty_any _ (HT.out.after Mf)) ?_
  rintro _ Wg ⟨rfl, Ng⟩
  have Ng : New Wf Wg := Ng
  generalize bs emptyH = eh at *
  have heh : (eh.toList == eh.toList) = true := beq_self_eq_true _
  have Nag := Naf.trans Ng
  clear Ng Naf Mf
  go_wp2_with fail
  refine Calls.mono (hre _) ?_
  rintro _ Wh ⟨rfl, Nh⟩
  have Nh : New Wg Wh := Nh
  have Nah := Nag.trans Nh
  have Mh := Ma.trans Nah
  have hkt := keepTrie_any (HQ2.out.after (N24.trans (N57.trans (N7a.trans Nah)))) (HP.out.after Mh) HK.out.k16 HK.out.k16 (by omega) (by omega)
  rw [decide_eq_true (rfl : t = t)] at hkt
  clear Nh Nag
  go_wp2_with fail
  refine Calls.mono hkt ?_
  rintro _ Wi ⟨rfl, Ni⟩
  have Ni : New Wh Wi := Ni
  have Mi := Mh.trans Ni
  clear hkt Ni
  go_wp2_with fail
  refine Calls.mono (hwk _ Mi) ?_
  rintro _ Wj ⟨rfl, Nj⟩
  have Nj : New Wi Wj := Nj
  go_wp2_with fail
  go_ret
  exact ⟨rfl, Mi.trans Nj⟩

end Go.Proofs.YtjikdbmdaeonlaaDoor
