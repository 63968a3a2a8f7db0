/-
  TrieShape's walk: whatever pairs, the call returns true, where the table of upper halves lies as its initialiser lays it.
-/
import Derived.Test.YtelaiblhnhbgiaaDoorShpM
import Derived.Test.YtelaiblhnhbgiaaDoorPreA
namespace Go.Proofs.YtelaiblhnhbgiaaDoor
open Go.RowKit
set_option maxRecDepth 20000

def noNP : NP := (noNd, [])
theorem nda_kid {m : Nd} {c : Nat} {x : Int} (h : m.kids[c]? = some x) : (ndA m)[4 + c]? = some (.int .i64 x) := by
  unfold ndA ndC
  rw [List.getElem?_toArray, show 4 + c = c + 1 + 1 + 1 + 1 by omega]
  simp only [List.getElem?_cons_succ]
  rw [List.getElem?_map, h]; rfl
theorem in_at {w : World} {F : Nat → Prop} {g n c N : Nat} {L : List Int} (h : Pl w F 3 1 (.slice (some ⟨g, 0, none⟩) n c) ((cntL N L).map inC)) {j : Nat} (hj : j < N) : w.cell? ⟨g, j, none⟩ = some (.int .i64 ((L.count (j : Int) : Nat) : Int)) ∧ w.frozen? ⟨g, j, none⟩ = false := by
  have := h.cellAt (i := j) (j := 0) (e := inC ((L.count (j : Int) : Nat) : Int)) (u := .int .i64 ((L.count (j : Int) : Nat) : Int)) (by rw [List.getElem?_map, cntL_get L hj]; rfl) rfl
  rwa [Nat.mul_one, Nat.add_zero] at this
theorem in_set {w : World} {F : Nat → Prop} {g n c N : Nat} {L : List Int} (h : Pl w F 3 1 (.slice (some ⟨g, 0, none⟩) n c) ((cntL N L).map inC)) {j : Nat} (hj : j < N) : Pl (w.setCell ⟨g, j, none⟩ (.int .i64 (((L.count (j : Int) : Nat) : Int) + 1))) F 3 1 (.slice (some ⟨g, 0, none⟩) n c) ((cntL N (L ++ [(j : Int)])).map inC) := by
  have := h.setCell (i := j) (j := 0) (e := inC ((L.count (j : Int) : Nat) : Int)) (by rw [List.getElem?_map, cntL_get L hj]; rfl) (by omega) (.int .i64 (((L.count (j : Int) : Nat) : Int) + 1))
  rw [Nat.mul_one, Nat.add_zero] at this
  rw [← cntL_put L hj, List.map_set]
  exact this

theorem getD_some {α : Type} {l : List α} {i : Nat} {x d : α} (h : l[i]? = some x) : l.getD i d = x := by rw [List.getD_eq_getElem?_getD, h]; rfl
theorem conv_byte {c : Nat} (hc : c < 16) : ∀ (w : World) (b : Nat), w.cell? ⟨b, 0, none⟩ = some (.int .u8 (c : Int)) → (convert 50 9 (.slice (some ⟨b, 0, none⟩) 1 1)).run Tryd.prog w = .ok (.string (bs [UInt8.ofNat c])) w := by
  intro w b hc'
  refine run_convert_bytes_back w 50 9 5 ⟨b, 0, none⟩ 1 [UInt8.ofNat c] Tryd.underlying50 Tryd.underlying5 Tryd.underlying9 (fun j hj => ?_)
  simp at hj
  subst hj
  simp [Addr.add, hc']
  omega

theorem empty_no {p : Bt} (h : p ≠ []) : (bs p).toList.isEmpty = false := by
  rw [toList_L, L_bs]
  cases p with
  | nil => exact absurd rfl h
  | cons _ _ => rfl
theorem empty_yes : (bs []).toList.isEmpty = true := by rw [toList_L, L_bs]; rfl

set_option maxHeartbeats 4000000 in
theorem shape_any {w : World} {v : Value} {l : List Pr} (P : Ls w 2 v (l.map prC)) (hl : l.length ≤ maxLen) (hT : Tab w) :
    Calls Tryd.prog 5 #[v] w fun e w' => e = .returned (.bool true) ∧ New w w' := by
  unfold maxLen at hl
  have hlp := longPairs_any P (by omega)
  have HT : Hid (Tab w) := hT
  obtain ⟨b1, hb1⟩ : ∃ b, longB lenP 3000 ([], []) l = b := ⟨_, rfl⟩
  rw [hb1] at hlp
  have HB1 : Hid (longB lenP 3000 ([], []) l = b1) := hb1
  have HP : Hid (Ls w 2 v (l.map prC)) := P
  clear hb1 P hT
  cases b1
  case true =>
    go_enter Tryd.func5, Tryd.ntmps5
    go_wp2_with fail
    refine Calls.mono hlp ?_
    rintro _ W1 ⟨rfl, N1⟩
    have hw := wakes_any W1 (HT.out.kept N1)
    clear hlp
    go_wp2_with fail
    refine Calls.mono hw ?_
    rintro _ W2 ⟨rfl, N2⟩
    clear hw
    go_wp2_with fail
    go_ret
    exact ⟨rfl, N1.trans N2⟩
  obtain ⟨hs1, hs2⟩ := prs_of HB1.out
  obtain ⟨mb, hmb⟩ : ∃ b, mayB l = b := ⟨_, rfl⟩
  have HMB : Hid (mayB l = mb) := hmb
  have hmay := fun {w1 : World} (n : New w w1) => refMay_any (HP.out.after n) (by omega) hs2
  rw [hmb] at hmay
  have HS : Hid (∀ p ∈ l, p.1.length ≤ 4000 ∧ p.2.length ≤ 4000) := hs2
  clear hmb hs2
  cases mb
  case false =>
    go_enter Tryd.func5, Tryd.ntmps5
    go_wp2_with fail
    refine Calls.mono hlp ?_
    rintro _ W1 ⟨rfl, N1⟩
    have hm := hmay N1
    clear hlp hmay
    go_wp2_with fail
    refine Calls.mono hm ?_
    rintro _ W2 ⟨rfl, N2⟩
    have N2' := N1.trans N2
    have hw := wakes_any W2 (HT.out.kept N2')
    clear hm N1 N2
    go_wp2_with fail
    refine Calls.mono hw ?_
    rintro _ W3 ⟨rfl, N3⟩
    clear hw
    go_wp2_with fail
    go_ret
    exact ⟨rfl, N2'.trans N3⟩
  obtain ⟨a, c, rfl, hc, HA⟩ := HP.out.open ([], [])
  go_enter Tryd.func5, Tryd.ntmps5
  go_wp2_with fail
  refine Calls.mono hlp ?_
  rintro _ W1 ⟨rfl, N1⟩
  have hm := hmay N1
  clear hlp hmay
  go_wp2_with fail
  refine Calls.mono hm ?_
  rintro _ W0 ⟨rfl, N2⟩
  have N0 := N1.trans N2
  have hb := build_yes (HP.out.after N0) (by omega) HS.out HMB.out
  clear hm N1 N2
  go_wp2_with fail
  refine Calls.mono hb ?_
  rintro _ W3 ⟨v3, rfl, Q3, N3⟩
  have N3' := N0.trans N3
  have hpa := paths_any Q3.ls (build_ok HMB.out (by omega)) (HT.out.kept N3')
  have HQ3 : Hid (Pl W3 (Fresh W0) 49 20 v3 ((buildN l).map ndC)) := Q3
  clear hb Q3
  go_wp2_with fail
  refine Calls.mono hpa ?_
  rintro _ W5 ⟨N5, ⟨hn, rfl⟩ | ⟨s, v5, hs, rfl, Q5⟩⟩
  · rw [readF_iff.2 ⟨HMB.out, rfl, rfl⟩] at hn
    cases hn
  rw [readF_iff.2 ⟨HMB.out, rfl, rfl⟩] at hs
  obtain rfl := Option.some.inj hs
  obtain ⟨hsh, hvals, hfew⟩ := sh_of HMB.out
  have Q3 := HQ3.out.after N5
  unfold buildN at Q3
  have Q5' : Pl W5 (Fresh W3) 9 1 v5 (((trieL l).map (·.2)).map txC) := Q5
  rw [List.map_map] at Q3 Q5'
  have N5' := N3'.trans N5
  obtain ⟨T, hTT⟩ : ∃ T, trieL l = T := ⟨_, rfl⟩
  rw [hTT] at hsh hvals hfew Q3 Q5'
  obtain ⟨a3, c3, rfl, hc3, HS3⟩ := Q3.ls.open (f := fun m : NP => ndC m.1) noNP
  obtain ⟨a5, c5, rfl, hc5, HS5⟩ := Q5'.ls.open (f := fun m : NP => txC m.2) noNP
  obtain ⟨N, hN⟩ : ∃ N, T.length = N := ⟨_, rfl⟩
  have HH : Hid (Sh T) := hsh
  have HV : Hid ((T.filterMap valOf).length = l.length) := hvals
  have hN9 : N ≤ 30000 ∧ (N = 0 ∨ N + 2 ≤ 3 * l.length) := by rw [hN] at hfew; exact ⟨by omega, hfew⟩
  have HN : Hid (T.length = N) := hN
  rw [hN] at hc3 HS3 hc5 HS5 ⊢
  obtain ⟨W6, hmk, Q6, N6⟩ := run_make_pl W5 46 3 (.int .i64 0) N 1 8 Tryd.underlying46 info3 rfl (by decide) (by omega) (by decide)
  have HQ6 : Hid (Pl W6 (fun g => g = W5.heap.size) 3 1 (.slice (some ⟨W5.heap.size, 0, none⟩) N N) ((cntL N []).map inC)) := by
    show Pl _ _ _ _ _ _
    rw [cntL_nil, List.map_replicate]; exact Q6
  have hW6 : W5.heap.size < W6.heap.size := by
    obtain ⟨cur, R, _⟩ := Q6.row
    exact R.lt
  obtain ⟨hN30, hNl⟩ := hN9
  have HNL : Hid (N = 0 ∨ N + 2 ≤ 3 * l.length) := hNl
  have HM : Hid (∀ i, i < N → ∃ m, T[i]? = some m ∧ T.getD i noNP = m ∧ m ∈ T) := fun i hi => ⟨T[i]'(by rw [HN.out]; exact hi), List.getElem?_eq_getElem _, by rw [List.getD_eq_getElem?_getD, List.getElem?_eq_getElem (by rw [HN.out]; exact hi)]; rfl, List.getElem_mem _⟩
  clear Q3 Q5 Q5' Q6 hs hpa hsh hvals hfew hTT hN HQ3 hNl N0 N3 N3' N5
  go_wp2_with fail
  clear hmk
  go_loopw [7, 9] (fun s i wr => ∃ k : Nat, k ≤ N ∧ i = .int .i64 (k : Int) ∧ s = .int .i64 ((((T.take k).filterMap valOf).length : Nat) : Int) ∧
    Hid (Pl wr (fun g => g = W5.heap.size) 3 1 (.slice (some ⟨W5.heap.size, 0, none⟩) N N) ((cntL N (linksOf (T.take k))).map inC)) ∧ New W5 wr ∧ W5.heap.size < wr.heap.size) (fun _ i _ => N - (intOf i).toNat)
  case atStart => exact ⟨0, by omega, rfl, rfl, HQ6.out, N6, hW6⟩
  case round =>
    clear HQ6 hW6 N6
    obtain ⟨k, hk, rfl, rfl, hq, NN, hWr⟩ := hrel
    by_cases hlt : k < N
    · obtain ⟨g, o, rfl, hg, hr⟩ := HS3.out (by omega)
      obtain ⟨g5, o5, rfl, hg5, hr5⟩ := HS5.out (by omega)
      obtain ⟨m, hm, hmd, hmem⟩ := HM.out k hlt
      have R2 := hr wr NN k hlt
      have R5 := hr5 wr NN k hlt
      rw [hmd] at R2 R5
      have M1 := HH.out.k16 m hmem
      have M2 := HH.out.len m hmem
      rw [List.length_append] at M2
      have HMT : Hid (T[k]? = some m ∧ m ∈ T ∧ T.getD k noNP = m) := ⟨hm, hmem, hmd⟩
      have HR3 : Hid (∀ (W : World), New W5 W → ∀ i, i < N → W.rangeAt g (o + i * 20) (ndC (T.getD i noNP).1)) := hr
      have HR5 : Hid (∀ (W : World), New W5 W → ∀ i, i < N → W.rangeAt g5 (o5 + i * 1) (txC (T.getD i noNP).2)) := hr5
      have ck : wr.cell? ⟨g5, o5 + k, none⟩ = some (.string (bs m.2)) := by have := R5 0 _ rfl; rwa [Nat.mul_one] at this
      have hvf := vals_few (T := T) k
      rw [HN.out] at hvf
      have hgs : g < wr.heap.size := Nat.lt_of_lt_of_le hg NN.size
      have hg5s : g5 < wr.heap.size := Nat.lt_of_lt_of_le hg5 NN.size
      clear hm hmd hmem hr hr5 R5
      go_wp2_with (first
          | refine wpList_load_mid (by rfl) 49 _ (by rfl) g (o + k * 20) (by rfl) (ndC m.1) _ R2 Tryd.underlying49 rfl (by rw [ndC_len M1]; exact i49) ?_
          | (refine wpList_alloc_at (by rfl) 10 (by rfl) 49 (by rfl) _ _ _ info49 ?_; intro W1 R1 N1)
          | (refine wpList_store_new (by rfl) 49 _ _ (by rfl) wr.heap.size (ndA m.1) (by rfl) (by rfl) 49 _ R1 (by rw [ndA_size M1]; exact i49) (by rw [ndA_size M1]; rfl) (ndA_all _) ?_; intro W2 R3 B3; have N3 : New wr W2 := B3.new N1 (Nat.le_refl _)))
      have hR3 : Hid (Row W2 wr.heap.size (ndA m.1) 49) := R3
      have hNw2 : New W5 W2 := NN.trans N3
      have hP2 : Hid (Pl W2 (fun g => g = W5.heap.size) 3 1 (.slice (some ⟨W5.heap.size, 0, none⟩) N N) ((cntL N (linksOf (T.take k) ++ nz (m.1.kids.take 0))).map inC)) := by
        show Pl _ _ _ _ _ _
        rw [show nz (m.1.kids.take 0) = [] from rfl, List.append_nil]; exact hq.out.after N3
      have hBl : wr.heap.size < W2.heap.size := R3.lt
      have hgB : g < wr.heap.size := hgs
      have hg5B : g5 < wr.heap.size := hg5s
      clear R2 R1 R3 N1 N3 B3 hq ck NN hgs hg5s
      generalize wr.heap.size = B at *
      go_loopw [11, 12] (fun s i wz => ∃ cc : Nat, cc ≤ 16 ∧ i = .int .i64 (cc : Int) ∧ s = .int .i64 (((nz (m.1.kids.take cc)).length : Nat) : Int) ∧
        Hid (Pl wz (fun g => g = W5.heap.size) 3 1 (.slice (some ⟨W5.heap.size, 0, none⟩) N N) ((cntL N (linksOf (T.take k) ++ nz (m.1.kids.take cc))).map inC)) ∧ Hid (Row wz B (ndA m.1) 49) ∧ New W5 wz) (fun _ i _ => 16 - (intOf i).toNat)
      case atStart => exact ⟨0, by omega, rfl, rfl, hP2.out, hR3.out, hNw2⟩
      case round =>
        clear hP2 hR3 hNw2 hBl
        obtain ⟨cc, hcc, rfl, rfl, hPz, hRz, hNz⟩ := hrel
        have hkc : (nz (m.1.kids.take cc)).length ≤ 16 := Nat.le_trans (nz_le _) (by rw [List.length_take]; omega)
        by_cases hc16 : cc < 16
        · obtain ⟨x, hx⟩ : ∃ x, m.1.kids[cc]? = some x := ⟨m.1.kids[cc]'(by omega), List.getElem?_eq_getElem (by omega)⟩
          have cx := hRz.out.has (4 + cc) (nda_kid hx)
          by_cases hx0 : x = 0
          · subst hx0
            have hnx := nz_take_zero hx
            have HPN : Hid (nz (m.1.kids.take (cc + 1)) = nz (m.1.kids.take cc)) := hnx
            clear hx hnx
            go_wp2_with fail
            refine ⟨⟨cc + 1, by omega, by go_num, by rw [HPN.out], by rw [HPN.out]; exact hPz.out, hRz.out, hNz⟩, by simp [intOf]; omega⟩
          · have hnx := nz_take_more hx hx0
            obtain ⟨j, m', rfl, hkj, hjT, hm', hway⟩ := sh_kid HH.out HMT.out.1 hx hx0
            rw [HN.out] at hjT
            have hxb : ((j : Int) == 0) = false := by simpa using hx0
            have hd1 : decide ((j : Int) ≤ (k : Int)) = false := decide_eq_false (by omega)
            have hd2 : decide ((N : Int) ≤ (j : Int)) = false := decide_eq_false (by omega)
            have hd3 : decide (j ≤ k) = false := decide_eq_false (by omega)
            have hd4 : decide (N ≤ j) = false := decide_eq_false (by omega)
            obtain ⟨c1, f1⟩ := in_at hPz.out hjT
            have hPs := in_set hPz.out hjT
            have hcn := links_few HH.out HMT.out.1 cc (j : Int)
            rw [HN.out] at hcn
            rw [List.append_assoc, ← hnx] at hPs
            obtain ⟨q, hqq⟩ : ∃ q, List.count (j : Int) (linksOf (T.take k) ++ nz (m.1.kids.take cc)) = q := ⟨_, rfl⟩
            rw [hqq] at c1 hPs hcn
            have HPS : Hid (Pl (wr.setCell ⟨W5.heap.size, j, none⟩ (.int .i64 ((q : Int) + 1))) (fun g => g = W5.heap.size) 3 1 (.slice (some ⟨W5.heap.size, 0, none⟩) N N) ((cntL N (linksOf (T.take k) ++ nz (m.1.kids.take (cc + 1)))).map inC)) := hPs
            have HLX : Hid ((nz (m.1.kids.take (cc + 1))).length = (nz (m.1.kids.take cc)).length + 1) := by
              show _ = _
              rw [hnx, List.length_append]; rfl
            have HRS : Hid (Row (wr.setCell ⟨W5.heap.size, j, none⟩ (.int .i64 ((q : Int) + 1))) B (ndA m.1) 49) := hRz.out.of (Below.heap_setCell _ _ _ _ (by show B ≠ W5.heap.size; omega))
            have HNS : New W5 (wr.setCell ⟨W5.heap.size, j, none⟩ (.int .i64 ((q : Int) + 1))) := hNz.setCell (a := ⟨W5.heap.size, j, none⟩) (Nat.le_refl _) _
            have HPJ : Hid (∀ W, New W5 W → W.cell? ⟨g5, o5 + j, none⟩ = some (.string (bs m'.2)) ∧ W.cell? ⟨g5, o5 + k, none⟩ = some (.string (bs m.2)) ∧ W.cell? ⟨g, o + j * 20, none⟩ = some (.int .i64 m'.1.kind)) := fun W n => by
              have h1 := HR5.out W n j hjT 0 _ rfl
              have h2 := HR5.out W n k hlt 0 _ rfl
              have h3 := HR3.out W n j hjT 0 _ rfl
              rw [getD_some hm'] at h1 h3
              rw [HMT.out.2.2] at h2
              rw [Nat.mul_one] at h1 h2
              exact ⟨h1, h2, h3⟩
            have hs2 : (bs m.2).size + (bs m.1.path).size ≤ 16 := by rw [bs_size, bs_size]; exact M2
            have hE : bs m.2 ++ bs m.1.path = bs (m.2 ++ m.1.path) := eq_of_L (by rw [L_append, L_bs, L_bs, L_bs])
            have HWY : Hid ((m.1.kind = 2 ∧ cc = 0 ∧ m'.1.kind = 3 ∧ bs m'.2 = bs (m.2 ++ m.1.path)) ∨ (m.1.kind = 3 ∧ bs (m.2 ++ m.1.path) ++ bs [UInt8.ofNat cc] = bs m'.2)) := by
              rcases hway with ⟨h1, h2, h3, h4⟩ | ⟨h1, h2⟩
              · exact .inl ⟨h1, h2, h3, by rw [h4]⟩
              · exact .inr ⟨h1, eq_of_L (by rw [L_append, L_bs, L_bs, L_bs, h2])⟩
            have hEs : (bs (m.2 ++ m.1.path)).size ≤ 16 := by rw [bs_size, List.length_append]; exact M2
            have hcv := conv_byte hc16
            obtain ⟨E, hEE⟩ : ∃ E, bs (m.2 ++ m.1.path) = E := ⟨_, rfl⟩
            rw [hEE] at hE HWY hEs
            have HR0 : Hid ((ndA m.1)[0]? = some (.int .i64 m.1.kind) ∧ (ndA m.1)[1]? = some (.string (bs m.1.path))) := ⟨rfl, rfl⟩
            obtain ⟨A, hA⟩ : ∃ A, bs m.2 = A := ⟨_, rfl⟩
            obtain ⟨D, hD⟩ : ∃ D, bs m.1.path = D := ⟨_, rfl⟩
            rw [hA, hD] at hE hs2
            rw [hA] at HPJ
            rw [hD] at HR0
            clear hnx hx hqq hPs hm' hway hEE hA hD
            go_wp2_with fail
            clear cx c1 f1 hPz hRz hNz
            generalize wr.setCell ⟨W5.heap.size, j, none⟩ (.int .i64 ((q : Int) + 1)) = W7 at *
            have q1 := NewW.cell (W := W7) (g := B) (o := 1) (v := .string D) (HRS.out.has 1 HR0.out.2)
            have q2 := NewW.cell (W := W7) (g := g5) (o := o5 + k) (v := .string A) (HPJ.out W7 HNS).2.1
            have hne := NewW.ne W7
            refine region_new W7 (New.refl W7) (by kernel_rfl) (by kernel_rfl) ?_
            repeat (go_big_quiet_step (fail))
            refine wpQuiet_nil ?_
            rintro W8 ⟨⟨_, k3⟩, rfl⟩
            clear q1 q2 hne
            have hNS := HNS.trans k3
            have hRS := HRS.out.after k3
            have HPS8 : Hid (Pl _ (fun g => g = W5.heap.size) 3 1 (.slice (some ⟨W5.heap.size, 0, none⟩) N N) ((cntL N (linksOf (T.take k) ++ nz (m.1.kids.take (cc + 1)))).map inC)) := HPS.out.after k3
            obtain ⟨p1, p2, p3⟩ := HPJ.out _ hNS
            have d0 := hRS.has 0 HR0.out.1
            have HRS8 : Hid (Row _ B (ndA m.1) 49) := hRS
            clear HPJ HRS HNS HPS hRS p2
            rcases HWY.out with ⟨h1, h2, h3, h4⟩ | ⟨h1, h2⟩
            · subst h2
              rw [h4] at p1
              rw [h3] at p3
              rw [h1] at d0
              clear HWY h1 h3 h4 hcv
              go_wp2_with fail
              refine ⟨⟨0 + 1, by omega, by go_num, by rw [HLX.out]; go_num, HPS8.out, HRS8.out, hNS⟩, by simp [intOf]⟩
            · have hw8 : IntKind.u8.wrap (cc : Int) = (cc : Int) := by rw [IntKind.wrap_u8]; omega
              have HE : E ++ bs [UInt8.ofNat cc] = bs m'.2 := h2
              have hsz2 : (bs [UInt8.ofNat cc]).size ≤ 1 := Nat.le_refl _
              rw [h1] at d0
              have hg5W : g5 < W8.heap.size := Nat.lt_of_lt_of_le (Nat.lt_of_lt_of_le hg5 hNS.size) (Nat.le_refl _)
              have hgW : g < W8.heap.size := Nat.lt_of_lt_of_le hg hNS.size
              have hBW : B < W8.heap.size := HRS8.out.lt
              generalize bs m'.2 = E3 at HE p1
              generalize bs [UInt8.ofNat cc] = C1 at hcv HE hsz2
              clear HWY h1 h2
              go_wp2_with fail
              refine ⟨⟨cc + 1, by omega, by go_num, by rw [HLX.out]; go_num, HPS8.out.after ((New.refl _).alloc _), HRS8.out.alloc _, hNS.alloc _⟩, by simp [intOf]; omega⟩
        · obtain rfl : cc = 16 := by omega
          have h16 : m.1.kids.take 16 = m.1.kids := List.take_of_length_le (by omega)
          rw [h16] at hPz hkc ⊢
          rw [← links_more HMT.out.1] at hPz
          have HPE : Hid (Pl wr (fun g => g = W5.heap.size) 3 1 (.slice (some ⟨W5.heap.size, 0, none⟩) N N) ((cntL N (linksOf (T.take (k + 1)))).map inC)) := hPz.out
          have hvm := vals_more HMT.out.1
          have d0 := hRz.out.has 0 (v := .int .i64 m.1.kind) rfl
          have d1 := hRz.out.has 1 (v := .string (bs m.1.path)) rfl
          have d2 := hRz.out.has 2 (v := .bool m.1.has) rfl
          have hBz : B < wr.heap.size := hRz.out.lt
          have hways := sh_ways HH.out HMT.out.2.1
          have HWY : Hid ((m.1.kind = 1 ∧ m.1.has = true ∧ (nz m.1.kids).length = 0) ∨ (m.1.kind = 2 ∧ m.1.has = false ∧ m.1.path ≠ [] ∧ (nz m.1.kids).length = 1) ∨ (m.1.kind = 3 ∧ m.1.path = [] ∧ 2 ≤ (nz m.1.kids).length + (if m.1.has then 1 else 0))) := hways
          have HVM : Hid (((T.take (k + 1)).filterMap valOf).length = ((T.take k).filterMap valOf).length + (if m.1.has then 1 else 0)) := hvm
          clear h16 hPz hvm hways hRz
          generalize ((T.take k).filterMap valOf).length = V at HVM hvf ⊢
          generalize (nz m.1.kids).length = K at HWY hkc ⊢
          rcases HWY.out with ⟨e1, e2, e3⟩ | ⟨e1, e2, e3, e4⟩ | ⟨e1, e2, e3⟩
          · rw [e1] at d0
            rw [e2] at d2 HVM
            subst e3
            clear e1 e2 HWY
            go_wp2_with fail
            refine ⟨⟨k + 1, by omega, by go_num, ?_, HPE.out, hNz, Nat.lt_trans hWr hBz⟩, by simp [intOf]; omega⟩
            rw [show ((T.take (k + 1)).filterMap valOf).length = V + 1 from HVM.out]
            go_num
          · rw [e1] at d0
            rw [e2] at d2 HVM
            subst e4
            have hne := empty_no e3
            generalize bs m.1.path = D at d1 hne
            clear e1 e2 e3 HWY
            go_wp2_with fail
            exact ⟨⟨k + 1, by omega, by go_num, by rw [show ((T.take (k + 1)).filterMap valOf).length = V from HVM.out], HPE.out, hNz, Nat.lt_trans hWr hBz⟩, by simp [intOf]; omega⟩
          · rw [e1] at d0
            rw [e2] at d1
            have hem := empty_yes
            generalize bs [] = D at d1 hem
            cases hh : m.1.has
            · rw [hh] at d2 HVM e3
              have h2 : 2 ≤ K := e3
              have hd : decide ((K : Int) < 2) = false := decide_eq_false (by omega)
              clear e1 e2 e3 hh HWY
              go_wp2_with fail
              exact ⟨⟨k + 1, by omega, by go_num, by rw [show ((T.take (k + 1)).filterMap valOf).length = V from HVM.out], HPE.out, hNz, Nat.lt_trans hWr hBz⟩, by simp [intOf]; omega⟩
            · rw [hh] at d2 HVM e3
              have h2 : 1 ≤ K := by have : 2 ≤ K + 1 := e3; omega
              have hd : decide ((K : Int) + 1 < 2) = false := decide_eq_false (by omega)
              clear e1 e2 e3 hh HWY
              go_wp2_with fail
              refine ⟨⟨k + 1, by omega, by go_num, ?_, HPE.out, hNz, Nat.lt_trans hWr hBz⟩, by simp [intOf]; omega⟩
              rw [show ((T.take (k + 1)).filterMap valOf).length = V + 1 from HVM.out]
              go_num
    · obtain rfl : k = N := by omega
      have hall : T.take k = T := List.take_of_length_le (by rw [HN.out]; exact Nat.le_refl _)
      rw [hall] at hq ⊢
      rw [HV.out]
      have hk6 : l.length ≤ 30000 := by omega
      clear hall hlt hk
      go_wp2_with fail
      go_loopw [15] (fun i wz => ∃ j : Nat, j ≤ k ∧ i = .int .i64 (j : Int) ∧ New wr wz) (fun i _ => k - (intOf i).toNat)
      case atStart => exact ⟨0, by omega, rfl, New.refl _⟩
      case round =>
        obtain ⟨j, hj, rfl, hz⟩ := hrel
        by_cases hjk : j < k
        · have hla := links_all HH.out (j := j) (by rw [HN.out]; exact hjk)
          have cj := (in_at (hq.out.after hz) hjk).1
          rw [hla] at cj
          clear hla
          cases j with
          | zero =>
            have c0 : wr.cell? ⟨W5.heap.size, 0, none⟩ = some (.int .i64 0) := cj
            clear cj
            go_wp2_with fail
            have hne := NewW.ne wr
            refine region_new wr (New.refl wr) (by kernel_rfl) (by kernel_rfl) ?_
            repeat (go_big_quiet_step (fail))
            refine wpQuiet_nil ?_
            rintro W8 ⟨⟨_, k3⟩, rfl⟩
            clear hne
            go_wp2_with fail
            exact ⟨⟨1, by omega, by go_num, hz.trans k3⟩, by simp [intOf]; omega⟩
          | succ i =>
            have c1 : wr.cell? ⟨W5.heap.size, i + 1, none⟩ = some (.int .i64 1) := by rw [if_pos (Nat.succ_pos _)] at cj; exact cj
            obtain ⟨g5, o5, rfl, hg5, hr5⟩ := HS5.out (by omega)
            have NW := NN.trans hz
            obtain ⟨m1, hm1, hmd1, _⟩ := HM.out i (by omega)
            obtain ⟨m2, hm2, hmd2, _⟩ := HM.out (i + 1) hjk
            have p1 := hr5 wr NW i (by omega) 0 _ rfl
            have p2 := hr5 wr NW (i + 1) hjk 0 _ rfl
            rw [hmd1, Nat.mul_one] at p1
            rw [hmd2, Nat.mul_one] at p2
            have p1' : wr.cell? ⟨g5, o5 + i, none⟩ = some (.string (bs m1.2)) := p1
            have p2' : wr.cell? ⟨g5, o5 + (i + 1), none⟩ = some (.string (bs m2.2)) := p2
            have hr12 := sh_rise HH.out hm1 hm2
            have hlt : Op.bytesLess (bs m2.2).toList (bs m1.2).toList = false := by
              rw [upB_run, Bool.eq_false_iff]
              exact fun h => ltL_irrefl _ (ltL_trans hr12 ((less_iff _ _).1 h))
            have hle : ((bs m2.2).toList == (bs m1.2).toList) = false := by
              rw [toList_L, toList_L, L_bs, L_bs, beq_eq_false_iff_ne]
              exact fun h => ltL_irrefl _ (h ▸ hr12)
            generalize bs m1.2 = A at p1' hlt hle
            generalize bs m2.2 = D at p2' hlt hle
            clear hr12 cj hr5 hm1 hmd1 hm2 hmd2 p1 p2
            go_wp2_with fail
            have q1 := NewW.cell (W := wr) p1'
            have q2 := NewW.cell (W := wr) p2'
            have hne := NewW.ne wr
            refine region_new wr (New.refl wr) (by kernel_rfl) (by kernel_rfl) ?_
            repeat (go_big_quiet_step (fail))
            refine wpQuiet_nil ?_
            rintro W8 ⟨⟨_, k3⟩, rfl⟩
            clear q1 q2 hne
            go_wp2_with fail
            exact ⟨⟨i + 1 + 1, by omega, by go_num, hz.trans k3⟩, by simp [intOf]; omega⟩
        · obtain rfl : j = k := by omega
          have NW := NN.trans hz
          have hw := wakes_any wr (HT.out.kept (N5'.trans NW))
          have hx : (j : Int) ≤ max 0 (3 * (l.length : Int) - 1) := by have := HNL.out; omega
          go_wp2_with fail
          refine Calls.mono hw ?_
          rintro _ W9 ⟨rfl, N9⟩
          clear hw
          go_wp2_with fail
          go_ret
          exact ⟨rfl, (N5'.trans NW).trans N9⟩

end Go.Proofs.YtelaiblhnhbgiaaDoor
