/-
  gather: nodes gone through once, as the mathematics has it.
-/
import Derived.Test.YtelaiblhnhbgiaaDoorTrGab
namespace Go.Proofs.YtelaiblhnhbgiaaDoor
open Go.RowKit
set_option maxRecDepth 20000

/-- What gather says of nodes. -/
def GatSays (t : List Nd) (w : World) (e : Ending) (w' : World) : Prop := New w w' ∧
  ((gatN t t.length = none ∧ e = .returned (.tuple #[.slice none 0 0, .slice none 0 0, .bool false])) ∨
   (∃ s v1 v2, gatN t t.length = some s ∧ e = .returned (.tuple #[v1, v2, .bool true]) ∧ Pl w' (Fresh w) 52 2 v1 (s.1.map prC) ∧ Pl w' (Fresh w) 9 1 v2 (s.2.map txC)))
theorem GatSays.no {t : List Nd} {w w' : World} {i : Nat} (h : gatN t i = none) (hi : i ≤ t.length) (n : New w w') : GatSays t w (.returned (.tuple #[.slice none 0 0, .slice none 0 0, .bool false])) w' :=
  ⟨n, .inl ⟨by have := gatN_none h (t.length - i); rwa [show i + (t.length - i) = t.length by omega] at this, rfl⟩⟩
theorem run_build52b (p : Bt) (v : Bt) : Tryd.prog.built 52 [(0, .string (bs p)), (1, .string (bs v))] = some (prC (p, v)).toArray := by kernel_rfl
theorem kids_range {w : World} {B : Nat} {m : Nd} (R : Row w B (ndA m) 49) (h : m.kids.length = 16) : w.rangeAt B 4 (intC m.kids) := by
  have := R.range 4 16
  unfold ndA ndC at this
  simp only [List.drop_succ_cons, List.drop_zero] at this
  unfold intC
  rwa [List.take_of_length_le (by rw [List.length_map, h]; exact Nat.le_refl _)] at this
theorem tx_at {w : World} {F : Nat → Prop} {g n c : Nat} {ps : List Bt} (h : Pl w F 9 1 (.slice (some ⟨g, 0, none⟩) n c) (ps.map txC)) {k : Nat} (hk : k < ps.length) : w.cell? ⟨g, k, none⟩ = some (.string (bs (ps.getD k []))) := by
  have := (h.cellAt (i := k) (j := 0) (e := txC (ps.getD k [])) (u := .string (bs (ps.getD k []))) (by rw [List.getElem?_map, List.getD_eq_getElem?_getD, List.getElem?_eq_getElem hk]; rfl) rfl).1
  rwa [Nat.mul_one, Nat.add_zero] at this
theorem tx_set {w : World} {F : Nat → Prop} {g n c : Nat} {ps : List Bt} (h : Pl w F 9 1 (.slice (some ⟨g, 0, none⟩) n c) (ps.map txC)) {k : Nat} (hk : k < ps.length) (x : Bt) : Pl (w.setCell ⟨g, k, none⟩ (.string (bs x))) F 9 1 (.slice (some ⟨g, 0, none⟩) n c) ((ps.set k x).map txC) := by
  have := h.setCell (i := k) (j := 0) (e := txC (ps.getD k [])) (by rw [List.getElem?_map, List.getD_eq_getElem?_getD, List.getElem?_eq_getElem hk]; rfl) (by omega) (.string (bs x))
  rw [Nat.mul_one, Nat.add_zero] at this
  rw [List.map_set]
  exact this
theorem tx_froz {w : World} {F : Nat → Prop} {g n c : Nat} {ps : List Bt} (h : Pl w F 9 1 (.slice (some ⟨g, 0, none⟩) n c) (ps.map txC)) (k : Nat) : w.frozen? ⟨g, k, none⟩ = false := by
  obtain ⟨cur, R, _⟩ := h.row
  exact R.frozen _

theorem i47 : (Tryd.prog.info? 47).map (·.size) = some 16 := by kernel_rfl
set_option maxHeartbeats 4000000 in
theorem gather_any {w : World} {v : Value} {t : List Nd} (P : Ls w 20 v (t.map ndC)) (h16 : ∀ x ∈ t, x.kids.length = 16) (hl : t.length ≤ 10000) (hsz : ∀ x ∈ t, x.path.length ≤ 4000 ∧ x.val.length ≤ 4000) (hT : Tab w) :
    Calls Tryd.prog 36 #[v] w (GatSays t w) := by
  obtain ⟨a, c, rfl, hc, HS⟩ := P.open noNd
  have HM : Hid (∀ i, i < t.length → (t.getD i noNd).kids.length = 16 ∧ (t.getD i noNd).path.length ≤ 4000 ∧ (t.getD i noNd).val.length ≤ 4000) := fun i h => ⟨h16 _ (getD_mem h), hsz _ (getD_mem h)⟩
  have HOK : Hid (∀ {i : Nat} {s : List Pr × List Bt}, i ≤ t.length → gatN t i = some s → GatOk t i s) := fun h k => gat_ok (fun m hm => (hsz m hm).2) h k
  obtain ⟨W0, hmk, Q0, N0⟩ := run_make_pl w 30 9 (.string (bs [])) t.length 1 16 Tryd.underlying30 info9 rfl (by decide) (by omega) (by decide)
  have HQ0 : Hid (Pl W0 (fun g => g = w.heap.size) 9 1 (.slice (some ⟨w.heap.size, 0, none⟩) t.length t.length) ((List.replicate t.length ([] : Bt)).map txC) ∧ New w W0) := ⟨by rw [List.map_replicate]; exact Q0, N0⟩
  have hW0 : w.heap.size < W0.heap.size := by
    by_cases h0 : 0 < t.length
    · exact Q0.lt rfl
    · obtain ⟨cur, R, _⟩ := Q0.row
      exact R.lt
  clear h16 hsz P Q0 N0
  go_enter Tryd.func36, Tryd.ntmps36
  go_wp2_with fail
  clear hmk
  go_loopw [5, 19] (fun s i wr => ∃ (k : Nat) (acc : List Pr) (ps : List Bt), k ≤ t.length ∧ i = .int .i64 (k : Int) ∧ Hid (gatN t k = some (acc, ps)) ∧ Hid (Pl wr (fun g => w.heap.size < g) 52 2 s (acc.map prC)) ∧
    Hid (Pl wr (fun g => g = w.heap.size) 9 1 (.slice (some ⟨w.heap.size, 0, none⟩) t.length t.length) (ps.map txC)) ∧ New w wr ∧ w.heap.size < wr.heap.size) (fun _ i _ => t.length - (intOf i).toNat)
  case atStart => exact ⟨0, [], _, by omega, rfl, rfl, Pl.nil _ _ _ _, HQ0.out.1, HQ0.out.2, hW0⟩
  case round =>
    clear HQ0 hW0
    obtain ⟨k, acc, ps, hk, rfl, hgat, hq5, hq6, N, hWr⟩ := hrel
    by_cases hlt : k < t.length
    · obtain ⟨g, o, rfl, hg, hr⟩ := HS.out (by omega)
      have R2 := hr wr N k hlt
      obtain ⟨M1, M2, M3⟩ := HM.out k hlt
      obtain ⟨m, hm⟩ : ∃ m, t.getD k noNd = m := ⟨_, rfl⟩
      have HMD : Hid (t.getD k noNd = m) := hm
      rw [hm] at R2 M1 M2 M3
      have hok := HOK.out (Nat.le_of_lt hlt) hgat.out
      have hpl := hok.len
      have hal := hok.few
      simp only at hpl hal
      have hkp : k < ps.length := by omega
      have hpk := hok.path _ (getD_mem (d := []) hkp)
      have ck := tx_at hq6.out hkp
      obtain ⟨pk, hpkk⟩ : ∃ x, ps.getD k [] = x := ⟨_, rfl⟩
      have HPK : Hid (ps.getD k [] = pk) := hpkk
      rw [hpkk] at hpk ck
      obtain ⟨e, he⟩ : ∃ e, pk ++ m.path = e := ⟨_, rfl⟩
      have hel : e.length ≤ 4017 := by rw [← he, List.length_append]; omega
      have hE : bs pk ++ bs m.path = bs e := eq_of_L (by rw [L_append, L_bs, L_bs, L_bs]; exact he)
      have HE : Hid (pk ++ m.path = e) := he
      have hs1 : (bs pk).size ≤ 17 := by rw [bs_size]; exact hpk
      have hs2 : (bs m.path).size ≤ 4000 := by rw [bs_size]; exact M2
      have hgd := fun W => good_any (bs e) (by rw [bs_size]; omega) W
      rw [L_bs] at hgd
      obtain ⟨A, hA⟩ : ∃ A, bs pk = A := ⟨_, rfl⟩
      obtain ⟨D, hD⟩ : ∃ D, bs m.path = D := ⟨_, rfl⟩
      rw [hA] at hE hs1 ck
      rw [hD] at hE hs2
      obtain ⟨E, hEE⟩ : ∃ E, bs e = E := ⟨_, rfl⟩
      rw [hEE] at hE hgd
      have HEE : Hid (bs e = E) := hEE
      have HD : Hid (bs m.path = D) := hD
      have ndc1 : (ndC m)[1]? = some (.string D) := by rw [← hD]; rfl
      have HN1 : Hid ((ndC m)[1]? = some (.string D)) := ndc1
      have HC : Hid (wr.cell? ⟨w.heap.size, k, none⟩ = some (.string A)) := ck
      clear hm hr he hpkk hA hD hEE ndc1 hok hpk
      obtain ⟨gb, hgb⟩ : ∃ gb, goodB e = gb := ⟨_, rfl⟩
      have HGB : Hid (goodB e = gb) := hgb
      rw [hgb] at hgd
      clear hgb
      have hhas : (ndC m)[2]? = some (.bool m.has) := rfl
      have hkind : (ndC m)[0]? = some (.int .i64 m.kind) := rfl
      have hval : (ndC m)[3]? = some (.string (bs m.val)) := rfl
      obtain ⟨hh, hhe⟩ : ∃ b, m.has = b := ⟨_, rfl⟩
      obtain ⟨kd, hkd⟩ : ∃ z, m.kind = z := ⟨_, rfl⟩
      obtain ⟨V, hV⟩ : ∃ z, bs m.val = z := ⟨_, rfl⟩
      rw [hhe] at hhas
      rw [hkd] at hkind
      rw [hV] at hval
      have HHAS : Hid ((ndC m)[2]? = some (.bool hh)) := hhas
      have HKIND : Hid ((ndC m)[0]? = some (.int .i64 kd)) := hkind
      have HVAL : Hid ((ndC m)[3]? = some (.string V)) := hval
      have HHE : Hid (m.has = hh) := hhe
      have HKD : Hid (m.kind = kd) := hkd
      have HVE : Hid (bs m.val = V) := hV
      clear hhas hkind hval hhe hkd hV
      go_wp2_with (first
          | refine wpList_load_mid (by rfl) 49 _ (by rfl) g (o + k * 20) (by rfl) (ndC m) _ R2 Tryd.underlying49 rfl (by rw [ndC_len M1]; exact i49) ?_
          | (refine wpList_alloc_at (by rfl) 8 (by rfl) 49 (by rfl) _ _ _ info49 ?_; intro W1 R1 N1)
          | (refine wpList_store_new (by rfl) 49 _ _ (by rfl) wr.heap.size (ndA m) (by rfl) (by rfl) 49 _ R1 (by rw [ndA_size M1]; exact i49) (by rw [ndA_size M1]; rfl) (ndA_all _) ?_; intro W2 R3 B3; have N3 : New wr W2 := B3.new N1 (Nat.le_refl _)))
      have hBl : wr.heap.size < W2.heap.size := R3.lt
      have q1 := NewW.cell (W := W2) (g := wr.heap.size) (o := 1) (v := .string D) (R3.has 1 (by unfold ndA; simpa using HN1.out))
      have q2 := NewW.cell (W := W2) (g := w.heap.size) (o := k) (v := .string A) ((N3.cell hWr).trans HC.out)
      have hne := NewW.ne W2
      have HR3 : Hid (Row W2 wr.heap.size (ndA m) 49) := R3
      have HNw2 : New w W2 := N.trans N3
      have hP2 : Hid (Pl W2 (fun g => g = w.heap.size) 9 1 (.slice (some ⟨w.heap.size, 0, none⟩) t.length t.length) (ps.map txC)) := hq6.out.after N3
      have hQ2 : Hid (Pl W2 (fun g => w.heap.size < g ∧ g ≠ wr.heap.size) 52 2 u5 (acc.map prC)) := (hq5.out.mono (G := fun g => w.heap.size < g ∧ g ≠ wr.heap.size) (fun b hb hlt => ⟨hb, by omega⟩)).after N3
      have hwr2 : wr.heap.size ≤ W2.heap.size := N3.size
      have hWrW : w.heap.size < W2.heap.size := by omega
      clear R3 R1 R2 N1 N3 B3 hq5 hq6 hwr2
      generalize wr.heap.size = B at *
      go_simp
      refine region_new W2 (New.refl W2) (by kernel_rfl) (by kernel_rfl) ?_
      repeat (go_big_quiet_step (fail))
      refine wpQuiet_nil ?_
      rintro W3 ⟨⟨_, k3⟩, rfl⟩
      clear q1 q2 hne
      go_wp2_with fail
      refine Calls.mono (hgd _) ?_
      rintro _ W3 ⟨rfl, rfl⟩
      have HR : Hid (Row W3 B (ndA m) 49) := HR3.out.after k3
      have HNw : New w W3 := HNw2.trans k3
      have hP : Hid (Pl W3 (fun g => g = w.heap.size) 9 1 (.slice (some ⟨w.heap.size, 0, none⟩) t.length t.length) (ps.map txC)) := hP2.out.after k3
      have hQ : Hid (Pl W3 (fun g => w.heap.size < g ∧ g ≠ B) 52 2 u5 (acc.map prC)) := hQ2.out.after k3
      have hB3 : B < W3.heap.size := Nat.lt_of_lt_of_le hBl k3.size
      have hWr' : w.heap.size < W3.heap.size := Nat.lt_of_lt_of_le hWrW k3.size
      clear hP2 hQ2 HR3 HNw2 k3 hBl hgd
      cases gb
      · go_wp2_with fail
        go_ret3
        exact GatSays.no (i := k + 1) (by rw [gatN_succ hgat.out]; exact gatS_bad HMD.out (by simp only [HPK.out]; exact HE.out) HGB.out) hlt HNw
      · have he16 := goodB_len HGB.out
        have hd2 : W3.cell? ⟨B, 2, none⟩ = some (.bool hh) := HR.out.has 2 (by unfold ndA; simpa using HHAS.out)
        cases hh
        have hG5 : Hid (gatN t (k + 1) = match kidsG t.length k m.kind e m.kids ps 16 with | none => none | some ps' => some (acc, ps')) := by
          show _ = _
          rw [gatN_succ hgat.out, gatS_go HMD.out (by simp only [HPK.out]; exact HE.out) HGB.out (by rw [HHE.out]; rfl), HHE.out]; rfl
        have hQ5 : Hid (Pl W3 (fun g => w.heap.size < g) 52 2 u5 (acc.map prC)) := hQ.out.mono fun b hb _ => hb.1
        generalize acc = acc' at hQ5 hG5
        have hR5 : Hid (Row W3 B (ndA m) 49) := HR.out
        have hP5 : Hid (Pl W3 (fun g => g = w.heap.size) 9 1 (.slice (some ⟨w.heap.size, 0, none⟩) t.length t.length) (ps.map txC)) := hP.out
        have hN5 : New w W3 := HNw
        have hB5 : B < W3.heap.size := hB3
        generalize W3 = W5 at *
        clear HR HNw hP hB3 hQ
        go_wp2_with (first
          | refine wpList_load_mid (by rfl) 47 _ (by rfl) B 4 (by rfl) (intC m.kids) _ (kids_range hR5.out M1) Tryd.underlying47 rfl (by unfold intC; rw [List.length_map, M1]; exact i47) ?_)
        clear hd2
        rotate_left
        obtain ⟨kb, hkb⟩ : ∃ b, keyB e = b := ⟨_, rfl⟩
        have HKB : Hid (keyB e = kb) := hkb
        cases kb
        · have hky := fun W => key_no (bs e) (by rw [bs_size]; omega) (by rw [L_bs]; exact hkb) W
          rw [HEE.out] at hky
          clear hkb
          go_wp2_with fail
          refine Calls.mono (hky _) ?_
          rintro _ W4 ⟨rfl, k4⟩
          clear hky
          go_wp2_with fail
          go_ret3
          exact GatSays.no (i := k + 1) (by rw [gatN_succ hgat.out]; exact gatS_key HMD.out (by simp only [HPK.out]; exact HE.out) HGB.out (by rw [HHE.out, HKB.out]; rfl)) hlt (HNw.trans k4)
        have hky := key_yes (bs e) (by rw [bs_size]; omega) (by rw [L_bs]; exact hkb) W3 (hT.kept HNw)
        rw [HEE.out] at hky
        rw [← HEE.out, L_bs, HEE.out] at hky
        have hG5 : Hid (gatN t (k + 1) = match kidsG t.length k m.kind e m.kids ps 16 with | none => none | some ps' => some (acc ++ [(joinL e, m.val)], ps')) := by
          show _ = _
          rw [gatN_succ hgat.out, gatS_go HMD.out (by simp only [HPK.out]; exact HE.out) HGB.out (by rw [HHE.out, hkb]; rfl), HHE.out]; rfl
        have hd3 : ∀ W4, New W3 W4 → W4.cell? ⟨B, 3, none⟩ = some (.string V) := fun W4 k4 => (k4.cell hB3).trans (HR.out.has 3 (by unfold ndA; simpa using HVAL.out))
        have hal' : (acc.map prC).length = acc.length := List.length_map _
        clear hkb
        go_wp2_with fail
        refine Calls.mono hky ?_
        rintro _ W4 ⟨rfl, k4⟩
        have hd4 := hd3 W4 k4
        have Q4 := hQ.out.after k4
        have hB4 : B < W4.heap.size := Nat.lt_of_lt_of_le hB3 k4.size
        clear hky hd3
        go_wp2_with (first
          | refine wpList_build2 (by rfl) 52 _ _ (by rfl) _ _ (by rfl) (by rfl) _ (by rw [← HVE.out]; exact run_build52b (joinL e) m.val) ?_
          | (refine wpList_build_one (by rfl) 22 _ (by rfl) Tryd.underlying22 _ _ info52 (prC (joinL e, m.val)).toArray (by rfl) rfl (by decide) (by decide) ?_; intro W6 R6 N6; have Q6 := Q4.after N6)
          | (refine wpList_append_pl Q6 (by rfl) _ _ 22 (by rfl) Tryd.underlying22 _ _ info52 rfl (by decide) W4.heap.size (prC (joinL e, m.val)) 52 R6 rfl (prC_one _) (by omega) (by decide) (by rfl) (by rfl) ?_; intro g5 c5 W7 Q7 G7; have hR7 : Row W7 B (ndA m) 49 := ((HR.out.after k4).after N6).of (G7.block B (Nat.lt_of_lt_of_le hB4 N6.size) (fun e => (Q6.foot _ e.symm).2 rfl)))
          | refine wpList_load_mid (by rfl) 47 _ (by rfl) B 4 (by rfl) (intC m.kids) _ (kids_range hR7 M1) Tryd.underlying47 rfl (by unfold intC; rw [List.length_map, M1]; exact i47) ?_)
        have hR5 : Hid (Row W7 B (ndA m) 49) := hR7
        have hP5 : Hid (Pl W7 (fun g => g = w.heap.size) 9 1 (.slice (some ⟨w.heap.size, 0, none⟩) t.length t.length) (ps.map txC)) := ((hP.out.after k4).after N6).of (fun b hb hlt => G7.block b hlt (fun e => by have := (Q6.foot _ e.symm).1; omega)) (fun _ h _ => h)
        have hwW : w.heap.size < W6.heap.size := Nat.lt_of_lt_of_le (Nat.lt_of_lt_of_le hWr' k4.size) N6.size
        have hQ5 : Hid (Pl W7 (fun g => w.heap.size < g) 52 2 (.slice (some ⟨g5, 0, none⟩) (acc.length + 1) c5) ((acc ++ [(joinL e, m.val)]).map prC)) := by
          show Pl _ _ _ _ _ _
          rw [hal'] at Q7
          rw [List.map_append]
          exact Q7.mono fun b hb _ => hb.elim (fun h => h.1) (fun h => by omega)
        have hN5 : New w W7 := ((HNw.trans k4).trans N6).grown G7 fun b hb => Nat.le_of_lt (Q6.foot b hb).1
        have hB5 : B < W7.heap.size := hR7.lt
        generalize acc ++ [(joinL e, m.val)] = acc' at hQ5 hG5
        clear hR7 Q7 G7 Q6 R6 N6 Q4 k4 hB4 hd4 hal' HR HNw hP hB3 hQ hd2
        generalize W7 = W5 at *
        all_goals
          go_loopw [52] (fun i wz => ∃ (cc : Nat) (q : List Bt), cc ≤ 16 ∧ i = .int .i64 (cc : Int) ∧ Hid (kidsG t.length k m.kind e m.kids ps cc = some q) ∧
            Hid (Pl wz (fun g => g = w.heap.size) 9 1 (.slice (some ⟨w.heap.size, 0, none⟩) t.length t.length) (q.map txC)) ∧ Hid (Step (fun g => g = w.heap.size) (fun g => g = w.heap.size) W5 wz)) (fun i _ => 16 - (intOf i).toNat)
          case atStart => exact ⟨0, ps, by omega, rfl, rfl, hP5.out, Step.refl _ _⟩
          case round =>
            obtain ⟨cc, q, hcc, rfl, hkg, hPz, hSz⟩ := hrel
            have hN6 : New w wr := (Step.below hSz.out hN5 hN5.size (fun b hb => Nat.le_of_eq hb.symm)).1
            by_cases hc16 : cc < 16
            · obtain ⟨x, hx⟩ : ∃ x, m.kids[cc]? = some x := ⟨m.kids[cc]'(by omega), List.getElem?_eq_getElem (by omega)⟩
              have hidx := fun w => run_index47 w (intC m.kids) cc (.int .i64 x) (by unfold intC; rw [List.getElem?_map, hx]; rfl) hc16
              have hxD : m.kids.getD cc 0 = x := by rw [List.getD_eq_getElem?_getD, hx]; rfl
              have hks := kidsG_succ hkg.out
              rw [hxD] at hks
              have hql : q.length = t.length := (kidsG_length hkg.out).trans hpl
              by_cases hx0 : x = 0
              · have hxb : (x == 0) = true := by simpa using hx0
                have HKS : Hid (kidsG t.length k m.kind e m.kids ps (cc + 1) = some q) := by
                  show _ = _
                  rw [hks, if_pos hx0]
                clear hx0 hks hx hxD
                go_wp2_with fail
                exact ⟨⟨cc + 1, q, by omega, by go_num, HKS.out, hPz.out, hSz.out⟩, by simp [intOf]; omega⟩
              · have hxb : (x == 0) = false := by simpa using hx0
                by_cases hbad : x ≤ (k : Int) ∨ (t.length : Int) ≤ x
                · have HGN : Hid (gatN t (k + 1) = none) := by
                    show _ = _
                    rw [if_neg hx0, if_pos hbad] at hks
                    have h16 := kidsG_none hks (15 - cc)
                    rw [show cc + 1 + (15 - cc) = 16 by omega] at h16
                    rw [hG5.out, h16]
                  by_cases hx1 : x ≤ (k : Int)
                  · have hd1 : decide (x ≤ (k : Int)) = true := decide_eq_true hx1
                    clear hbad hx0 hks hx hxD hx1
                    go_wp2_with fail
                    go_ret3
                    exact GatSays.no HGN.out hlt hN6
                  · have hd1 : decide (x ≤ (k : Int)) = false := decide_eq_false hx1
                    have hd2 : decide ((t.length : Int) ≤ x) = true := decide_eq_true (by omega)
                    clear hbad hx0 hks hx hxD hx1
                    go_wp2_with fail
                    go_ret3
                    exact GatSays.no HGN.out hlt hN6
                · obtain ⟨j, rfl⟩ : ∃ j : Nat, x = (j : Int) := ⟨x.toNat, by omega⟩
                  have HKS : Hid (kidsG t.length k m.kind e m.kids ps (cc + 1) = some (q.set j (kidP kd e cc))) := by
                    show _ = _
                    rw [hks, if_neg hx0, if_neg hbad, Int.toNat_natCast, HKD.out]
                  have hd1 : decide ((j : Int) ≤ (k : Int)) = false := decide_eq_false (by omega)
                  have hd2 : decide ((t.length : Int) ≤ (j : Int)) = false := decide_eq_false (by omega)
                  have hd3 : decide (j ≤ k) = false := decide_eq_false (by omega)
                  have hd4 : decide (t.length ≤ j) = false := decide_eq_false (by omega)
                  have hjq : j < q.length := by omega
                  have hjt : j < t.length := by omega
                  have hRz : Row wr B (ndA m) 49 := hR5.out.of (hSz.out.block B hB5 (fun e => by omega))
                  have d0 : wr.cell? ⟨B, 0, none⟩ = some (.int .i64 kd) := hRz.has 0 (by unfold ndA; simpa using HKIND.out)
                  have hcp : ∀ W, Calls Tryd.prog 41 #[.int .i64 kd, .string E, .int .i64 (cc : Int)] W fun x w' => x = .returned (.string (bs (kidP kd e cc))) ∧ New W w' := fun W => by
                    have := childPath_any kd e (by omega) cc hc16 W
                    rw [HEE.out] at this
                    exact this
                  clear hbad hx0 hks hx hxD hRz
                  go_wp2_with (first
                    | (go_at_call 41; refine (hcp _).mono ?_; rintro _ W9 ⟨rfl, k9⟩; have P9 := hPz.out.after k9; have c9 := tx_at P9 hjq; have f9 := tx_froz P9 j))
                  refine ⟨⟨cc + 1, q.set j (kidP kd e cc), by omega, by go_num, HKS.out, tx_set P9 hjq _, hSz.out.trans ((Step.new k9).trans (Step.setCell (F := fun g => g = w.heap.size) W9 (a := ⟨w.heap.size, j, none⟩) rfl _))⟩, by simp [intOf]; omega⟩
            · obtain rfl : cc = 16 := by omega
              have hG6 := hG5.out
              rw [hkg.out] at hG6
              have HG6 : Hid (gatN t (k + 1) = some (acc', q)) := hG6
              clear hG6
              go_wp2_with fail
              exact ⟨⟨k + 1, acc', q, by omega, by go_num, HG6.out, hQ5.out.of (fun b hb hlt => hSz.out.block b hlt (fun h => by omega)) (fun _ h _ => h), hPz.out, hN6, Nat.lt_of_lt_of_le (Nat.lt_trans hWr hB5) hSz.out.size⟩, by simp [intOf]; omega⟩
    · go_wp2_with fail
      go_ret3
      refine ⟨N, .inr ⟨(acc, ps), _, _, by rw [show t.length = k by omega]; exact hgat.out, rfl, hq5.out.mono fun b hb _ => Nat.le_of_lt hb, hq6.out.mono fun b hb _ => Nat.le_of_eq hb.symm⟩⟩

end Go.Proofs.YtelaiblhnhbgiaaDoor
