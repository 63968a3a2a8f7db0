/-
  part: a Branch in the Path of a Leaf or an Ext (0C). part: a Branch in the Path of a Leaf or an Ext (0D). part: a Branch in the Path of a Leaf or an Ext (1A). part: a Branch in the Path of a Leaf or an Ext (1B). part: a Branch in the Path of a Leaf or an Ext (1C).
-/
import Derived.Test.YtjpjcojabjkaaaaDoorGas
namespace Go.Proofs.YtjpjcojabjkaaaaDoor
open Go.RowKit
set_option maxRecDepth 20000
set_option linter.unusedVariables false

set_option maxHeartbeats 4000000 in
theorem part_0C {w : World} {g cap : Nat} {d : List Nd} {n : Nd} {D : Nat} (Q : Pl w (At g) 55 20 (.slice (some ⟨g, 0, none⟩) D cap) (d.map ndC)) (hg : g < w.heap.size) (hk : n.kids.length = 16) (hD : d.length = D) (hl : D ≤ 900000) {a : Nat} (hn : d[a]? = some n) {m : Nat} (hm : m ≤ n.path.length) (hp : n.path.length ≤ 4000) (h0 : m = 0)
    {c : UInt8} {r : Bt} (hd : n.path.drop m = c :: r) (hc : c.toNat < 16) (hk2 : n.kind = 2) (hr : r ≠ []) :
    Calls Tryd.prog 42 #[.slice (some ⟨g, 0, none⟩) D cap, .int .i64 (a : Int), .int .i64 (m : Int)] w fun e w' => ∃ v' F', e = .returned v' ∧ Pl w' F' 55 20 v' ((partD d a n m).map ndC) ∧ Step (At g) F' w w' := by
  have ha : a < D := by rw [← hD]; exact (List.getElem?_eq_some_iff.1 hn).1
  have hFg : At g g := rfl
  have hal : (a : Int) < (D : Int) := by omega
  have hal0 : (0 : Int) ≤ (a : Int) := by omega
  have hms : (m : Int) ≤ ((bs n.path).size : Int) := by rw [bs_size]; omega
  have hm0 : (0 : Int) ≤ (m : Int) := by omega
  have hmn : m ≤ (bs n.path).size := by rw [bs_size]; omega
  have e1 : (bs n.path).extract m (bs n.path).size = bs (n.path.drop m) := tail_bs' _ _
  have e2 : (bs n.path).extract 0 m = bs (n.path.take m) := head_bs _ _
  have HN := map_at hn
  have HDl : Hid (d.length = D) := hD
  have H0 : Hid (m = 0) := h0
  have HK : Hid (n.kids.length = 16) := hk
  obtain ⟨up, hup⟩ : ∃ x, bs (n.path.take m) = x := ⟨_, rfl⟩
  obtain ⟨rs, hrs⟩ : ∃ x, bs (n.path.drop m) = x := ⟨_, rfl⟩
  have e3 : up.toList.isEmpty = true := by rw [← hup, empty_bs, h0]; rfl
  rw [hup] at e2
  rw [hrs] at e1
  have e4 : rs.toList.isEmpty = false := by rw [← hrs, empty_bs, hd]; rfl
  have HD0 : Hid (n.path.drop m = c :: r) := hd
  have hrsz : rs.size = r.length + 1 := by rw [← hrs, bs_size, hd]; rfl
  have HSZ : Hid (rs.size = r.length + 1) := hrsz
  have hrs0 : 0 < rs.size := by omega
  have hrs0i : (0 : Int) < (rs.size : Int) := by omega
  have hix : rs[0]'hrs0 = c := by
    subst hrs
    simp only [hd]; rfl
  have hci : (c.toNat : Int) < 16 := by omega
  have hci0 : (0 : Int) ≤ (c.toNat : Int) := by omega
  have hrs1 : rs.extract 1 rs.size = bs r := by rw [← hrs, tail_bs', hd]; rfl
  have hrs1i : (1 : Int) ≤ (rs.size : Int) := by omega
  have hrs1n : 1 ≤ rs.size := by omega
  have e5 : ((rs.size : Int) == 1) = false := by
    rw [beq_eq_false_iff_ne, hrsz]
    have : r.length ≠ 0 := fun h => hr (List.eq_nil_of_length_eq_zero h)
    omega
  have e6 : (n.kind == 2) = true := by rw [hk2]; rfl
  have HNX : Hid (¬ (n.kind = 2 ∧ r = [])) := fun h => hr h.2
  clear hk2 hr
  clear hrsz hd
  have HUP : Hid (bs (n.path.take m) = up) := hup
  have HRS : Hid (bs (n.path.drop m) = rs) := hrs
  have HQ : Hid (Pl w (At g) 55 20 (.slice (some ⟨g, 0, none⟩) D cap) (d.map ndC)) := Q
  have hnb : w.heap.size ≠ g := by omega
  clear Q hn hD h0 hup hrs hp hm
  go_enter Tryd.func42, Tryd.ntmps42
  go_wp2_with (first
    | refine wpList_load_pl (by rfl) 55 _ (by rfl) (At g) 55 20 g D cap a _ (ndC n) _ HQ.out HN (by rfl) Tryd.underlying55 rfl (ndsz hk) ?_
    | (refine wpList_alloc_at (by rfl) 7 (by rfl) 55 (by rfl) _ _ _ info49 ?_; intro W1 R1 N1)
    | (refine wpList_store_new (by rfl) 55 _ _ (by rfl) w.heap.size (ndA n) (by rfl) (by rfl) 55 _ R1 (ndszA hk) (by rw [ndA_size hk]; rfl) (ndA_all _) ?_; intro W2 R2 B2; have N2 : New w W2 := B2.new N1 (Nat.le_refl _); have y1 := R2.has 1 (v := .string (bs n.path)) rfl))
  have q1 := NewW.cell y1
  have hne := NewW.ne W2
  simp only [Act.put, List.setIfInBounds_toArray, List.set_cons_zero, List.set_cons_succ]
  refine region_new W2 (New.refl W2) (by kernel_rfl) (by kernel_rfl) ?_
  repeat (go_big_quiet_step (fail))
  refine wpQuiet_nil ?_
  rintro W3 ⟨⟨_, k3⟩, rfl⟩
  have N3 : New w W3 := N2.trans k3
  have R3 := R2.after k3
  have Q3 := HQ.out.after N3
  have hnb3 : w.heap.size < W3.heap.size := R3.lt
  obtain ⟨nb, hnbe⟩ : ∃ x, w.heap.size = x := ⟨_, rfl⟩
  rw [hnbe] at R3 hnb hnb3 ⊢
  clear q1 hne y1 R1 N1 B2 R2 k3 N2 HN hms e1 e2 hm0 hmn
  have Q6 := Q3
  have R6 := R3
  have HS6 : Hid (Step (At g) (At g) w W3) := Step.new N3
  have HX : Hid (partM d a n m = (d, a)) := by show _ = _; unfold partM; rw [if_pos H0.out]
  have HFN : Hid (∀ b, At g b → b ≠ nb) := fun b hb e => hnb (e.symm.trans hb)
  go_wp2_with (first
    | refine wpList_build1 (by rfl) 55 _ (by rfl) _ (by rfl) _ built49_br ?_
    | (refine wpList_store_pl (by rfl) 55 _ _ (by rfl) (At g) 55 20 g D cap a (d.map ndC) (ndC (brN false [] no16)) Q6 (by rw [List.length_map, HDl.out]; exact ha) (by rfl) (by rfl) rfl (by rw [i49]; rfl) (ndC_one _) ?_; intro W7 Q7 B7; rw [← List.map_set] at Q7; have R7 := R6.but B7 hnb; have HS7 : Hid (Step (At g) (At g) w W7) := HS6.out.trans (B7.step hFg); have HE7 : (d.set a (brN false [] no16))[a]? = some (brN false [] no16) := List.getElem?_set_self (by have := HDl.out; omega); have y0 := R7.has 0 (v := .int .i64 n.kind) rfl; clear HS6 R6))
  have hbLn : a < D := by first | omega | exact ha
  have hne := NewW.ne W7
  refine region_first 9 1 W7 (New.refl W7) (by kernel_rfl) (by kernel_rfl) ?_
  simp only [List.take_succ_cons, List.take_zero, List.drop_succ_cons, List.drop_zero]
  repeat (go_big_quiet_step (fail))
  refine wpQuiet_nil ?_
  rintro W8 ⟨⟨_, k8⟩, rfl⟩
  clear hne
  have QD := Q7.after k8
  have R8 := R7.after k8
  obtain ⟨c2, f2⟩ := QD.cellAt (map_at HE7) (kids_get (m := brN false [] no16) (c := c.toNat) (no16_get hc))
  have Q8 := QD.setCell (map_at HE7) (j := 4 + c.toNat) (by omega) (.int .i64 (D : Int))
  rw [br_kids, ← List.map_set, List.set_set] at Q8
  rw [← Nat.add_assoc] at c2 f2 Q8
  have S9 : Step (At g) (At g) w (W8.setCell ⟨g, a * 20 + 4 + c.toNat, none⟩ (.int .i64 (D : Int))) := (HS7.out.trans (Step.new k8)).trans (Step.setCell (a := ⟨g, a * 20 + 4 + c.toNat, none⟩) _ hFg _)
  have HS9 : Hid (Step (At g) (At g) w _) := S9
  have HF9 : Hid (partD d a n m = d.set a (brN false [] (no16.set c.toNat (D : Int))) ++ [{n with path := r}]) := by
    show _ = _
    unfold partD
    rw [HX.out]
    unfold partN
    rw [HD0.out]
    show (if n.kind = 2 ∧ r = [] then _ else _) = _
    rw [if_neg HNX.out, HDl.out]
  have R9 := R8.but (w' := W8.setCell ⟨g, a * 20 + 4 + c.toNat, none⟩ (.int .i64 (D : Int))) (b := g) ⟨rfl, rfl, rfl, by simp [World.setCell], fun k hk => Below.heap_setCell _ _ _ _ hk⟩ hnb
  have y1 := R9.has 1 (v := .string (bs n.path)) rfl
  have f1 := R9.frozen 1
  have RA := R9.set 1 (.string (bs r))
  have hRA : (ndA n).setIfInBounds 1 (.string (bs r)) = ndA {n with path := r} := rfl
  rw [hRA] at RA
  have hkr : ({n with path := r} : Nd).kids.length = 16 := HK.out
  have HLN : Hid ((d.set a (brN false [] (no16.set c.toNat (D : Int)))).length = D) := by
    show _ = _
    rw [List.length_set]; exact HDl.out
  have HF8 : Hid (partD d a n m = d.set a (brN false [] (no16.set c.toNat (D : Int))) ++ [{n with path := r}]) := HF9
  generalize d.set a (brN false [] (no16.set c.toNat (D : Int))) = d8 at Q8 HF8 HLN HF9
  generalize ({n with path := r} : Nd) = nr at RA hkr HF8 HF9
  have HNW : w.heap.size ≤ nb := Nat.le_of_eq hnbe
  have HSA : Hid (Step (At g) (At g) w ((W8.setCell ⟨g, a * 20 + 4 + c.toNat, none⟩ (.int .i64 (D : Int))).setCell ⟨nb, 1, none⟩ (.string (bs r)))) := HS9.out.setNew (a := ⟨nb, 1, none⟩) HNW _
  have QC := Q8.of (w' := (W8.setCell ⟨g, a * 20 + 4 + c.toNat, none⟩ (.int .i64 (D : Int))).setCell ⟨nb, 1, none⟩ (.string (bs r))) (G := (At g)) (fun b hb _ => Below.heap_setCell _ _ _ _ (HFN.out b hb)) (fun _ h _ => h)
  have HQC : Hid (Pl _ (At g) 55 20 (.slice (some ⟨g, 0, none⟩) D cap) (d8.map ndC)) := QC
  have HRA : Hid (Row _ nb (ndA nr) 55) := RA
  have hll : (d8.map ndC).length = D := by rw [List.length_map]; exact HLN.out
  have hgn : ¬ g = nb := fun e => hnb e.symm
  clear Q8 S9 QD QC Q7 HS7 HE7 R7 B7 R8 R9 RA hRA HF9 HS9
  go_wp2_with (first
    | refine wpList_load_row (by rfl) 55 _ (by rfl) nb (by rfl) 55 (ndA nr) (0, 0) _ HRA.out Tryd.underlying55 rfl (by rw [ndA_size hkr]; exact i49) ?_
    | (refine wpList_build_one (by rfl) 60 _ (by rfl) Tryd.underlying60 _ _ info49 (ndA nr) (by rfl) (ndA_size hkr) (by decide) (by decide) ?_; intro WB RB NB)
    | (refine wpList_append_pl (HQC.out.after NB) (by rfl) _ _ 60 (by rfl) Tryd.underlying60 _ _ info49 rfl (by decide) _ (ndC nr) 55 RB (ndC_len hkr) (ndC_one _) (by rw [hll]; omega) (by decide) (by rfl) (by rfl) ?_; intro gT cT WT QT GT))
  rw [hll] at QT
  go_ret
  refine ⟨_, _, rfl, by rw [HF8.out, List.map_append]; exact QT, ?_⟩
  exact ((HSA.out.trans (Step.new NB)).trans (Step.grown GT (fun k hk => HQC.out.foot k hk))).wide fun k hk => hk.elim (HSA.out.foot k) fun h => .inr (Nat.le_trans (HSA.out.trans (Step.new NB)).size h)
end Go.Proofs.YtjpjcojabjkaaaaDoor
namespace Go.Proofs.YtjpjcojabjkaaaaDoor
open Go.RowKit
set_option maxRecDepth 20000
set_option linter.unusedVariables false

set_option maxHeartbeats 4000000 in
theorem part_0D {w : World} {g cap : Nat} {d : List Nd} {n : Nd} {D : Nat} (Q : Pl w (At g) 55 20 (.slice (some ⟨g, 0, none⟩) D cap) (d.map ndC)) (hg : g < w.heap.size) (hk : n.kids.length = 16) (hD : d.length = D) (hl : D ≤ 900000) {a : Nat} (hn : d[a]? = some n) {m : Nat} (hm : m ≤ n.path.length) (hp : n.path.length ≤ 4000) (h0 : m = 0)
    {c : UInt8} {r : Bt} (hd : n.path.drop m = c :: r) (hc : c.toNat < 16) (hk2 : n.kind ≠ 2) :
    Calls Tryd.prog 42 #[.slice (some ⟨g, 0, none⟩) D cap, .int .i64 (a : Int), .int .i64 (m : Int)] w fun e w' => ∃ v' F', e = .returned v' ∧ Pl w' F' 55 20 v' ((partD d a n m).map ndC) ∧ Step (At g) F' w w' := by
  have ha : a < D := by rw [← hD]; exact (List.getElem?_eq_some_iff.1 hn).1
  have hFg : At g g := rfl
  have hal : (a : Int) < (D : Int) := by omega
  have hal0 : (0 : Int) ≤ (a : Int) := by omega
  have hms : (m : Int) ≤ ((bs n.path).size : Int) := by rw [bs_size]; omega
  have hm0 : (0 : Int) ≤ (m : Int) := by omega
  have hmn : m ≤ (bs n.path).size := by rw [bs_size]; omega
  have e1 : (bs n.path).extract m (bs n.path).size = bs (n.path.drop m) := tail_bs' _ _
  have e2 : (bs n.path).extract 0 m = bs (n.path.take m) := head_bs _ _
  have HN := map_at hn
  have HDl : Hid (d.length = D) := hD
  have H0 : Hid (m = 0) := h0
  have HK : Hid (n.kids.length = 16) := hk
  obtain ⟨up, hup⟩ : ∃ x, bs (n.path.take m) = x := ⟨_, rfl⟩
  obtain ⟨rs, hrs⟩ : ∃ x, bs (n.path.drop m) = x := ⟨_, rfl⟩
  have e3 : up.toList.isEmpty = true := by rw [← hup, empty_bs, h0]; rfl
  rw [hup] at e2
  rw [hrs] at e1
  have e4 : rs.toList.isEmpty = false := by rw [← hrs, empty_bs, hd]; rfl
  have HD0 : Hid (n.path.drop m = c :: r) := hd
  have hrsz : rs.size = r.length + 1 := by rw [← hrs, bs_size, hd]; rfl
  have HSZ : Hid (rs.size = r.length + 1) := hrsz
  have hrs0 : 0 < rs.size := by omega
  have hrs0i : (0 : Int) < (rs.size : Int) := by omega
  have hix : rs[0]'hrs0 = c := by
    subst hrs
    simp only [hd]; rfl
  have hci : (c.toNat : Int) < 16 := by omega
  have hci0 : (0 : Int) ≤ (c.toNat : Int) := by omega
  have hrs1 : rs.extract 1 rs.size = bs r := by rw [← hrs, tail_bs', hd]; rfl
  have hrs1i : (1 : Int) ≤ (rs.size : Int) := by omega
  have hrs1n : 1 ≤ rs.size := by omega
  have e6 : (n.kind == 2) = false := by rw [beq_eq_false_iff_ne]; exact hk2
  have HNX : Hid (¬ (n.kind = 2 ∧ r = [])) := fun h => hk2 h.1
  clear hk2
  clear hrsz hd
  have HUP : Hid (bs (n.path.take m) = up) := hup
  have HRS : Hid (bs (n.path.drop m) = rs) := hrs
  have HQ : Hid (Pl w (At g) 55 20 (.slice (some ⟨g, 0, none⟩) D cap) (d.map ndC)) := Q
  have hnb : w.heap.size ≠ g := by omega
  clear Q hn hD h0 hup hrs hp hm
  go_enter Tryd.func42, Tryd.ntmps42
  go_wp2_with (first
    | refine wpList_load_pl (by rfl) 55 _ (by rfl) (At g) 55 20 g D cap a _ (ndC n) _ HQ.out HN (by rfl) Tryd.underlying55 rfl (ndsz hk) ?_
    | (refine wpList_alloc_at (by rfl) 7 (by rfl) 55 (by rfl) _ _ _ info49 ?_; intro W1 R1 N1)
    | (refine wpList_store_new (by rfl) 55 _ _ (by rfl) w.heap.size (ndA n) (by rfl) (by rfl) 55 _ R1 (ndszA hk) (by rw [ndA_size hk]; rfl) (ndA_all _) ?_; intro W2 R2 B2; have N2 : New w W2 := B2.new N1 (Nat.le_refl _); have y1 := R2.has 1 (v := .string (bs n.path)) rfl))
  have q1 := NewW.cell y1
  have hne := NewW.ne W2
  simp only [Act.put, List.setIfInBounds_toArray, List.set_cons_zero, List.set_cons_succ]
  refine region_new W2 (New.refl W2) (by kernel_rfl) (by kernel_rfl) ?_
  repeat (go_big_quiet_step (fail))
  refine wpQuiet_nil ?_
  rintro W3 ⟨⟨_, k3⟩, rfl⟩
  have N3 : New w W3 := N2.trans k3
  have R3 := R2.after k3
  have Q3 := HQ.out.after N3
  have hnb3 : w.heap.size < W3.heap.size := R3.lt
  obtain ⟨nb, hnbe⟩ : ∃ x, w.heap.size = x := ⟨_, rfl⟩
  rw [hnbe] at R3 hnb hnb3 ⊢
  clear q1 hne y1 R1 N1 B2 R2 k3 N2 HN hms e1 e2 hm0 hmn
  have Q6 := Q3
  have R6 := R3
  have HS6 : Hid (Step (At g) (At g) w W3) := Step.new N3
  have HX : Hid (partM d a n m = (d, a)) := by show _ = _; unfold partM; rw [if_pos H0.out]
  have HFN : Hid (∀ b, At g b → b ≠ nb) := fun b hb e => hnb (e.symm.trans hb)
  go_wp2_with (first
    | refine wpList_build1 (by rfl) 55 _ (by rfl) _ (by rfl) _ built49_br ?_
    | (refine wpList_store_pl (by rfl) 55 _ _ (by rfl) (At g) 55 20 g D cap a (d.map ndC) (ndC (brN false [] no16)) Q6 (by rw [List.length_map, HDl.out]; exact ha) (by rfl) (by rfl) rfl (by rw [i49]; rfl) (ndC_one _) ?_; intro W7 Q7 B7; rw [← List.map_set] at Q7; have R7 := R6.but B7 hnb; have HS7 : Hid (Step (At g) (At g) w W7) := HS6.out.trans (B7.step hFg); have HE7 : (d.set a (brN false [] no16))[a]? = some (brN false [] no16) := List.getElem?_set_self (by have := HDl.out; omega); have y0 := R7.has 0 (v := .int .i64 n.kind) rfl; clear HS6 R6))
  have hbLn : a < D := by first | omega | exact ha
  have hne := NewW.ne W7
  refine region_first 9 1 W7 (New.refl W7) (by kernel_rfl) (by kernel_rfl) ?_
  simp only [List.take_succ_cons, List.take_zero, List.drop_succ_cons, List.drop_zero]
  repeat (go_big_quiet_step (fail))
  refine wpQuiet_nil ?_
  rintro W8 ⟨⟨_, k8⟩, rfl⟩
  clear hne
  have QD := Q7.after k8
  have R8 := R7.after k8
  obtain ⟨c2, f2⟩ := QD.cellAt (map_at HE7) (kids_get (m := brN false [] no16) (c := c.toNat) (no16_get hc))
  have Q8 := QD.setCell (map_at HE7) (j := 4 + c.toNat) (by omega) (.int .i64 (D : Int))
  rw [br_kids, ← List.map_set, List.set_set] at Q8
  rw [← Nat.add_assoc] at c2 f2 Q8
  have S9 : Step (At g) (At g) w (W8.setCell ⟨g, a * 20 + 4 + c.toNat, none⟩ (.int .i64 (D : Int))) := (HS7.out.trans (Step.new k8)).trans (Step.setCell (a := ⟨g, a * 20 + 4 + c.toNat, none⟩) _ hFg _)
  have HS9 : Hid (Step (At g) (At g) w _) := S9
  have HF9 : Hid (partD d a n m = d.set a (brN false [] (no16.set c.toNat (D : Int))) ++ [{n with path := r}]) := by
    show _ = _
    unfold partD
    rw [HX.out]
    unfold partN
    rw [HD0.out]
    show (if n.kind = 2 ∧ r = [] then _ else _) = _
    rw [if_neg HNX.out, HDl.out]
  have R9 := R8.but (w' := W8.setCell ⟨g, a * 20 + 4 + c.toNat, none⟩ (.int .i64 (D : Int))) (b := g) ⟨rfl, rfl, rfl, by simp [World.setCell], fun k hk => Below.heap_setCell _ _ _ _ hk⟩ hnb
  have y1 := R9.has 1 (v := .string (bs n.path)) rfl
  have f1 := R9.frozen 1
  have RA := R9.set 1 (.string (bs r))
  have hRA : (ndA n).setIfInBounds 1 (.string (bs r)) = ndA {n with path := r} := rfl
  rw [hRA] at RA
  have hkr : ({n with path := r} : Nd).kids.length = 16 := HK.out
  have HLN : Hid ((d.set a (brN false [] (no16.set c.toNat (D : Int)))).length = D) := by
    show _ = _
    rw [List.length_set]; exact HDl.out
  have HF8 : Hid (partD d a n m = d.set a (brN false [] (no16.set c.toNat (D : Int))) ++ [{n with path := r}]) := HF9
  generalize d.set a (brN false [] (no16.set c.toNat (D : Int))) = d8 at Q8 HF8 HLN HF9
  generalize ({n with path := r} : Nd) = nr at RA hkr HF8 HF9
  have HNW : w.heap.size ≤ nb := Nat.le_of_eq hnbe
  have HSA : Hid (Step (At g) (At g) w ((W8.setCell ⟨g, a * 20 + 4 + c.toNat, none⟩ (.int .i64 (D : Int))).setCell ⟨nb, 1, none⟩ (.string (bs r)))) := HS9.out.setNew (a := ⟨nb, 1, none⟩) HNW _
  have QC := Q8.of (w' := (W8.setCell ⟨g, a * 20 + 4 + c.toNat, none⟩ (.int .i64 (D : Int))).setCell ⟨nb, 1, none⟩ (.string (bs r))) (G := (At g)) (fun b hb _ => Below.heap_setCell _ _ _ _ (HFN.out b hb)) (fun _ h _ => h)
  have HQC : Hid (Pl _ (At g) 55 20 (.slice (some ⟨g, 0, none⟩) D cap) (d8.map ndC)) := QC
  have HRA : Hid (Row _ nb (ndA nr) 55) := RA
  have hll : (d8.map ndC).length = D := by rw [List.length_map]; exact HLN.out
  have hgn : ¬ g = nb := fun e => hnb e.symm
  clear Q8 S9 QD QC Q7 HS7 HE7 R7 B7 R8 R9 RA hRA HF9 HS9
  go_wp2_with (first
    | refine wpList_load_row (by rfl) 55 _ (by rfl) nb (by rfl) 55 (ndA nr) (0, 0) _ HRA.out Tryd.underlying55 rfl (by rw [ndA_size hkr]; exact i49) ?_
    | (refine wpList_build_one (by rfl) 60 _ (by rfl) Tryd.underlying60 _ _ info49 (ndA nr) (by rfl) (ndA_size hkr) (by decide) (by decide) ?_; intro WB RB NB)
    | (refine wpList_append_pl (HQC.out.after NB) (by rfl) _ _ 60 (by rfl) Tryd.underlying60 _ _ info49 rfl (by decide) _ (ndC nr) 55 RB (ndC_len hkr) (ndC_one _) (by rw [hll]; omega) (by decide) (by rfl) (by rfl) ?_; intro gT cT WT QT GT))
  rw [hll] at QT
  go_ret
  refine ⟨_, _, rfl, by rw [HF8.out, List.map_append]; exact QT, ?_⟩
  exact ((HSA.out.trans (Step.new NB)).trans (Step.grown GT (fun k hk => HQC.out.foot k hk))).wide fun k hk => hk.elim (HSA.out.foot k) fun h => .inr (Nat.le_trans (HSA.out.trans (Step.new NB)).size h)
end Go.Proofs.YtjpjcojabjkaaaaDoor
namespace Go.Proofs.YtjpjcojabjkaaaaDoor
open Go.RowKit
set_option maxRecDepth 20000
set_option linter.unusedVariables false

set_option maxHeartbeats 4000000 in
theorem part_1A {w : World} {g cap : Nat} {d : List Nd} {n : Nd} {D : Nat} (Q : Pl w (At g) 55 20 (.slice (some ⟨g, 0, none⟩) D cap) (d.map ndC)) (hg : g < w.heap.size) (hk : n.kids.length = 16) (hD : d.length = D) (hl : D ≤ 900000) {a : Nat} (hn : d[a]? = some n) {m : Nat} (hm : m ≤ n.path.length) (hp : n.path.length ≤ 4000) (h0 : m ≠ 0)
    (hd : n.path.drop m = []) :
    Calls Tryd.prog 42 #[.slice (some ⟨g, 0, none⟩) D cap, .int .i64 (a : Int), .int .i64 (m : Int)] w fun e w' => ∃ v' F', e = .returned v' ∧ Pl w' F' 55 20 v' ((partD d a n m).map ndC) ∧ Step (At g) F' w w' := by
  have ha : a < D := by rw [← hD]; exact (List.getElem?_eq_some_iff.1 hn).1
  have hFg : At g g := rfl
  have hal : (a : Int) < (D : Int) := by omega
  have hal0 : (0 : Int) ≤ (a : Int) := by omega
  have hms : (m : Int) ≤ ((bs n.path).size : Int) := by rw [bs_size]; omega
  have hm0 : (0 : Int) ≤ (m : Int) := by omega
  have hmn : m ≤ (bs n.path).size := by rw [bs_size]; omega
  have e1 : (bs n.path).extract m (bs n.path).size = bs (n.path.drop m) := tail_bs' _ _
  have e2 : (bs n.path).extract 0 m = bs (n.path.take m) := head_bs _ _
  have HN := map_at hn
  have HDl : Hid (d.length = D) := hD
  have H0 : Hid (m ≠ 0) := h0
  have HK : Hid (n.kids.length = 16) := hk
  obtain ⟨up, hup⟩ : ∃ x, bs (n.path.take m) = x := ⟨_, rfl⟩
  obtain ⟨rs, hrs⟩ : ∃ x, bs (n.path.drop m) = x := ⟨_, rfl⟩
  have e3 : up.toList.isEmpty = false := by
    rw [← hup, empty_bs, List.isEmpty_eq_false_iff]
    intro h
    have := congrArg List.length h
    rw [List.length_take, List.length_nil] at this
    omega
  rw [hup] at e2
  rw [hrs] at e1
  have e4 : rs.toList.isEmpty = true := by rw [← hrs, empty_bs, hd]; rfl
  have HD0 : Hid (n.path.drop m = []) := hd
  clear hd
  have HUP : Hid (bs (n.path.take m) = up) := hup
  have HRS : Hid (bs (n.path.drop m) = rs) := hrs
  have HQ : Hid (Pl w (At g) 55 20 (.slice (some ⟨g, 0, none⟩) D cap) (d.map ndC)) := Q
  have hnb : w.heap.size ≠ g := by omega
  clear Q hn hD h0 hup hrs hp hm
  go_enter Tryd.func42, Tryd.ntmps42
  go_wp2_with (first
    | refine wpList_load_pl (by rfl) 55 _ (by rfl) (At g) 55 20 g D cap a _ (ndC n) _ HQ.out HN (by rfl) Tryd.underlying55 rfl (ndsz hk) ?_
    | (refine wpList_alloc_at (by rfl) 7 (by rfl) 55 (by rfl) _ _ _ info49 ?_; intro W1 R1 N1)
    | (refine wpList_store_new (by rfl) 55 _ _ (by rfl) w.heap.size (ndA n) (by rfl) (by rfl) 55 _ R1 (ndszA hk) (by rw [ndA_size hk]; rfl) (ndA_all _) ?_; intro W2 R2 B2; have N2 : New w W2 := B2.new N1 (Nat.le_refl _); have y1 := R2.has 1 (v := .string (bs n.path)) rfl))
  have q1 := NewW.cell y1
  have hne := NewW.ne W2
  simp only [Act.put, List.setIfInBounds_toArray, List.set_cons_zero, List.set_cons_succ]
  refine region_new W2 (New.refl W2) (by kernel_rfl) (by kernel_rfl) ?_
  repeat (go_big_quiet_step (fail))
  refine wpQuiet_nil ?_
  rintro W3 ⟨⟨_, k3⟩, rfl⟩
  have N3 : New w W3 := N2.trans k3
  have R3 := R2.after k3
  have Q3 := HQ.out.after N3
  have hnb3 : w.heap.size < W3.heap.size := R3.lt
  obtain ⟨nb, hnbe⟩ : ∃ x, w.heap.size = x := ⟨_, rfl⟩
  rw [hnbe] at R3 hnb hnb3 ⊢
  clear q1 hne y1 R1 N1 B2 R2 k3 N2 HN hms e1 e2 hm0 hmn
  go_upto_region 7 with (first
    | refine wpList_build1 (by rfl) 53 _ (by rfl) _ (by rfl) _ (built47_one _) ?_
    | refine wpList_build3x (by rfl) 55 _ _ _ (by rfl) _ _ _ (by rfl) (by rfl) (by rfl) _ (by rw [← HUP.out]; exact built55_e _ _) ?_
    | (refine wpList_store_pl (by rfl) 55 _ _ (by rfl) (At g) 55 20 g D cap a (d.map ndC) (ndC (extN (n.path.take m) (D : Int))) Q3 (by rw [List.length_map, HDl.out]; exact ha) (by rfl) (by rfl) rfl (by rw [i49]; rfl) (ndC_one _) ?_; intro W4 Q4 B4; rw [← List.map_set] at Q4; have R4 := R3.but B4 hnb; have S4 : Step (At g) (At g) w W4 := (Step.new N3).trans (B4.step hFg); clear Q3 R3)
    | refine wpList_build0 (by rfl) 55 (by rfl) _ built55_0 ?_
    | (refine wpList_build_one (by rfl) 60 _ (by rfl) Tryd.underlying60 _ _ info49 (ndA noNd) (by rfl) rfl (by decide) (by decide) ?_; intro W5 R5 N5; have Q5 := Q4.after N5; have hlen : ((d.set a (extN (n.path.take m) (D : Int))).map ndC).length = D := (by rw [List.length_map, List.length_set]; exact HDl.out))
    | (refine wpList_append_pl Q5 (by rfl) _ _ 60 (by rfl) Tryd.underlying60 _ _ info49 rfl (by decide) _ (ndC noNd) 55 R5 rfl (ndC_one _) (by rw [hlen]; omega) (by decide) (by rfl) (by rfl) ?_; intro g6 c6 W6 Q6 G6; obtain ⟨L1, hL1⟩ : ∃ x, D + 1 = x := ⟨_, rfl⟩; rw [hlen, hL1] at Q6 ⊢; have HL1 : Hid (D + 1 = L1) := hL1; have hDL : D < L1 := (by omega); have hDLi : (D : Int) < (L1 : Int) := (by omega); have hL9 : L1 ≤ 900001 := (by omega); clear hL1 hlen))
  have S6 : Step (At g) (fun b => At g b ∨ W5.heap.size ≤ b) w W6 := ((S4.trans (Step.new N5)).trans (Step.grown G6 (fun k hk => Q5.foot k hk))).wide fun k hk => hk.imp id fun h => Nat.le_trans (S4.trans (Step.new N5)).size h
  have HS6 : Hid (Step (At g) (fun b => At g b ∨ W5.heap.size ≤ b) w W6) := S6
  have R6 : Row W6 nb (ndA n) 55 := (R4.after N5).of (G6.block nb (R4.after N5).lt (fun e => hnb (by injection e)))
  have hF6 : (fun b => At g b ∨ W5.heap.size ≤ b) g6 := Q6.foot g6 rfl
  have hnb6 : nb ≠ g6 := by
    have h5 := (R4.after N5).lt
    rcases hF6 with h | h
    · rw [show g6 = g from h]; exact hnb
    · omega
  have HFN : Hid (∀ b, (fun b => At g b ∨ W5.heap.size ≤ b) b → b ≠ nb) := fun b hb e => by
    have h5 := (R4.after N5).lt
    rcases hb with h | h
    · exact hnb (e.symm.trans h)
    · omega
  obtain ⟨F6, hF6e⟩ : ∃ X, (fun b => At g b ∨ W5.heap.size ≤ b) = X := ⟨_, rfl⟩
  rw [hF6e] at Q6 HS6 hF6 HFN
  have Q6' : Pl W6 F6 55 20 (.slice (some ⟨g6, 0, none⟩) L1 c6) ((d.set a (extN (n.path.take m) (D : Int)) ++ [noNd]).map ndC) := by rw [List.map_append]; exact Q6
  have hdl : (d.set a (extN (n.path.take m) (D : Int)) ++ [noNd]).length = L1 := by rw [List.length_append, List.length_set, HDl.out]; exact HL1.out
  have HX : Hid (partM d a n m = (d.set a (extN (n.path.take m) (D : Int)) ++ [noNd], D)) := by show _ = _; unfold partM; rw [if_neg H0.out, HDl.out]
  generalize d.set a (extN (n.path.take m) (D : Int)) ++ [noNd] = d1 at Q6' hdl HX
  clear Q6 S6 S4 Q5 Q4 R4 B4 R5 N5 G6 hF6e
  go_wp2_with (first
    | refine wpList_build1 (by rfl) 55 _ (by rfl) _ (by rfl) _ built49_br ?_
    | (refine wpList_store_pl (by rfl) 55 _ _ (by rfl) F6 55 20 g6 L1 c6 D (d1.map ndC) (ndC (brN false [] no16)) Q6' (by rw [List.length_map, hdl]; exact hDL) (by rfl) (by rfl) rfl (by rw [i49]; rfl) (ndC_one _) ?_; intro W7 Q7 B7; rw [← List.map_set] at Q7; have R7 := R6.but B7 hnb6; have HS7 : Hid (Step (At g) F6 w W7) := HS6.out.trans (B7.step hF6); have HE7 : (d1.set D (brN false [] no16))[D]? = some (brN false [] no16) := List.getElem?_set_self (by have := hdl; omega); have y0 := R7.has 0 (v := .int .i64 n.kind) rfl; clear HS6 R6))
  have y3 := R7.has 3 (v := .string (bs n.val)) rfl
  have hS : HasL [(nb, 3, .string (bs n.val))] W7.drew := HasL.of fun x hx => by
    simp only [List.mem_cons, List.not_mem_nil, or_false] at hx
    subst hx
    exact (R7.after (New.drew W7)).has 3 rfl
  have hbLn : D < L1 := by first | omega | exact ha
  refine region_take [0, 1, 2, 3, 4, 5, 6, 7] [8, 9, 10] 11 (HasL [(nb, 3, .string (bs n.val))]) hS (by kernel_rfl) (by kernel_rfl) (fun d _ _ _ _ h => by cases d <;> exact h) ?_
  simp only [pick, List.getElem?_cons_succ, List.getElem?_cons_zero, Option.toList_some, List.cons_append, List.nil_append]
  have hne : Nonempty (CsW [(nb, 3, .string (bs n.val))]) := ⟨hS.choose⟩
  have q0 : ∀ q : CsW [(nb, 3, .string (bs n.val))], q.v.cell? ⟨nb, 3, none⟩ = some (.string (bs n.val)) := fun q => q.h (nb, 3, .string (bs n.val)) (by simp)
  unfold HasL
  repeat (go_big_quiet_step (fail))
  refine wpQuiet_nil ?_
  clear hne q0 y3
  have QD := Q7.after (New.drew W7)
  obtain ⟨c2, f2⟩ := QD.cellAt (map_at HE7) (j := 2) (u := .bool false) rfl
  have Q8 := QD.setCell (map_at HE7) (j := 2) (by decide) (.bool true)
  rw [show (ndC (brN false [] no16)).set 2 (.bool true) = ndC (brN true [] no16) from rfl, ← List.map_set, List.set_set] at Q8
  have hS8 := hS.set (a := ⟨g6, D * 20 + 2, none⟩) (.bool true) (fun x hx => by
    simp only [List.mem_cons, List.not_mem_nil, or_false] at hx
    subst hx
    exact hnb6)
  refine wpPre_skip none (W7.drew.setCell ⟨g6, D * 20 + 2, none⟩ (.bool true)) (by rfl) (by rfl) (by rfl) (exec_store_bool (u := .bool false) (by rfl) (by rfl) (by rfl) c2 f2) hS8 ?_
  simp only [Act.put]
  refine wpPre_run (some 69) (.pointer (some ⟨g6, D * 20, none⟩)) _ (by rfl) (by rfl) (by rfl) (by go_simp) hS8 ?_
  simp only [Act.put, List.setIfInBounds_toArray, List.set_cons_zero, List.set_cons_succ]
  refine wpPre_run (some 70) (.pointer (some ⟨g6, D * 20 + 3, none⟩)) _ (by rfl) (by rfl) (by rfl) (by go_simp) hS8 ?_
  simp only [Act.put, List.setIfInBounds_toArray, List.set_cons_zero, List.set_cons_succ]
  refine wpPre_nil ?_
  have HE8 : (d1.set D (brN true [] no16))[D]? = some (brN true [] no16) := List.getElem?_set_self (by have := hdl; omega)
  obtain ⟨c3, f3⟩ := Q8.cellAt (map_at HE8) (j := 3) (u := .string (bs [])) rfl
  have Q9 := Q8.setCell (map_at HE8) (j := 3) (by decide) (.string (bs n.val))
  rw [show (ndC (brN true [] no16)).set 3 (.string (bs n.val)) = ndC (brN true n.val no16) from rfl, ← List.map_set, List.set_set] at Q9
  have S9 : Step (At g) F6 w ((W7.drew.setCell ⟨g6, D * 20 + 2, none⟩ (.bool true)).setCell ⟨g6, D * 20 + 3, none⟩ (.string (bs n.val))) := ((HS7.out.trans (Step.new (New.drew W7))).trans (Step.setCell (a := ⟨g6, D * 20 + 2, none⟩) _ hF6 _)).trans (Step.setCell (a := ⟨g6, D * 20 + 3, none⟩) _ hF6 _)
  have HS9 : Hid (Step (At g) F6 w _) := S9
  have HF9 : Hid (partD d a n m = d1.set D (brN true n.val no16)) := by
    show _ = _
    unfold partD
    rw [HX.out]
    unfold partN
    rw [HD0.out]
  have HQ9 : Hid (Pl _ F6 55 20 _ _) := Q9
  clear Q9 Q8 S9 QD Q7 HS7 c2 f2 hS hS8 HE7 HE8 R7 B7
  generalize W7.drew.setCell ⟨g6, D * 20 + 2, none⟩ (.bool true) = W8 at c3 f3 HQ9 HS9 ⊢
  go_wp2_with fail
  go_ret
  refine ⟨_, F6, rfl, ?_, HS9.out⟩
  rw [HF9.out]; exact HQ9.out
end Go.Proofs.YtjpjcojabjkaaaaDoor
namespace Go.Proofs.YtjpjcojabjkaaaaDoor
open Go.RowKit
set_option maxRecDepth 20000
set_option linter.unusedVariables false

set_option maxHeartbeats 4000000 in
theorem part_1B {w : World} {g cap : Nat} {d : List Nd} {n : Nd} {D : Nat} (Q : Pl w (At g) 55 20 (.slice (some ⟨g, 0, none⟩) D cap) (d.map ndC)) (hg : g < w.heap.size) (hk : n.kids.length = 16) (hD : d.length = D) (hl : D ≤ 900000) {a : Nat} (hn : d[a]? = some n) {m : Nat} (hm : m ≤ n.path.length) (hp : n.path.length ≤ 4000) (h0 : m ≠ 0)
    {c : UInt8} {r : Bt} (hd : n.path.drop m = c :: r) (hc : c.toNat < 16) (hk2 : n.kind = 2) (hr : r = []) :
    Calls Tryd.prog 42 #[.slice (some ⟨g, 0, none⟩) D cap, .int .i64 (a : Int), .int .i64 (m : Int)] w fun e w' => ∃ v' F', e = .returned v' ∧ Pl w' F' 55 20 v' ((partD d a n m).map ndC) ∧ Step (At g) F' w w' := by
  have ha : a < D := by rw [← hD]; exact (List.getElem?_eq_some_iff.1 hn).1
  have hFg : At g g := rfl
  have hal : (a : Int) < (D : Int) := by omega
  have hal0 : (0 : Int) ≤ (a : Int) := by omega
  have hms : (m : Int) ≤ ((bs n.path).size : Int) := by rw [bs_size]; omega
  have hm0 : (0 : Int) ≤ (m : Int) := by omega
  have hmn : m ≤ (bs n.path).size := by rw [bs_size]; omega
  have e1 : (bs n.path).extract m (bs n.path).size = bs (n.path.drop m) := tail_bs' _ _
  have e2 : (bs n.path).extract 0 m = bs (n.path.take m) := head_bs _ _
  have HN := map_at hn
  have HDl : Hid (d.length = D) := hD
  have H0 : Hid (m ≠ 0) := h0
  have HK : Hid (n.kids.length = 16) := hk
  obtain ⟨up, hup⟩ : ∃ x, bs (n.path.take m) = x := ⟨_, rfl⟩
  obtain ⟨rs, hrs⟩ : ∃ x, bs (n.path.drop m) = x := ⟨_, rfl⟩
  have e3 : up.toList.isEmpty = false := by
    rw [← hup, empty_bs, List.isEmpty_eq_false_iff]
    intro h
    have := congrArg List.length h
    rw [List.length_take, List.length_nil] at this
    omega
  rw [hup] at e2
  rw [hrs] at e1
  have e4 : rs.toList.isEmpty = false := by rw [← hrs, empty_bs, hd]; rfl
  have HD0 : Hid (n.path.drop m = c :: r) := hd
  have hrsz : rs.size = r.length + 1 := by rw [← hrs, bs_size, hd]; rfl
  have HSZ : Hid (rs.size = r.length + 1) := hrsz
  have hrs0 : 0 < rs.size := by omega
  have hrs0i : (0 : Int) < (rs.size : Int) := by omega
  have hix : rs[0]'hrs0 = c := by
    subst hrs
    simp only [hd]; rfl
  have hci : (c.toNat : Int) < 16 := by omega
  have hci0 : (0 : Int) ≤ (c.toNat : Int) := by omega
  have hrs1 : rs.extract 1 rs.size = bs r := by rw [← hrs, tail_bs', hd]; rfl
  have hrs1i : (1 : Int) ≤ (rs.size : Int) := by omega
  have hrs1n : 1 ≤ rs.size := by omega
  have e5 : ((rs.size : Int) == 1) = true := by rw [hrsz, hr]; rfl
  have e6 : (n.kind == 2) = true := by rw [hk2]; rfl
  have HK2 : Hid (n.kind = 2) := hk2
  have HR : Hid (r = []) := hr
  obtain ⟨k0, hk0⟩ : ∃ z, n.kids[0]? = some z := ⟨_, List.getElem?_eq_getElem (by omega)⟩
  have HK0 : Hid (n.kids[0]? = some k0) := hk0
  clear hk2 hr hk0
  clear hrsz hd
  have HUP : Hid (bs (n.path.take m) = up) := hup
  have HRS : Hid (bs (n.path.drop m) = rs) := hrs
  have HQ : Hid (Pl w (At g) 55 20 (.slice (some ⟨g, 0, none⟩) D cap) (d.map ndC)) := Q
  have hnb : w.heap.size ≠ g := by omega
  clear Q hn hD h0 hup hrs hp hm
  go_enter Tryd.func42, Tryd.ntmps42
  go_wp2_with (first
    | refine wpList_load_pl (by rfl) 55 _ (by rfl) (At g) 55 20 g D cap a _ (ndC n) _ HQ.out HN (by rfl) Tryd.underlying55 rfl (ndsz hk) ?_
    | (refine wpList_alloc_at (by rfl) 7 (by rfl) 55 (by rfl) _ _ _ info49 ?_; intro W1 R1 N1)
    | (refine wpList_store_new (by rfl) 55 _ _ (by rfl) w.heap.size (ndA n) (by rfl) (by rfl) 55 _ R1 (ndszA hk) (by rw [ndA_size hk]; rfl) (ndA_all _) ?_; intro W2 R2 B2; have N2 : New w W2 := B2.new N1 (Nat.le_refl _); have y1 := R2.has 1 (v := .string (bs n.path)) rfl))
  have q1 := NewW.cell y1
  have hne := NewW.ne W2
  simp only [Act.put, List.setIfInBounds_toArray, List.set_cons_zero, List.set_cons_succ]
  refine region_new W2 (New.refl W2) (by kernel_rfl) (by kernel_rfl) ?_
  repeat (go_big_quiet_step (fail))
  refine wpQuiet_nil ?_
  rintro W3 ⟨⟨_, k3⟩, rfl⟩
  have N3 : New w W3 := N2.trans k3
  have R3 := R2.after k3
  have Q3 := HQ.out.after N3
  have hnb3 : w.heap.size < W3.heap.size := R3.lt
  obtain ⟨nb, hnbe⟩ : ∃ x, w.heap.size = x := ⟨_, rfl⟩
  rw [hnbe] at R3 hnb hnb3 ⊢
  clear q1 hne y1 R1 N1 B2 R2 k3 N2 HN hms e1 e2 hm0 hmn
  go_upto_region 7 with (first
    | refine wpList_build1 (by rfl) 53 _ (by rfl) _ (by rfl) _ (built47_one _) ?_
    | refine wpList_build3x (by rfl) 55 _ _ _ (by rfl) _ _ _ (by rfl) (by rfl) (by rfl) _ (by rw [← HUP.out]; exact built55_e _ _) ?_
    | (refine wpList_store_pl (by rfl) 55 _ _ (by rfl) (At g) 55 20 g D cap a (d.map ndC) (ndC (extN (n.path.take m) (D : Int))) Q3 (by rw [List.length_map, HDl.out]; exact ha) (by rfl) (by rfl) rfl (by rw [i49]; rfl) (ndC_one _) ?_; intro W4 Q4 B4; rw [← List.map_set] at Q4; have R4 := R3.but B4 hnb; have S4 : Step (At g) (At g) w W4 := (Step.new N3).trans (B4.step hFg); clear Q3 R3)
    | refine wpList_build0 (by rfl) 55 (by rfl) _ built55_0 ?_
    | (refine wpList_build_one (by rfl) 60 _ (by rfl) Tryd.underlying60 _ _ info49 (ndA noNd) (by rfl) rfl (by decide) (by decide) ?_; intro W5 R5 N5; have Q5 := Q4.after N5; have hlen : ((d.set a (extN (n.path.take m) (D : Int))).map ndC).length = D := (by rw [List.length_map, List.length_set]; exact HDl.out))
    | (refine wpList_append_pl Q5 (by rfl) _ _ 60 (by rfl) Tryd.underlying60 _ _ info49 rfl (by decide) _ (ndC noNd) 55 R5 rfl (ndC_one _) (by rw [hlen]; omega) (by decide) (by rfl) (by rfl) ?_; intro g6 c6 W6 Q6 G6; obtain ⟨L1, hL1⟩ : ∃ x, D + 1 = x := ⟨_, rfl⟩; rw [hlen, hL1] at Q6 ⊢; have HL1 : Hid (D + 1 = L1) := hL1; have hDL : D < L1 := (by omega); have hDLi : (D : Int) < (L1 : Int) := (by omega); have hL9 : L1 ≤ 900001 := (by omega); clear hL1 hlen))
  have S6 : Step (At g) (fun b => At g b ∨ W5.heap.size ≤ b) w W6 := ((S4.trans (Step.new N5)).trans (Step.grown G6 (fun k hk => Q5.foot k hk))).wide fun k hk => hk.imp id fun h => Nat.le_trans (S4.trans (Step.new N5)).size h
  have HS6 : Hid (Step (At g) (fun b => At g b ∨ W5.heap.size ≤ b) w W6) := S6
  have R6 : Row W6 nb (ndA n) 55 := (R4.after N5).of (G6.block nb (R4.after N5).lt (fun e => hnb (by injection e)))
  have hF6 : (fun b => At g b ∨ W5.heap.size ≤ b) g6 := Q6.foot g6 rfl
  have hnb6 : nb ≠ g6 := by
    have h5 := (R4.after N5).lt
    rcases hF6 with h | h
    · rw [show g6 = g from h]; exact hnb
    · omega
  have HFN : Hid (∀ b, (fun b => At g b ∨ W5.heap.size ≤ b) b → b ≠ nb) := fun b hb e => by
    have h5 := (R4.after N5).lt
    rcases hb with h | h
    · exact hnb (e.symm.trans h)
    · omega
  obtain ⟨F6, hF6e⟩ : ∃ X, (fun b => At g b ∨ W5.heap.size ≤ b) = X := ⟨_, rfl⟩
  rw [hF6e] at Q6 HS6 hF6 HFN
  have Q6' : Pl W6 F6 55 20 (.slice (some ⟨g6, 0, none⟩) L1 c6) ((d.set a (extN (n.path.take m) (D : Int)) ++ [noNd]).map ndC) := by rw [List.map_append]; exact Q6
  have hdl : (d.set a (extN (n.path.take m) (D : Int)) ++ [noNd]).length = L1 := by rw [List.length_append, List.length_set, HDl.out]; exact HL1.out
  have HX : Hid (partM d a n m = (d.set a (extN (n.path.take m) (D : Int)) ++ [noNd], D)) := by show _ = _; unfold partM; rw [if_neg H0.out, HDl.out]
  generalize d.set a (extN (n.path.take m) (D : Int)) ++ [noNd] = d1 at Q6' hdl HX
  clear Q6 S6 S4 Q5 Q4 R4 B4 R5 N5 G6 hF6e
  go_wp2_with (first
    | refine wpList_build1 (by rfl) 55 _ (by rfl) _ (by rfl) _ built49_br ?_
    | (refine wpList_store_pl (by rfl) 55 _ _ (by rfl) F6 55 20 g6 L1 c6 D (d1.map ndC) (ndC (brN false [] no16)) Q6' (by rw [List.length_map, hdl]; exact hDL) (by rfl) (by rfl) rfl (by rw [i49]; rfl) (ndC_one _) ?_; intro W7 Q7 B7; rw [← List.map_set] at Q7; have R7 := R6.but B7 hnb6; have HS7 : Hid (Step (At g) F6 w W7) := HS6.out.trans (B7.step hF6); have HE7 : (d1.set D (brN false [] no16))[D]? = some (brN false [] no16) := List.getElem?_set_self (by have := hdl; omega); have y0 := R7.has 0 (v := .int .i64 n.kind) rfl; clear HS6 R6))
  have y4 := R7.has 4 (v := .int .i64 k0) (by unfold ndA; rw [List.getElem?_toArray]; exact kids_get (c := 0) HK0.out)
  have hbLn : D < L1 := by first | omega | exact ha
  have q4 := NewW.cell y4
  have hne := NewW.ne W7
  refine region_first 10 1 W7 (New.refl W7) (by kernel_rfl) (by kernel_rfl) ?_
  simp only [List.take_succ_cons, List.take_zero, List.drop_succ_cons, List.drop_zero]
  repeat (go_big_quiet_step (fail))
  refine wpQuiet_nil ?_
  rintro W8 ⟨⟨_, k8⟩, rfl⟩
  clear q4 hne y4
  have QD := Q7.after k8
  obtain ⟨c2, f2⟩ := QD.cellAt (map_at HE7) (kids_get (m := brN false [] no16) (c := c.toNat) (no16_get hc))
  have Q8 := QD.setCell (map_at HE7) (j := 4 + c.toNat) (by omega) (.int .i64 k0)
  rw [br_kids, ← List.map_set, List.set_set] at Q8
  rw [← Nat.add_assoc] at c2 f2 Q8
  have S9 : Step (At g) F6 w (W8.setCell ⟨g6, D * 20 + 4 + c.toNat, none⟩ (.int .i64 k0)) := (HS7.out.trans (Step.new k8)).trans (Step.setCell (a := ⟨g6, D * 20 + 4 + c.toNat, none⟩) _ hF6 _)
  have HS9 : Hid (Step (At g) F6 w _) := S9
  have HF9 : Hid (partD d a n m = d1.set D (brN false [] (no16.set c.toNat k0))) := by
    show _ = _
    unfold partD
    rw [HX.out]
    unfold partN
    rw [HD0.out]
    show (if n.kind = 2 ∧ r = [] then _ else _) = _
    rw [if_pos ⟨HK2.out, HR.out⟩, List.getD_eq_getElem?_getD, HK0.out]; rfl
  have HQ9 : Hid (Pl _ F6 55 20 _ _) := Q8
  clear Q8 S9 QD Q7 HS7 HE7 R7 B7 k8
  go_wp2_with fail
  go_ret
  refine ⟨_, F6, rfl, ?_, HS9.out⟩
  rw [HF9.out]; exact HQ9.out
end Go.Proofs.YtjpjcojabjkaaaaDoor
namespace Go.Proofs.YtjpjcojabjkaaaaDoor
open Go.RowKit
set_option maxRecDepth 20000
set_option linter.unusedVariables false

set_option maxHeartbeats 4000000 in
theorem part_1C {w : World} {g cap : Nat} {d : List Nd} {n : Nd} {D : Nat} (Q : Pl w (At g) 55 20 (.slice (some ⟨g, 0, none⟩) D cap) (d.map ndC)) (hg : g < w.heap.size) (hk : n.kids.length = 16) (hD : d.length = D) (hl : D ≤ 900000) {a : Nat} (hn : d[a]? = some n) {m : Nat} (hm : m ≤ n.path.length) (hp : n.path.length ≤ 4000) (h0 : m ≠ 0)
    {c : UInt8} {r : Bt} (hd : n.path.drop m = c :: r) (hc : c.toNat < 16) (hk2 : n.kind = 2) (hr : r ≠ []) :
    Calls Tryd.prog 42 #[.slice (some ⟨g, 0, none⟩) D cap, .int .i64 (a : Int), .int .i64 (m : Int)] w fun e w' => ∃ v' F', e = .returned v' ∧ Pl w' F' 55 20 v' ((partD d a n m).map ndC) ∧ Step (At g) F' w w' := by
  have ha : a < D := by rw [← hD]; exact (List.getElem?_eq_some_iff.1 hn).1
  have hFg : At g g := rfl
  have hal : (a : Int) < (D : Int) := by omega
  have hal0 : (0 : Int) ≤ (a : Int) := by omega
  have hms : (m : Int) ≤ ((bs n.path).size : Int) := by rw [bs_size]; omega
  have hm0 : (0 : Int) ≤ (m : Int) := by omega
  have hmn : m ≤ (bs n.path).size := by rw [bs_size]; omega
  have e1 : (bs n.path).extract m (bs n.path).size = bs (n.path.drop m) := tail_bs' _ _
  have e2 : (bs n.path).extract 0 m = bs (n.path.take m) := head_bs _ _
  have HN := map_at hn
  have HDl : Hid (d.length = D) := hD
  have H0 : Hid (m ≠ 0) := h0
  have HK : Hid (n.kids.length = 16) := hk
  obtain ⟨up, hup⟩ : ∃ x, bs (n.path.take m) = x := ⟨_, rfl⟩
  obtain ⟨rs, hrs⟩ : ∃ x, bs (n.path.drop m) = x := ⟨_, rfl⟩
  have e3 : up.toList.isEmpty = false := by
    rw [← hup, empty_bs, List.isEmpty_eq_false_iff]
    intro h
    have := congrArg List.length h
    rw [List.length_take, List.length_nil] at this
    omega
  rw [hup] at e2
  rw [hrs] at e1
  have e4 : rs.toList.isEmpty = false := by rw [← hrs, empty_bs, hd]; rfl
  have HD0 : Hid (n.path.drop m = c :: r) := hd
  have hrsz : rs.size = r.length + 1 := by rw [← hrs, bs_size, hd]; rfl
  have HSZ : Hid (rs.size = r.length + 1) := hrsz
  have hrs0 : 0 < rs.size := by omega
  have hrs0i : (0 : Int) < (rs.size : Int) := by omega
  have hix : rs[0]'hrs0 = c := by
    subst hrs
    simp only [hd]; rfl
  have hci : (c.toNat : Int) < 16 := by omega
  have hci0 : (0 : Int) ≤ (c.toNat : Int) := by omega
  have hrs1 : rs.extract 1 rs.size = bs r := by rw [← hrs, tail_bs', hd]; rfl
  have hrs1i : (1 : Int) ≤ (rs.size : Int) := by omega
  have hrs1n : 1 ≤ rs.size := by omega
  have e5 : ((rs.size : Int) == 1) = false := by
    rw [beq_eq_false_iff_ne, hrsz]
    have : r.length ≠ 0 := fun h => hr (List.eq_nil_of_length_eq_zero h)
    omega
  have e6 : (n.kind == 2) = true := by rw [hk2]; rfl
  have HNX : Hid (¬ (n.kind = 2 ∧ r = [])) := fun h => hr h.2
  clear hk2 hr
  clear hrsz hd
  have HUP : Hid (bs (n.path.take m) = up) := hup
  have HRS : Hid (bs (n.path.drop m) = rs) := hrs
  have HQ : Hid (Pl w (At g) 55 20 (.slice (some ⟨g, 0, none⟩) D cap) (d.map ndC)) := Q
  have hnb : w.heap.size ≠ g := by omega
  clear Q hn hD h0 hup hrs hp hm
  go_enter Tryd.func42, Tryd.ntmps42
  go_wp2_with (first
    | refine wpList_load_pl (by rfl) 55 _ (by rfl) (At g) 55 20 g D cap a _ (ndC n) _ HQ.out HN (by rfl) Tryd.underlying55 rfl (ndsz hk) ?_
    | (refine wpList_alloc_at (by rfl) 7 (by rfl) 55 (by rfl) _ _ _ info49 ?_; intro W1 R1 N1)
    | (refine wpList_store_new (by rfl) 55 _ _ (by rfl) w.heap.size (ndA n) (by rfl) (by rfl) 55 _ R1 (ndszA hk) (by rw [ndA_size hk]; rfl) (ndA_all _) ?_; intro W2 R2 B2; have N2 : New w W2 := B2.new N1 (Nat.le_refl _); have y1 := R2.has 1 (v := .string (bs n.path)) rfl))
  have q1 := NewW.cell y1
  have hne := NewW.ne W2
  simp only [Act.put, List.setIfInBounds_toArray, List.set_cons_zero, List.set_cons_succ]
  refine region_new W2 (New.refl W2) (by kernel_rfl) (by kernel_rfl) ?_
  repeat (go_big_quiet_step (fail))
  refine wpQuiet_nil ?_
  rintro W3 ⟨⟨_, k3⟩, rfl⟩
  have N3 : New w W3 := N2.trans k3
  have R3 := R2.after k3
  have Q3 := HQ.out.after N3
  have hnb3 : w.heap.size < W3.heap.size := R3.lt
  obtain ⟨nb, hnbe⟩ : ∃ x, w.heap.size = x := ⟨_, rfl⟩
  rw [hnbe] at R3 hnb hnb3 ⊢
  clear q1 hne y1 R1 N1 B2 R2 k3 N2 HN hms e1 e2 hm0 hmn
  go_upto_region 7 with (first
    | refine wpList_build1 (by rfl) 53 _ (by rfl) _ (by rfl) _ (built47_one _) ?_
    | refine wpList_build3x (by rfl) 55 _ _ _ (by rfl) _ _ _ (by rfl) (by rfl) (by rfl) _ (by rw [← HUP.out]; exact built55_e _ _) ?_
    | (refine wpList_store_pl (by rfl) 55 _ _ (by rfl) (At g) 55 20 g D cap a (d.map ndC) (ndC (extN (n.path.take m) (D : Int))) Q3 (by rw [List.length_map, HDl.out]; exact ha) (by rfl) (by rfl) rfl (by rw [i49]; rfl) (ndC_one _) ?_; intro W4 Q4 B4; rw [← List.map_set] at Q4; have R4 := R3.but B4 hnb; have S4 : Step (At g) (At g) w W4 := (Step.new N3).trans (B4.step hFg); clear Q3 R3)
    | refine wpList_build0 (by rfl) 55 (by rfl) _ built55_0 ?_
    | (refine wpList_build_one (by rfl) 60 _ (by rfl) Tryd.underlying60 _ _ info49 (ndA noNd) (by rfl) rfl (by decide) (by decide) ?_; intro W5 R5 N5; have Q5 := Q4.after N5; have hlen : ((d.set a (extN (n.path.take m) (D : Int))).map ndC).length = D := (by rw [List.length_map, List.length_set]; exact HDl.out))
    | (refine wpList_append_pl Q5 (by rfl) _ _ 60 (by rfl) Tryd.underlying60 _ _ info49 rfl (by decide) _ (ndC noNd) 55 R5 rfl (ndC_one _) (by rw [hlen]; omega) (by decide) (by rfl) (by rfl) ?_; intro g6 c6 W6 Q6 G6; obtain ⟨L1, hL1⟩ : ∃ x, D + 1 = x := ⟨_, rfl⟩; rw [hlen, hL1] at Q6 ⊢; have HL1 : Hid (D + 1 = L1) := hL1; have hDL : D < L1 := (by omega); have hDLi : (D : Int) < (L1 : Int) := (by omega); have hL9 : L1 ≤ 900001 := (by omega); clear hL1 hlen))
  have S6 : Step (At g) (fun b => At g b ∨ W5.heap.size ≤ b) w W6 := ((S4.trans (Step.new N5)).trans (Step.grown G6 (fun k hk => Q5.foot k hk))).wide fun k hk => hk.imp id fun h => Nat.le_trans (S4.trans (Step.new N5)).size h
  have HS6 : Hid (Step (At g) (fun b => At g b ∨ W5.heap.size ≤ b) w W6) := S6
  have R6 : Row W6 nb (ndA n) 55 := (R4.after N5).of (G6.block nb (R4.after N5).lt (fun e => hnb (by injection e)))
  have hF6 : (fun b => At g b ∨ W5.heap.size ≤ b) g6 := Q6.foot g6 rfl
  have hnb6 : nb ≠ g6 := by
    have h5 := (R4.after N5).lt
    rcases hF6 with h | h
    · rw [show g6 = g from h]; exact hnb
    · omega
  have HFN : Hid (∀ b, (fun b => At g b ∨ W5.heap.size ≤ b) b → b ≠ nb) := fun b hb e => by
    have h5 := (R4.after N5).lt
    rcases hb with h | h
    · exact hnb (e.symm.trans h)
    · omega
  obtain ⟨F6, hF6e⟩ : ∃ X, (fun b => At g b ∨ W5.heap.size ≤ b) = X := ⟨_, rfl⟩
  rw [hF6e] at Q6 HS6 hF6 HFN
  have Q6' : Pl W6 F6 55 20 (.slice (some ⟨g6, 0, none⟩) L1 c6) ((d.set a (extN (n.path.take m) (D : Int)) ++ [noNd]).map ndC) := by rw [List.map_append]; exact Q6
  have hdl : (d.set a (extN (n.path.take m) (D : Int)) ++ [noNd]).length = L1 := by rw [List.length_append, List.length_set, HDl.out]; exact HL1.out
  have HX : Hid (partM d a n m = (d.set a (extN (n.path.take m) (D : Int)) ++ [noNd], D)) := by show _ = _; unfold partM; rw [if_neg H0.out, HDl.out]
  generalize d.set a (extN (n.path.take m) (D : Int)) ++ [noNd] = d1 at Q6' hdl HX
  clear Q6 S6 S4 Q5 Q4 R4 B4 R5 N5 G6 hF6e
  go_wp2_with (first
    | refine wpList_build1 (by rfl) 55 _ (by rfl) _ (by rfl) _ built49_br ?_
    | (refine wpList_store_pl (by rfl) 55 _ _ (by rfl) F6 55 20 g6 L1 c6 D (d1.map ndC) (ndC (brN false [] no16)) Q6' (by rw [List.length_map, hdl]; exact hDL) (by rfl) (by rfl) rfl (by rw [i49]; rfl) (ndC_one _) ?_; intro W7 Q7 B7; rw [← List.map_set] at Q7; have R7 := R6.but B7 hnb6; have HS7 : Hid (Step (At g) F6 w W7) := HS6.out.trans (B7.step hF6); have HE7 : (d1.set D (brN false [] no16))[D]? = some (brN false [] no16) := List.getElem?_set_self (by have := hdl; omega); have y0 := R7.has 0 (v := .int .i64 n.kind) rfl; clear HS6 R6))
  have hbLn : D < L1 := by first | omega | exact ha
  have hne := NewW.ne W7
  refine region_first 9 1 W7 (New.refl W7) (by kernel_rfl) (by kernel_rfl) ?_
  simp only [List.take_succ_cons, List.take_zero, List.drop_succ_cons, List.drop_zero]
  repeat (go_big_quiet_step (fail))
  refine wpQuiet_nil ?_
  rintro W8 ⟨⟨_, k8⟩, rfl⟩
  clear hne
  have QD := Q7.after k8
  have R8 := R7.after k8
  obtain ⟨c2, f2⟩ := QD.cellAt (map_at HE7) (kids_get (m := brN false [] no16) (c := c.toNat) (no16_get hc))
  have Q8 := QD.setCell (map_at HE7) (j := 4 + c.toNat) (by omega) (.int .i64 (L1 : Int))
  rw [br_kids, ← List.map_set, List.set_set] at Q8
  rw [← Nat.add_assoc] at c2 f2 Q8
  have S9 : Step (At g) F6 w (W8.setCell ⟨g6, D * 20 + 4 + c.toNat, none⟩ (.int .i64 (L1 : Int))) := (HS7.out.trans (Step.new k8)).trans (Step.setCell (a := ⟨g6, D * 20 + 4 + c.toNat, none⟩) _ hF6 _)
  have HS9 : Hid (Step (At g) F6 w _) := S9
  have HF9 : Hid (partD d a n m = d1.set D (brN false [] (no16.set c.toNat (L1 : Int))) ++ [{n with path := r}]) := by
    show _ = _
    unfold partD
    rw [HX.out]
    unfold partN
    rw [HD0.out]
    show (if n.kind = 2 ∧ r = [] then _ else _) = _
    rw [if_neg HNX.out, hdl]
  have R9 := R8.but (w' := W8.setCell ⟨g6, D * 20 + 4 + c.toNat, none⟩ (.int .i64 (L1 : Int))) (b := g6) ⟨rfl, rfl, rfl, by simp [World.setCell], fun k hk => Below.heap_setCell _ _ _ _ hk⟩ hnb6
  have y1 := R9.has 1 (v := .string (bs n.path)) rfl
  have f1 := R9.frozen 1
  have RA := R9.set 1 (.string (bs r))
  have hRA : (ndA n).setIfInBounds 1 (.string (bs r)) = ndA {n with path := r} := rfl
  rw [hRA] at RA
  have hkr : ({n with path := r} : Nd).kids.length = 16 := HK.out
  have HLN : Hid ((d1.set D (brN false [] (no16.set c.toNat (L1 : Int)))).length = L1) := by
    show _ = _
    rw [List.length_set]; exact hdl
  have HF8 : Hid (partD d a n m = d1.set D (brN false [] (no16.set c.toNat (L1 : Int))) ++ [{n with path := r}]) := HF9
  generalize d1.set D (brN false [] (no16.set c.toNat (L1 : Int))) = d8 at Q8 HF8 HLN HF9
  generalize ({n with path := r} : Nd) = nr at RA hkr HF8 HF9
  have HNW : w.heap.size ≤ nb := Nat.le_of_eq hnbe
  have HSA : Hid (Step (At g) F6 w ((W8.setCell ⟨g6, D * 20 + 4 + c.toNat, none⟩ (.int .i64 (L1 : Int))).setCell ⟨nb, 1, none⟩ (.string (bs r)))) := HS9.out.setNew (a := ⟨nb, 1, none⟩) HNW _
  have QC := Q8.of (w' := (W8.setCell ⟨g6, D * 20 + 4 + c.toNat, none⟩ (.int .i64 (L1 : Int))).setCell ⟨nb, 1, none⟩ (.string (bs r))) (G := F6) (fun b hb _ => Below.heap_setCell _ _ _ _ (HFN.out b hb)) (fun _ h _ => h)
  have HQC : Hid (Pl _ F6 55 20 (.slice (some ⟨g6, 0, none⟩) L1 c6) (d8.map ndC)) := QC
  have HRA : Hid (Row _ nb (ndA nr) 55) := RA
  have hll : (d8.map ndC).length = L1 := by rw [List.length_map]; exact HLN.out
  have hgn : ¬ g6 = nb := fun e => hnb6 e.symm
  clear Q8 S9 QD QC Q7 HS7 HE7 R7 B7 R8 R9 RA hRA HF9 HS9
  go_wp2_with (first
    | refine wpList_load_row (by rfl) 55 _ (by rfl) nb (by rfl) 55 (ndA nr) (0, 0) _ HRA.out Tryd.underlying55 rfl (by rw [ndA_size hkr]; exact i49) ?_
    | (refine wpList_build_one (by rfl) 60 _ (by rfl) Tryd.underlying60 _ _ info49 (ndA nr) (by rfl) (ndA_size hkr) (by decide) (by decide) ?_; intro WB RB NB)
    | (refine wpList_append_pl (HQC.out.after NB) (by rfl) _ _ 60 (by rfl) Tryd.underlying60 _ _ info49 rfl (by decide) _ (ndC nr) 55 RB (ndC_len hkr) (ndC_one _) (by rw [hll]; omega) (by decide) (by rfl) (by rfl) ?_; intro gT cT WT QT GT))
  rw [hll] at QT
  go_ret
  refine ⟨_, _, rfl, by rw [HF8.out, List.map_append]; exact QT, ?_⟩
  exact ((HSA.out.trans (Step.new NB)).trans (Step.grown GT (fun k hk => HQC.out.foot k hk))).wide fun k hk => hk.elim (HSA.out.foot k) fun h => .inr (Nat.le_trans (HSA.out.trans (Step.new NB)).size h)
end Go.Proofs.YtjpjcojabjkaaaaDoor
