/-
  part: a Branch in the Path of a Leaf or an Ext (1D). part, whatever it is; what a round of put's loop does, said of lists. put: a text under halves, into nodes that lie in no order.
-/
import Derived.Test.YtjpjcojabjkaaaaDoorGas
import Derived.Test.YtjpjcojabjkaaaaDoorGat
namespace Go.Proofs.YtjpjcojabjkaaaaDoor
open Go.RowKit
set_option maxRecDepth 20000
set_option linter.unusedVariables false

set_option maxHeartbeats 4000000 in
theorem part_1D {w : World} {g cap : Nat} {d : List Nd} {n : Nd} {D : Nat} (Q : Pl w (At g) 55 20 (.slice (some ⟨g, 0, none⟩) D cap) (d.map ndC)) (hg : g < w.heap.size) (hk : n.kids.length = 16) (hD : d.length = D) (hl : D ≤ 900000) {a : Nat} (hn : d[a]? = some n) {m : Nat} (hm : m ≤ n.path.length) (hp : n.path.length ≤ 4000) (h0 : m ≠ 0)
    {c : UInt8} {r : Bt} (hd : n.path.drop m = c :: r) (hc : c.toNat < 16) (hk2 : n.kind ≠ 2) :
    Calls Tryd.prog 42 #[.slice (some ⟨g, 0, none⟩) D cap, .int .i64 (a : Int), .int .i64 (m : Int)] w fun e w' => ∃ v' F', e = .returned v' ∧ Pl w' F' 55 20 v' ((partD d a n m).map ndC) ∧ Step (At g) F' w w' := by
  have ha : a < D := by rw [← hD]; exact (List.getElem?_eq_some_iff.1 hn).1
  have hFg : At g g := rfl
  have hal : (a : Int) < (D : Int) := by omega
  have hal0 : (0 : Int) ≤ (a : Int) := by omega
  have hms : (m : Int) ≤ ((bs n.path).size : Int) := by rw [bs_size]; omega
  have hm0 : (0 : Int) ≤ (m : Int) := by omega
  have hmn : m ≤ (bs n.path).size := by rw [bs_size]; omega
  have e1 : (bs n.path).extract m (bs n.path).size = bs (n.path.drop m) := tail_bs' _ _
  have e2 : (bs n.path).extract 0 m = bs (n.path.take m) := head_bs _ _
  have HN := map_at hn
  have HDl : Hid (d.length = D) := hD
  have H0 : Hid (m ≠ 0) := h0
  have HK : Hid (n.kids.length = 16) := hk
  obtain ⟨up, hup⟩ : ∃ x, bs (n.path.take m) = x := ⟨_, rfl⟩
  obtain ⟨rs, hrs⟩ : ∃ x, bs (n.path.drop m) = x := ⟨_, rfl⟩
  have e3 : up.toList.isEmpty = false := by
    rw [← hup, empty_bs, List.isEmpty_eq_false_iff]
    intro h
    have := congrArg List.length h
    rw [List.length_take, List.length_nil] at this
    omega
  rw [hup] at e2
  rw [hrs] at e1
  have e4 : rs.toList.isEmpty = false := by rw [← hrs, empty_bs, hd]; rfl
  have HD0 : Hid (n.path.drop m = c :: r) := hd
  have hrsz : rs.size = r.length + 1 := by rw [← hrs, bs_size, hd]; rfl
  have HSZ : Hid (rs.size = r.length + 1) := hrsz
  have hrs0 : 0 < rs.size := by omega
  have hrs0i : (0 : Int) < (rs.size : Int) := by omega
  have hix : rs[0]'hrs0 = c := by
    subst hrs
    simp only [hd]; rfl
  have hci : (c.toNat : Int) < 16 := by omega
  have hci0 : (0 : Int) ≤ (c.toNat : Int) := by omega
  have hrs1 : rs.extract 1 rs.size = bs r := by rw [← hrs, tail_bs', hd]; rfl
  have hrs1i : (1 : Int) ≤ (rs.size : Int) := by omega
  have hrs1n : 1 ≤ rs.size := by omega
  have e6 : (n.kind == 2) = false := by rw [beq_eq_false_iff_ne]; exact hk2
  have HNX : Hid (¬ (n.kind = 2 ∧ r = [])) := fun h => hk2 h.1
  clear hk2
  clear hrsz hd
  have HUP : Hid (bs (n.path.take m) = up) := hup
  have HRS : Hid (bs (n.path.drop m) = rs) := hrs
  have HQ : Hid (Pl w (At g) 55 20 (.slice (some ⟨g, 0, none⟩) D cap) (d.map ndC)) := Q
  have hnb : w.heap.size ≠ g := by omega
  clear Q hn hD h0 hup hrs hp hm
  go_enter Tryd.func42, Tryd.ntmps42
  go_wp2_with (first
    | refine wpList_load_pl (by rfl) 55 _ (by rfl) (At g) 55 20 g D cap a _ (ndC n) _ HQ.out HN (by rfl) Tryd.underlying55 rfl (ndsz hk) ?_
    | (refine wpList_alloc_at (by rfl) 7 (by rfl) 55 (by rfl) _ _ _ info49 ?_; intro W1 R1 N1)
    | (refine wpList_store_new (by rfl) 55 _ _ (by rfl) w.heap.size (ndA n) (by rfl) (by rfl) 55 _ R1 (ndszA hk) (by rw [ndA_size hk]; rfl) (ndA_all _) ?_; intro W2 R2 B2; have N2 : New w W2 := B2.new N1 (Nat.le_refl _); have y1 := R2.has 1 (v := .string (bs n.path)) rfl))
  have q1 := NewW.cell y1
  have hne := NewW.ne W2
  simp only [Act.put, List.setIfInBounds_toArray, List.set_cons_zero, List.set_cons_succ]
  refine region_new W2 (New.refl W2) (by kernel_rfl) (by kernel_rfl) ?_
  repeat (go_big_quiet_step (fail))
  refine wpQuiet_nil ?_
  rintro W3 ⟨⟨_, k3⟩, rfl⟩
  have N3 : New w W3 := N2.trans k3
  have R3 := R2.after k3
  have Q3 := HQ.out.after N3
  have hnb3 : w.heap.size < W3.heap.size := R3.lt
  obtain ⟨nb, hnbe⟩ : ∃ x, w.heap.size = x := ⟨_, rfl⟩
  rw [hnbe] at R3 hnb hnb3 ⊢
  clear q1 hne y1 R1 N1 B2 R2 k3 N2 HN hms e1 e2 hm0 hmn
  go_upto_region 7 with (first
    | refine wpList_build1 (by rfl) 53 _ (by rfl) _ (by rfl) _ (built47_one _) ?_
    | refine wpList_build3x (by rfl) 55 _ _ _ (by rfl) _ _ _ (by rfl) (by rfl) (by rfl) _ (by rw [← HUP.out]; exact built55_e _ _) ?_
    | (refine wpList_store_pl (by rfl) 55 _ _ (by rfl) (At g) 55 20 g D cap a (d.map ndC) (ndC (extN (n.path.take m) (D : Int))) Q3 (by rw [List.length_map, HDl.out]; exact ha) (by rfl) (by rfl) rfl (by rw [i49]; rfl) (ndC_one _) ?_; intro W4 Q4 B4; rw [← List.map_set] at Q4; have R4 := R3.but B4 hnb; have S4 : Step (At g) (At g) w W4 := (Step.new N3).trans (B4.step hFg); clear Q3 R3)
    | refine wpList_build0 (by rfl) 55 (by rfl) _ built55_0 ?_
    | (refine wpList_build_one (by rfl) 60 _ (by rfl) Tryd.underlying60 _ _ info49 (ndA noNd) (by rfl) rfl (by decide) (by decide) ?_; intro W5 R5 N5; have Q5 := Q4.after N5; have hlen : ((d.set a (extN (n.path.take m) (D : Int))).map ndC).length = D := (by rw [List.length_map, List.length_set]; exact HDl.out))
    | (refine wpList_append_pl Q5 (by rfl) _ _ 60 (by rfl) Tryd.underlying60 _ _ info49 rfl (by decide) _ (ndC noNd) 55 R5 rfl (ndC_one _) (by rw [hlen]; omega) (by decide) (by rfl) (by rfl) ?_; intro g6 c6 W6 Q6 G6; obtain ⟨L1, hL1⟩ : ∃ x, D + 1 = x := ⟨_, rfl⟩; rw [hlen, hL1] at Q6 ⊢; have HL1 : Hid (D + 1 = L1) := hL1; have hDL : D < L1 := (by omega); have hDLi : (D : Int) < (L1 : Int) := (by omega); have hL9 : L1 ≤ 900001 := (by omega); clear hL1 hlen))
  have S6 : Step (At g) (fun b => At g b ∨ W5.heap.size ≤ b) w W6 := ((S4.trans (Step.new N5)).trans (Step.grown G6 (fun k hk => Q5.foot k hk))).wide fun k hk => hk.imp id fun h => Nat.le_trans (S4.trans (Step.new N5)).size h
  have HS6 : Hid (Step (At g) (fun b => At g b ∨ W5.heap.size ≤ b) w W6) := S6
  have R6 : Row W6 nb (ndA n) 55 := (R4.after N5).of (G6.block nb (R4.after N5).lt (fun e => hnb (by injection e)))
  have hF6 : (fun b => At g b ∨ W5.heap.size ≤ b) g6 := Q6.foot g6 rfl
  have hnb6 : nb ≠ g6 := by
    have h5 := (R4.after N5).lt
    rcases hF6 with h | h
    · rw [show g6 = g from h]; exact hnb
    · omega
  have HFN : Hid (∀ b, (fun b => At g b ∨ W5.heap.size ≤ b) b → b ≠ nb) := fun b hb e => by
    have h5 := (R4.after N5).lt
    rcases hb with h | h
    · exact hnb (e.symm.trans h)
    · omega
  obtain ⟨F6, hF6e⟩ : ∃ X, (fun b => At g b ∨ W5.heap.size ≤ b) = X := ⟨_, rfl⟩
  rw [hF6e] at Q6 HS6 hF6 HFN
  have Q6' : Pl W6 F6 55 20 (.slice (some ⟨g6, 0, none⟩) L1 c6) ((d.set a (extN (n.path.take m) (D : Int)) ++ [noNd]).map ndC) := by rw [List.map_append]; exact Q6
  have hdl : (d.set a (extN (n.path.take m) (D : Int)) ++ [noNd]).length = L1 := by rw [List.length_append, List.length_set, HDl.out]; exact HL1.out
  have HX : Hid (partM d a n m = (d.set a (extN (n.path.take m) (D : Int)) ++ [noNd], D)) := by show _ = _; unfold partM; rw [if_neg H0.out, HDl.out]
  generalize d.set a (extN (n.path.take m) (D : Int)) ++ [noNd] = d1 at Q6' hdl HX
  clear Q6 S6 S4 Q5 Q4 R4 B4 R5 N5 G6 hF6e
  go_wp2_with (first
    | refine wpList_build1 (by rfl) 55 _ (by rfl) _ (by rfl) _ built49_br ?_
    | (refine wpList_store_pl (by rfl) 55 _ _ (by rfl) F6 55 20 g6 L1 c6 D (d1.map ndC) (ndC (brN false [] no16)) Q6' (by rw [List.length_map, hdl]; exact hDL) (by rfl) (by rfl) rfl (by rw [i49]; rfl) (ndC_one _) ?_; intro W7 Q7 B7; rw [← List.map_set] at Q7; have R7 := R6.but B7 hnb6; have HS7 : Hid (Step (At g) F6 w W7) := HS6.out.trans (B7.step hF6); have HE7 : (d1.set D (brN false [] no16))[D]? = some (brN false [] no16) := List.getElem?_set_self (by have := hdl; omega); have y0 := R7.has 0 (v := .int .i64 n.kind) rfl; clear HS6 R6))
  have hbLn : D < L1 := by first | omega | exact ha
  have hne := NewW.ne W7
  refine region_first 9 1 W7 (New.refl W7) (by kernel_rfl) (by kernel_rfl) ?_
  simp only [List.take_succ_cons, List.take_zero, List.drop_succ_cons, List.drop_zero]
  repeat (go_big_quiet_step (fail))
  refine wpQuiet_nil ?_
  rintro W8 ⟨⟨_, k8⟩, rfl⟩
  clear hne
  have QD := Q7.after k8
  have R8 := R7.after k8
  obtain ⟨c2, f2⟩ := QD.cellAt (map_at HE7) (kids_get (m := brN false [] no16) (c := c.toNat) (no16_get hc))
  have Q8 := QD.setCell (map_at HE7) (j := 4 + c.toNat) (by omega) (.int .i64 (L1 : Int))
  rw [br_kids, ← List.map_set, List.set_set] at Q8
  rw [← Nat.add_assoc] at c2 f2 Q8
  have S9 : Step (At g) F6 w (W8.setCell ⟨g6, D * 20 + 4 + c.toNat, none⟩ (.int .i64 (L1 : Int))) := (HS7.out.trans (Step.new k8)).trans (Step.setCell (a := ⟨g6, D * 20 + 4 + c.toNat, none⟩) _ hF6 _)
  have HS9 : Hid (Step (At g) F6 w _) := S9
  have HF9 : Hid (partD d a n m = d1.set D (brN false [] (no16.set c.toNat (L1 : Int))) ++ [{n with path := r}]) := by
    show _ = _
    unfold partD
    rw [HX.out]
    unfold partN
    rw [HD0.out]
    show (if n.kind = 2 ∧ r = [] then _ else _) = _
    rw [if_neg HNX.out, hdl]
  have R9 := R8.but (w' := W8.setCell ⟨g6, D * 20 + 4 + c.toNat, none⟩ (.int .i64 (L1 : Int))) (b := g6) ⟨rfl, rfl, rfl, by simp [World.setCell], fun k hk => Below.heap_setCell _ _ _ _ hk⟩ hnb6
  have y1 := R9.has 1 (v := .string (bs n.path)) rfl
  have f1 := R9.frozen 1
  have RA := R9.set 1 (.string (bs r))
  have hRA : (ndA n).setIfInBounds 1 (.string (bs r)) = ndA {n with path := r} := rfl
  rw [hRA] at RA
  have hkr : ({n with path := r} : Nd).kids.length = 16 := HK.out
  have HLN : Hid ((d1.set D (brN false [] (no16.set c.toNat (L1 : Int)))).length = L1) := by
    show _ = _
    rw [List.length_set]; exact hdl
  have HF8 : Hid (partD d a n m = d1.set D (brN false [] (no16.set c.toNat (L1 : Int))) ++ [{n with path := r}]) := HF9
  generalize d1.set D (brN false [] (no16.set c.toNat (L1 : Int))) = d8 at Q8 HF8 HLN HF9
  generalize ({n with path := r} : Nd) = nr at RA hkr HF8 HF9
  have HNW : w.heap.size ≤ nb := Nat.le_of_eq hnbe
  have HSA : Hid (Step (At g) F6 w ((W8.setCell ⟨g6, D * 20 + 4 + c.toNat, none⟩ (.int .i64 (L1 : Int))).setCell ⟨nb, 1, none⟩ (.string (bs r)))) := HS9.out.setNew (a := ⟨nb, 1, none⟩) HNW _
  have QC := Q8.of (w' := (W8.setCell ⟨g6, D * 20 + 4 + c.toNat, none⟩ (.int .i64 (L1 : Int))).setCell ⟨nb, 1, none⟩ (.string (bs r))) (G := F6) (fun b hb _ => Below.heap_setCell _ _ _ _ (HFN.out b hb)) (fun _ h _ => h)
  have HQC : Hid (Pl _ F6 55 20 (.slice (some ⟨g6, 0, none⟩) L1 c6) (d8.map ndC)) := QC
  have HRA : Hid (Row _ nb (ndA nr) 55) := RA
  have hll : (d8.map ndC).length = L1 := by rw [List.length_map]; exact HLN.out
  have hgn : ¬ g6 = nb := fun e => hnb6 e.symm
  clear Q8 S9 QD QC Q7 HS7 HE7 R7 B7 R8 R9 RA hRA HF9 HS9
  go_wp2_with (first
    | refine wpList_load_row (by rfl) 55 _ (by rfl) nb (by rfl) 55 (ndA nr) (0, 0) _ HRA.out Tryd.underlying55 rfl (by rw [ndA_size hkr]; exact i49) ?_
    | (refine wpList_build_one (by rfl) 60 _ (by rfl) Tryd.underlying60 _ _ info49 (ndA nr) (by rfl) (ndA_size hkr) (by decide) (by decide) ?_; intro WB RB NB)
    | (refine wpList_append_pl (HQC.out.after NB) (by rfl) _ _ 60 (by rfl) Tryd.underlying60 _ _ info49 rfl (by decide) _ (ndC nr) 55 RB (ndC_len hkr) (ndC_one _) (by rw [hll]; omega) (by decide) (by rfl) (by rfl) ?_; intro gT cT WT QT GT))
  rw [hll] at QT
  go_ret
  refine ⟨_, _, rfl, by rw [HF8.out, List.map_append]; exact QT, ?_⟩
  exact ((HSA.out.trans (Step.new NB)).trans (Step.grown GT (fun k hk => HQC.out.foot k hk))).wide fun k hk => hk.elim (HSA.out.foot k) fun h => .inr (Nat.le_trans (HSA.out.trans (Step.new NB)).size h)
end Go.Proofs.YtjpjcojabjkaaaaDoor
namespace Go.Proofs.YtjpjcojabjkaaaaDoor
open Go.RowKit
set_option maxRecDepth 20000

theorem part_any {w : World} {F : Nat → Prop} {v : Value} {d : List Nd} {n : Nd} (Q : Pl w F 55 20 v (d.map ndC)) (hk : Nk n) (hl : d.length ≤ 900000) {a : Nat} (hn : d[a]? = some n) {m : Nat} (hm : m ≤ n.path.length) :
    Calls Tryd.prog 42 #[v, .int .i64 (a : Int), .int .i64 (m : Int)] w fun e w' => ∃ v' F', e = .returned v' ∧ Pl w' F' 55 20 v' ((partD d a n m).map ndC) ∧ Step F F' w w' := by
  have ha := (List.getElem?_eq_some_iff.1 hn).1
  obtain ⟨g, cap, rfl, hFg, hg, hcap⟩ := Q.full (by rw [List.length_map]; omega)
  rw [List.length_map] at Q ⊢
  have Q0 := Q.at
  have fin : ∀ e w', (∃ v' F', e = Ending.returned v' ∧ Pl w' F' 55 20 v' ((partD d a n m).map ndC) ∧ Step (At g) F' w w') → ∃ v' F', e = Ending.returned v' ∧ Pl w' F' 55 20 v' ((partD d a n m).map ndC) ∧ Step F F' w w' := by
    rintro e w' ⟨v', F', h1, h2, h3⟩
    exact ⟨v', F', h1, h2, h3.more fun k hk => by rw [show k = g from hk]; exact hFg⟩
  by_cases h0 : m = 0
  · cases hd : n.path.drop m with
    | nil => exact (part_0A Q0 hg hk.1 rfl hl hn hm hk.2.2 h0 hd).mono fin
    | cons c r =>
      have hc := hk.2.1 c (List.mem_of_mem_drop (i := m) (by rw [hd]; simp))
      by_cases h2 : n.kind = 2
      · by_cases hr : r = []
        · exact (part_0B Q0 hg hk.1 rfl hl hn hm hk.2.2 h0 hd hc h2 hr).mono fin
        · exact (part_0C Q0 hg hk.1 rfl hl hn hm hk.2.2 h0 hd hc h2 hr).mono fin
      · exact (part_0D Q0 hg hk.1 rfl hl hn hm hk.2.2 h0 hd hc h2).mono fin
  · cases hd : n.path.drop m with
    | nil => exact (part_1A Q0 hg hk.1 rfl hl hn hm hk.2.2 h0 hd).mono fin
    | cons c r =>
      have hc := hk.2.1 c (List.mem_of_mem_drop (i := m) (by rw [hd]; simp))
      by_cases h2 : n.kind = 2
      · by_cases hr : r = []
        · exact (part_1B Q0 hg hk.1 rfl hl hn hm hk.2.2 h0 hd hc h2 hr).mono fin
        · exact (part_1C Q0 hg hk.1 rfl hl hn hm hk.2.2 h0 hd hc h2 hr).mono fin
      · exact (part_1D Q0 hg hk.1 rfl hl hn hm hk.2.2 h0 hd hc h2).mono fin

theorem partD_len (d : List Nd) (a : Nat) (n : Nd) (m : Nat) : (partD d a n m).length ≤ d.length + 2 := by
  have h1 : (partM d a n m).1.length ≤ d.length + 1 := by
    unfold partM; split
    · exact Nat.le_succ _
    · simp
  unfold partD partN
  generalize partM d a n m = s at h1
  split
  · rw [List.length_set]; omega
  · split
    · rw [List.length_set]; omega
    · rw [List.length_append, List.length_set]; simp; omega
theorem kidD_len (d : List Nd) (a : Nat) (n : Nd) (c : Nat) : (kidD d a n c).length ≤ d.length + 1 := by
  unfold kidD; split
  · omega
  · simp
theorem no16_nk (b : Bool) (v : Bt) (c : Nat) (x : Int) : Nk (brN b v (no16.set c x)) := ⟨by simp [brN, no16], (fun _ h => by cases h), Nat.zero_le _⟩
theorem partD_dk {d : List Nd} (h : Dk d) {a : Nat} {n : Nd} (hn : Nk n) (m : Nat) : Dk (partD d a n m) := by
  have h1 : Dk (partM d a n m).1 := by
    unfold partM; split
    · exact h
    · exact dk_push (dk_set h ⟨by simp [extN, no16], half_take hn.2.1 m, by show (n.path.take m).length ≤ 4000; rw [List.length_take]; have := hn.2.2; omega⟩ a) nk_no
  unfold partD partN
  generalize partM d a n m = s at h1
  split
  · exact dk_set h1 ⟨rfl, (fun _ h => by cases h), Nat.zero_le _⟩ _
  · rename_i c r hd
    have hsub : ∀ x ∈ r, x ∈ n.path := fun x hx => List.mem_of_mem_drop (i := m) (by rw [hd]; simp [hx])
    have hlen : r.length ≤ 4000 := by
      have := congrArg List.length hd
      rw [List.length_drop, List.length_cons] at this
      have := hn.2.2
      omega
    split
    · exact dk_set h1 (no16_nk _ _ _ _) _
    · exact dk_push (dk_set h1 (no16_nk _ _ _ _) _) ⟨hn.1, fun x hx => hn.2.1 x (hsub x hx), hlen⟩
theorem kidD_dk {d : List Nd} (h : Dk d) {a : Nat} {n : Nd} (hn : Nk n) (c : Nat) : Dk (kidD d a n c) := by
  unfold kidD; split
  · exact h
  · exact dk_push (dk_set h (n := {n with kids := n.kids.set c (d.length : Int)}) ⟨by show (n.kids.set c _).length = 16; rw [List.length_set]; exact hn.1, hn.2.1, hn.2.2⟩ a) nk_no
/-- Behind it the Branch has that child. -/
theorem kidD_at {d : List Nd} {a : Nat} {n : Nd} (hd : d[a]? = some n) (hn : n.kids.length = 16) {c : Nat} (hc : c < 16) : ∃ n', (kidD d a n c)[a]? = some n' ∧ n'.kids.length = 16 ∧ n'.kids[c]? = some (kidA d n c) := by
  have ha := (List.getElem?_eq_some_iff.1 hd).1
  unfold kidD kidA
  by_cases h : n.kids.getD c 0 ≠ 0
  · rw [if_pos h, if_pos h]
    refine ⟨n, hd, hn, ?_⟩
    rw [List.getD_eq_getElem?_getD, List.getElem?_eq_getElem (by omega)]; rfl
  · rw [if_neg h, if_neg h]
    refine ⟨{n with kids := n.kids.set c (d.length : Int)}, ?_, by show (n.kids.set c _).length = 16; rw [List.length_set]; exact hn, ?_⟩
    · rw [List.getElem?_append_left (by rw [List.length_set]; exact ha), List.getElem?_set_self ha]
    · show (n.kids.set c (d.length : Int))[c]? = _
      rw [List.getElem?_set_self (by omega)]
/-- What a round does. -/
theorem put_inv {f : Nat} {d : List Nd} {k : Int} {r v : Bt} {dfin : List Nd} (h : putM f d k r v = some dfin) : ∃ f' a n, f = f' + 1 ∧ k = ((a : Nat) : Int) ∧ d[a]? = some n ∧
    ((n = noNd ∧ dfin = d.set a (leafN r v)) ∨ (n ≠ noNd ∧ n = leafN r n.val ∧ dfin = d.set a (leafN r v)) ∨ (n ≠ noNd ∧ n ≠ leafN r n.val ∧
      ((n.kind = 3 ∧ r = [] ∧ dfin = d.set a {n with has := true, val := v}) ∨ (n.kind = 3 ∧ ∃ c r', r = c :: r' ∧ c.toNat < 16 ∧ putM f' (kidD d a n c.toNat) (kidA d n c.toNat) r' v = some dfin) ∨
       (n.kind = 2 ∧ begB n.path r = true ∧ putM f' d (n.kids.getD 0 0) (r.drop n.path.length) v = some dfin) ∨ (n.kind ≠ 3 ∧ ¬ (n.kind = 2 ∧ begB n.path r = true) ∧ putM f' (partD d a n (comN n.path r)) k r v = some dfin)))) := by
  cases f with
  | zero => cases h
  | succ f =>
    unfold putM at h
    split at h
    · cases h
    rename_i hk
    obtain ⟨a, rfl⟩ : ∃ a : Nat, k = (a : Int) := ⟨k.toNat, by omega⟩
    rw [Int.toNat_natCast] at h
    cases hn : d[a]? with
    | none => rw [hn] at h; cases h
    | some n =>
      rw [hn] at h
      refine ⟨f, a, n, rfl, rfl, hn, ?_⟩
      simp only at h
      by_cases h1 : n = noNd
      · rw [if_pos (.inl h1)] at h
        exact .inl ⟨h1, (Option.some.inj h).symm⟩
      by_cases h2 : n = leafN r n.val
      · rw [if_pos (.inr h2)] at h
        exact .inr (.inl ⟨h1, h2, (Option.some.inj h).symm⟩)
      rw [if_neg (fun x => x.elim h1 h2)] at h
      refine .inr (.inr ⟨h1, h2, ?_⟩)
      by_cases h3 : n.kind = 3 ∧ r = []
      · rw [if_pos h3] at h
        exact .inl ⟨h3.1, h3.2, (Option.some.inj h).symm⟩
      rw [if_neg h3] at h
      by_cases h4 : n.kind = 3
      · rw [if_pos h4] at h
        cases r with
        | nil => exact absurd ⟨h4, rfl⟩ h3
        | cons c r =>
          by_cases h5 : 16 ≤ ((c :: r).headD 0).toNat
          · rw [if_pos h5] at h; cases h
          · rw [if_neg h5] at h
            exact .inr (.inl ⟨h4, c, r, rfl, by have : ¬ 16 ≤ c.toNat := h5; omega, h⟩)
      rw [if_neg h4] at h
      by_cases h5 : n.kind = 2 ∧ begB n.path r = true
      · rw [if_pos h5] at h
        exact .inr (.inr (.inl ⟨h5.1, h5.2, h⟩))
      · rw [if_neg h5] at h
        exact .inr (.inr (.inr ⟨h4, h5, h⟩))
/-- The least number of which it holds. -/
noncomputable def leastF (R : Nat → Prop) : Nat := Classical.epsilon fun f => R f ∧ ∀ g, R g → f ≤ g
theorem least_ex {R : Nat → Prop} : ∀ (n : Nat), R n → ∃ f, R f ∧ ∀ g, R g → f ≤ g := by
  intro n
  induction n using Nat.strongRecOn with
  | _ n ih =>
    intro h
    by_cases e : ∃ g, g < n ∧ R g
    · obtain ⟨g, hg, hr⟩ := e
      exact ih g hg hr
    · exact ⟨n, h, fun g hg => Nat.le_of_not_lt fun hlt => e ⟨g, hlt, hg⟩⟩
theorem leastF_spec {R : Nat → Prop} (h : ∃ f, R f) : R (leastF R) := by
  obtain ⟨n, hn⟩ := h
  exact (Classical.epsilon_spec (least_ex n hn)).1
theorem leastF_le {R : Nat → Prop} {f : Nat} (h : R f) : leastF R ≤ f := (Classical.epsilon_spec (p := fun f => R f ∧ ∀ g, R g → f ≤ g) (least_ex f h)).2 f h
/-- What is known at a round's beginning. -/
def PutR (w : World) (F : Nat → Prop) (v : Bt) (dfin : List Nd) (B f : Nat) (s0 s1 s7 : Value) (wr : World) : Prop := ∃ (F' : Nat → Prop) (d : List Nd) (k : Int) (r : Bt), s7 = .int .i64 k ∧ s1 = .string (bs r) ∧ Pl wr F' 55 20 s0 (d.map ndC) ∧ Dk d ∧
  d.length + 2 * f ≤ B ∧ putM f d k r v = some dfin ∧ Half r ∧ r.length ≤ 16 ∧ Step F F' w wr
end Go.Proofs.YtjpjcojabjkaaaaDoor
namespace Go.Proofs.YtjpjcojabjkaaaaDoor
open Go.RowKit
set_option maxRecDepth 20000
set_option linter.unusedVariables false

theorem eq_no {n : Nd} (h : n.kids.length = 16) (w : World) : (Op.equalIn 10000 55 (.agg (ndC n).toArray) (.agg #[.int .i64 0, .string ⟨#[]⟩, .bool false, .string ⟨#[]⟩, .int .i64 0, .int .i64 0, .int .i64 0, .int .i64 0, .int .i64 0, .int .i64 0, .int .i64 0, .int .i64 0, .int .i64 0, .int .i64 0, .int .i64 0, .int .i64 0, .int .i64 0, .int .i64 0, .int .i64 0, .int .i64 0])).run Tryd.prog w = .ok (eqNd n noNd) w := eq_nodes n noNd h rfl w
theorem eq_leaf {n : Nd} (h : n.kids.length = 16) (r v : Bt) (w : World) : (Op.equalIn 10000 55 (.agg (ndC n).toArray) (.agg (ndA (leafN r v)))).run Tryd.prog w = .ok (eqNd n (leafN r v)) w := eq_nodes n (leafN r v) h rfl w
theorem eqNd_no {m n : Nd} (h : m ≠ n) : eqNd m n = false := by rw [Bool.eq_false_iff]; exact fun e => h ((eqNd_iff _ _).1 e)
set_option maxHeartbeats 16000000 in
theorem put_any {w : World} {F : Nat → Prop} {v0 : Value} {d0 dfin : List Nd} {r0 v : Bt} (Q : Pl w F 55 20 v0 (d0.map ndC)) (K : Dk d0) (hl : d0.length ≤ 800000) {f0 : Nat} (hf : f0 ≤ 40) (hr : Half r0) (hrl : r0.length ≤ 16) (hp : putM f0 d0 0 r0 v = some dfin) :
    Calls Tryd.prog 26 #[v0, .string (bs r0), .string (bs v)] w fun e w' => ∃ v' F', e = .returned v' ∧ Pl w' F' 55 20 v' (dfin.map ndC) ∧ Dk dfin ∧ dfin.length ≤ d0.length + 80 ∧ Step F F' w w' := by
  have hR : PutR w F v dfin (d0.length + 80) f0 v0 (.string (bs r0)) (.int .i64 0) w := ⟨F, d0, 0, r0, rfl, rfl, Q, K, by omega, hp, hr, hrl, Step.refl F w⟩
  have HR : Hid (PutR w F v dfin (d0.length + 80) f0 v0 (.string (bs r0)) (.int .i64 0) w) := hR
  obtain ⟨B, hB⟩ : ∃ x, d0.length + 80 = x := ⟨_, rfl⟩
  rw [hB] at HR ⊢
  have hB9 : B ≤ 800080 := by omega
  obtain ⟨a0, c0, hv0, hc0⟩ := Q.form
  clear Q K hf hr hrl hp hR hB hl hv0 hc0
  go_enter Tryd.func26, Tryd.ntmps26
  go_wp2_with fail
  go_loopw [0, 1, 7] (fun s0 s1 s7 wr => ∃ f, PutR w F v dfin B f s0 s1 s7 wr) (fun s0 s1 s7 wr => leastF fun f => PutR w F v dfin B f s0 s1 s7 wr)
  case atStart => exact ⟨f0, HR.out⟩
  case round =>
    clear HR
    have hmin := leastF_spec hrel
    obtain ⟨f, hf⟩ : ∃ f, (leastF fun f => PutR w F v dfin B f u0 u1 u7 wr) = f := ⟨_, rfl⟩
    rw [hf] at hmin
    have HM : Hid ((leastF fun f => PutR w F v dfin B f u0 u1 u7 wr) = f) := hf
    clear hf hrel
    obtain ⟨F', d, k, r, rfl, rfl, hq, hdk, hlen, hput, hhalf, hrl, hst⟩ := hmin
    obtain ⟨f, a, n, rfl, rfl, hn, hways⟩ := put_inv hput
    have ha := (List.getElem?_eq_some_iff.1 hn).1
    obtain ⟨g, cap, rfl, hFg, hg, hcap⟩ := hq.full (by rw [List.length_map]; omega)
    rw [List.length_map] at hcap hq HM ⊢
    have hN : Nk n := hdk n (List.mem_of_getElem? hn)
    have hk := hN.1
    obtain ⟨D, hD⟩ : ∃ x, d.length = x := ⟨_, rfl⟩
    rw [hD] at hcap hq HM ha hlen ⊢
    have HD : Hid (d.length = D) := hD
    have hal : (a : Int) < (D : Int) := by omega
    have HN := map_at hn
    have HNN : Hid (d[a]? = some n) := hn
    have HDK : Hid (Dk d) := hdk
    have HQ : Hid (Pl wr F' 55 20 (.slice (some ⟨g, 0, none⟩) D cap) (d.map ndC)) := hq
    have HST : Hid (Step F F' w wr) := hst
    have HHF : Hid (Half r) := hhalf
    have HLN : Hid (D + 2 * (f + 1) ≤ B) := hlen
    have hlf := fun W => leaf_any r n.val W
    have hlv := fun W => leaf_any r v W
    have hq0 := fun W => eq_no hk W
    have hql := fun W => eq_leaf hk r n.val W
    have hrs := bs_size r
    have HRL : Hid (r.length ≤ 16) := hrl
    have hDB : D ≤ 800080 := by omega
    clear hput hq hdk hst hhalf hlen hn hD hrl hrs
    rcases hways with ⟨he, hdf⟩ | ⟨h1, he, hdf⟩ | ⟨h1, h2, hrest⟩
    · have eb : eqNd n noNd = true := (eqNd_iff _ _).2 he
      rw [eb] at hq0
      clear eb he
      go_wp2_with (first
        | refine wpList_load_pl (by rfl) 55 _ (by rfl) F' 55 20 g D cap a _ (ndC n) _ HQ.out HN (by rfl) Tryd.underlying55 rfl (ndsz hk) ?_
        | (refine wpList_alloc_at (by rfl) 8 (by rfl) 55 (by rfl) _ _ _ info49 ?_; intro W1 R1 N1)
        | (refine wpList_store_new (by rfl) 55 _ _ (by rfl) wr.heap.size (ndA n) (by rfl) (by rfl) 55 _ R1 (ndszA hk) (by rw [ndA_size hk]; rfl) (ndA_all _) ?_; intro W2 R2 B2; have N2 : New wr W2 := B2.new N1 (Nat.le_refl _)))
      have rg := R2.range 0 20
      rw [show ((ndA n).toList.drop 0).take 20 = ndC n by unfold ndA; rw [List.drop_zero, List.take_of_length_le (by rw [ndC_len hk]; exact Nat.le_refl _)]] at rg
      have q1 : ∀ p : NewW W2, p.v.rangeAt wr.heap.size 0 (ndC n) := fun p i u hi => (p.h.cell R2.lt).trans (rg i u hi)
      have q3 := NewW.cell (R2.has 3 (v := .string (bs n.val)) rfl)
      have hne := NewW.ne W2
      try simp only [Act.put, List.setIfInBounds_toArray, List.set_cons_zero, List.set_cons_succ]
      refine region_new W2 (New.refl W2) (by kernel_rfl) (by kernel_rfl) ?_
      refine wpQuiet_load_mid (by rfl) 55 _ (by rfl) wr.heap.size 0 (by rfl) (ndC n) q1 _ Tryd.underlying55 rfl (ndsz hk) ?_
      simp only [Act.put, List.setIfInBounds_toArray, List.set_cons_zero, List.set_cons_succ]
      iterate 3 (go_big_quiet_step (fail))
      repeat (go_big_quiet_step (first | (go_at_call 39; exact Calls.neww (hlf _))))
      refine wpQuiet_nil ?_
      rintro W3 ⟨⟨_, k3⟩, rfl⟩
      have N3 : New wr W3 := N2.trans k3
      have R3 := R2.after k3
      have Q3 := HQ.out.after N3
      have S3 : Step F F' w W3 := HST.out.trans (Step.new N3)
      have hnb3 : wr.heap.size < W3.heap.size := R3.lt
      have hnb : wr.heap.size ≠ g := by omega
      obtain ⟨nb, hnbe⟩ : ∃ x, wr.heap.size = x := ⟨_, rfl⟩
      rw [hnbe] at R3 hnb hnb3 ⊢
      have hnw : w.heap.size ≤ nb := by have := HST.out.size; omega
      clear rg q1 q3 hne R1 N1 B2 R2 k3 N2 N3 HN hq0 hql
      have HQR : Hid (Pl W3 F' 55 20 (.slice (some ⟨g, 0, none⟩) D cap) (d.map ndC)) := Q3
      have HSR : Hid (Step F F' w W3) := S3
      have HDF : Hid (dfin = d.set a (leafN r v)) := hdf
      clear Q3 S3 hdf R3
      go_wp2_with (first
        | (go_at_call 39; refine (hlv _).mono ?_; rintro _ W4 ⟨rfl, N4⟩; have Q4 := HQR.out.after N4)
        | (refine wpList_store_pl (by rfl) 55 _ _ (by rfl) F' 55 20 g D cap a (d.map ndC) (ndC (leafN r v)) Q4 (by rw [List.length_map, HD.out]; exact ha) (by rfl) (by rfl) rfl (by rw [i49]; rfl) (ndC_one _) ?_; intro W5 Q5 B5; rw [← List.map_set] at Q5))
      go_ret
      refine ⟨_, F', rfl, by rw [HDF.out]; exact Q5, ?_, ?_, (HSR.out.trans (Step.new N4)).trans (B5.step hFg)⟩
      · rw [HDF.out]
        refine dk_set HDK.out ⟨rfl, HHF.out, ?_⟩ a
        show r.length ≤ 4000
        have := HRL.out; omega
      · rw [HDF.out, List.length_set, HD.out]
        have := HLN.out; omega
    · have eb : eqNd n noNd = false := eqNd_no h1
      have eb2 : eqNd n (leafN r n.val) = true := (eqNd_iff _ _).2 he
      rw [eb] at hq0
      rw [eb2] at hql
      clear eb eb2 he h1
      go_wp2_with (first
        | refine wpList_load_pl (by rfl) 55 _ (by rfl) F' 55 20 g D cap a _ (ndC n) _ HQ.out HN (by rfl) Tryd.underlying55 rfl (ndsz hk) ?_
        | (refine wpList_alloc_at (by rfl) 8 (by rfl) 55 (by rfl) _ _ _ info49 ?_; intro W1 R1 N1)
        | (refine wpList_store_new (by rfl) 55 _ _ (by rfl) wr.heap.size (ndA n) (by rfl) (by rfl) 55 _ R1 (ndszA hk) (by rw [ndA_size hk]; rfl) (ndA_all _) ?_; intro W2 R2 B2; have N2 : New wr W2 := B2.new N1 (Nat.le_refl _)))
      have rg := R2.range 0 20
      rw [show ((ndA n).toList.drop 0).take 20 = ndC n by unfold ndA; rw [List.drop_zero, List.take_of_length_le (by rw [ndC_len hk]; exact Nat.le_refl _)]] at rg
      have q1 : ∀ p : NewW W2, p.v.rangeAt wr.heap.size 0 (ndC n) := fun p i u hi => (p.h.cell R2.lt).trans (rg i u hi)
      have q3 := NewW.cell (R2.has 3 (v := .string (bs n.val)) rfl)
      have hne := NewW.ne W2
      try simp only [Act.put, List.setIfInBounds_toArray, List.set_cons_zero, List.set_cons_succ]
      refine region_new W2 (New.refl W2) (by kernel_rfl) (by kernel_rfl) ?_
      refine wpQuiet_load_mid (by rfl) 55 _ (by rfl) wr.heap.size 0 (by rfl) (ndC n) q1 _ Tryd.underlying55 rfl (ndsz hk) ?_
      simp only [Act.put, List.setIfInBounds_toArray, List.set_cons_zero, List.set_cons_succ]
      iterate 3 (go_big_quiet_step (fail))
      refine wpQuiet_load_mid (by rfl) 55 _ (by rfl) wr.heap.size 0 (by rfl) (ndC n) q1 _ Tryd.underlying55 rfl (ndsz hk) ?_
      simp only [Act.put, List.setIfInBounds_toArray, List.set_cons_zero, List.set_cons_succ]
      repeat (go_big_quiet_step (first | (go_at_call 39; exact Calls.neww (hlf _))))
      refine wpQuiet_nil ?_
      rintro W3 ⟨⟨_, k3⟩, rfl⟩
      have N3 : New wr W3 := N2.trans k3
      have R3 := R2.after k3
      have Q3 := HQ.out.after N3
      have S3 : Step F F' w W3 := HST.out.trans (Step.new N3)
      have hnb3 : wr.heap.size < W3.heap.size := R3.lt
      have hnb : wr.heap.size ≠ g := by omega
      obtain ⟨nb, hnbe⟩ : ∃ x, wr.heap.size = x := ⟨_, rfl⟩
      rw [hnbe] at R3 hnb hnb3 ⊢
      have hnw : w.heap.size ≤ nb := by have := HST.out.size; omega
      clear rg q1 q3 hne R1 N1 B2 R2 k3 N2 N3 HN hq0 hql
      have HQR : Hid (Pl W3 F' 55 20 (.slice (some ⟨g, 0, none⟩) D cap) (d.map ndC)) := Q3
      have HSR : Hid (Step F F' w W3) := S3
      have HDF : Hid (dfin = d.set a (leafN r v)) := hdf
      clear Q3 S3 hdf R3
      go_wp2_with (first
        | (go_at_call 39; refine (hlv _).mono ?_; rintro _ W4 ⟨rfl, N4⟩; have Q4 := HQR.out.after N4)
        | (refine wpList_store_pl (by rfl) 55 _ _ (by rfl) F' 55 20 g D cap a (d.map ndC) (ndC (leafN r v)) Q4 (by rw [List.length_map, HD.out]; exact ha) (by rfl) (by rfl) rfl (by rw [i49]; rfl) (ndC_one _) ?_; intro W5 Q5 B5; rw [← List.map_set] at Q5))
      go_ret
      refine ⟨_, F', rfl, by rw [HDF.out]; exact Q5, ?_, ?_, (HSR.out.trans (Step.new N4)).trans (B5.step hFg)⟩
      · rw [HDF.out]
        refine dk_set HDK.out ⟨rfl, HHF.out, ?_⟩ a
        show r.length ≤ 4000
        have := HRL.out; omega
      · rw [HDF.out, List.length_set, HD.out]
        have := HLN.out; omega
    · have eb : eqNd n noNd = false := eqNd_no h1
      have eb2 : eqNd n (leafN r n.val) = false := eqNd_no h2
      rw [eb] at hq0
      rw [eb2] at hql
      clear eb eb2 h1 h2
      rcases hrest with ⟨hk3, hr0, hdf⟩ | ⟨hk3, c, r', hr0, hc, hput⟩ | ⟨hk2, hb, hput⟩ | ⟨hk3, hk2, hput⟩
      · have hk3b : (n.kind == 3) = true := by rw [hk3]; rfl
        subst hr0
        have hre : (bs ([] : Bt)).toList.isEmpty = true := by rw [empty_bs]; rfl
        clear hk3
        go_wp2_with (first
          | refine wpList_load_pl (by rfl) 55 _ (by rfl) F' 55 20 g D cap a _ (ndC n) _ HQ.out HN (by rfl) Tryd.underlying55 rfl (ndsz hk) ?_
          | (refine wpList_alloc_at (by rfl) 8 (by rfl) 55 (by rfl) _ _ _ info49 ?_; intro W1 R1 N1)
          | (refine wpList_store_new (by rfl) 55 _ _ (by rfl) wr.heap.size (ndA n) (by rfl) (by rfl) 55 _ R1 (ndszA hk) (by rw [ndA_size hk]; rfl) (ndA_all _) ?_; intro W2 R2 B2; have N2 : New wr W2 := B2.new N1 (Nat.le_refl _)))
        have rg := R2.range 0 20
        rw [show ((ndA n).toList.drop 0).take 20 = ndC n by unfold ndA; rw [List.drop_zero, List.take_of_length_le (by rw [ndC_len hk]; exact Nat.le_refl _)]] at rg
        have q1 : ∀ p : NewW W2, p.v.rangeAt wr.heap.size 0 (ndC n) := fun p i u hi => (p.h.cell R2.lt).trans (rg i u hi)
        have q3 := NewW.cell (R2.has 3 (v := .string (bs n.val)) rfl)
        have hne := NewW.ne W2
        try simp only [Act.put, List.setIfInBounds_toArray, List.set_cons_zero, List.set_cons_succ]
        refine region_new W2 (New.refl W2) (by kernel_rfl) (by kernel_rfl) ?_
        refine wpQuiet_load_mid (by rfl) 55 _ (by rfl) wr.heap.size 0 (by rfl) (ndC n) q1 _ Tryd.underlying55 rfl (ndsz hk) ?_
        simp only [Act.put, List.setIfInBounds_toArray, List.set_cons_zero, List.set_cons_succ]
        iterate 3 (go_big_quiet_step (fail))
        refine wpQuiet_load_mid (by rfl) 55 _ (by rfl) wr.heap.size 0 (by rfl) (ndC n) q1 _ Tryd.underlying55 rfl (ndsz hk) ?_
        simp only [Act.put, List.setIfInBounds_toArray, List.set_cons_zero, List.set_cons_succ]
        repeat (go_big_quiet_step (first | (go_at_call 39; exact Calls.neww (hlf _))))
        refine wpQuiet_nil ?_
        rintro W3 ⟨⟨_, k3⟩, rfl⟩
        have N3 : New wr W3 := N2.trans k3
        have R3 := R2.after k3
        have Q3 := HQ.out.after N3
        have S3 : Step F F' w W3 := HST.out.trans (Step.new N3)
        have hnb3 : wr.heap.size < W3.heap.size := R3.lt
        have hnb : wr.heap.size ≠ g := by omega
        obtain ⟨nb, hnbe⟩ : ∃ x, wr.heap.size = x := ⟨_, rfl⟩
        rw [hnbe] at R3 hnb hnb3 ⊢
        have hnw : w.heap.size ≤ nb := by have := HST.out.size; omega
        clear rg q1 q3 hne R1 N1 B2 R2 k3 N2 N3 HN hq0 hql
        have y0 := R3.has 0 (v := .int .i64 n.kind) rfl
        obtain ⟨c2, f2⟩ := Q3.cellAt (map_at HNN.out) (j := 2) (u := .bool n.has) rfl
        obtain ⟨c3, f3⟩ := Q3.cellAt (map_at HNN.out) (j := 3) (u := .string (bs n.val)) rfl
        have Q8 := Q3.setCell (map_at HNN.out) (j := 2) (by decide) (.bool true)
        have HE8 : (d.set a {n with has := true})[a]? = some {n with has := true} := List.getElem?_set_self (by rw [HD.out]; exact ha)
        rw [show (ndC n).set 2 (.bool true) = ndC {n with has := true} from rfl, ← List.map_set] at Q8
        have Q9 := Q8.setCell (map_at HE8) (j := 3) (by decide) (.string (bs v))
        rw [show (ndC {n with has := true}).set 3 (.string (bs v)) = ndC {n with has := true, val := v} from rfl, ← List.map_set, List.set_set] at Q9
        have S9 : Step F F' w ((W3.setCell ⟨g, a * 20 + 2, none⟩ (.bool true)).setCell ⟨g, a * 20 + 3, none⟩ (.string (bs v))) := (S3.trans (Step.setCell (a := ⟨g, a * 20 + 2, none⟩) _ hFg _)).trans (Step.setCell (a := ⟨g, a * 20 + 3, none⟩) _ hFg _)
        have HQ9 : Hid (Pl _ F' 55 20 _ _) := Q9
        have HS9 : Hid (Step F F' w _) := S9
        have HDF : Hid (dfin = d.set a {n with has := true, val := v}) := hdf
        clear Q9 Q8 S9 S3 Q3 HE8 hdf R3
        go_wp2_with fail
        go_ret
        refine ⟨_, F', rfl, by rw [HDF.out]; exact HQ9.out, ?_, ?_, HS9.out⟩
        · rw [HDF.out]
          exact dk_set HDK.out (n := {n with has := true, val := v}) ⟨hN.1, hN.2.1, hN.2.2⟩ a
        · rw [HDF.out, List.length_set, HD.out]
          have := HLN.out; omega
      · have hk3b : (n.kind == 3) = true := by rw [hk3]; rfl
        subst hr0
        have hre : (bs (c :: r')).toList.isEmpty = false := by rw [empty_bs]; rfl
        have hsz : (0 : Int) < ((bs (c :: r')).size : Int) := by rw [bs_size, List.length_cons]; omega
        have hsz' : 0 < (bs (c :: r')).size := by rw [bs_size]; simp
        have hix : (bs (c :: r'))[0]'hsz' = c := rfl
        have hs1 : 1 ≤ (bs (c :: r')).size := hsz'
        have hs1i : (1 : Int) ≤ ((bs (c :: r')).size : Int) := by omega
        have hcut : (bs (c :: r')).extract 1 (bs (c :: r')).size = bs r' := by rw [tail_bs']; rfl
        have hcL : (bs (c :: r')).size = r'.length + 1 := by rw [bs_size]; rfl
        have HCL : Hid ((bs (c :: r')).size = r'.length + 1) := hcL
        have HPUT : Hid (putM f (kidD d a n c.toNat) (kidA d n c.toNat) r' v = some dfin) := hput
        have HHF2 : Hid (Half r') := fun x hx => HHF.out x (by simp [hx])
        have HRL2 : Hid (r'.length ≤ 16) := by have := HRL.out; simp at this; show r'.length ≤ 16; omega
        obtain ⟨rs, hrse⟩ : ∃ x, bs (c :: r') = x := ⟨_, rfl⟩
        simp only [hrse] at hre hsz hsz' hix hs1 hs1i hcut hcL HCL
        rw [hrse] at HM hlf ⊢
        clear hk3 hput hcL
        go_wp2_with (first
          | refine wpList_load_pl (by rfl) 55 _ (by rfl) F' 55 20 g D cap a _ (ndC n) _ HQ.out HN (by rfl) Tryd.underlying55 rfl (ndsz hk) ?_
          | (refine wpList_alloc_at (by rfl) 8 (by rfl) 55 (by rfl) _ _ _ info49 ?_; intro W1 R1 N1)
          | (refine wpList_store_new (by rfl) 55 _ _ (by rfl) wr.heap.size (ndA n) (by rfl) (by rfl) 55 _ R1 (ndszA hk) (by rw [ndA_size hk]; rfl) (ndA_all _) ?_; intro W2 R2 B2; have N2 : New wr W2 := B2.new N1 (Nat.le_refl _)))
        have rg := R2.range 0 20
        rw [show ((ndA n).toList.drop 0).take 20 = ndC n by unfold ndA; rw [List.drop_zero, List.take_of_length_le (by rw [ndC_len hk]; exact Nat.le_refl _)]] at rg
        have q1 : ∀ p : NewW W2, p.v.rangeAt wr.heap.size 0 (ndC n) := fun p i u hi => (p.h.cell R2.lt).trans (rg i u hi)
        have q3 := NewW.cell (R2.has 3 (v := .string (bs n.val)) rfl)
        have hne := NewW.ne W2
        try simp only [Act.put, List.setIfInBounds_toArray, List.set_cons_zero, List.set_cons_succ]
        refine region_new W2 (New.refl W2) (by kernel_rfl) (by kernel_rfl) ?_
        refine wpQuiet_load_mid (by rfl) 55 _ (by rfl) wr.heap.size 0 (by rfl) (ndC n) q1 _ Tryd.underlying55 rfl (ndsz hk) ?_
        simp only [Act.put, List.setIfInBounds_toArray, List.set_cons_zero, List.set_cons_succ]
        iterate 3 (go_big_quiet_step (fail))
        refine wpQuiet_load_mid (by rfl) 55 _ (by rfl) wr.heap.size 0 (by rfl) (ndC n) q1 _ Tryd.underlying55 rfl (ndsz hk) ?_
        simp only [Act.put, List.setIfInBounds_toArray, List.set_cons_zero, List.set_cons_succ]
        repeat (go_big_quiet_step (first | (go_at_call 39; exact Calls.neww (hlf _))))
        refine wpQuiet_nil ?_
        rintro W3 ⟨⟨_, k3⟩, rfl⟩
        have N3 : New wr W3 := N2.trans k3
        have R3 := R2.after k3
        have Q3 := HQ.out.after N3
        have S3 : Step F F' w W3 := HST.out.trans (Step.new N3)
        have hnb3 : wr.heap.size < W3.heap.size := R3.lt
        have hnb : wr.heap.size ≠ g := by omega
        obtain ⟨nb, hnbe⟩ : ∃ x, wr.heap.size = x := ⟨_, rfl⟩
        rw [hnbe] at R3 hnb hnb3 ⊢
        have hnw : w.heap.size ≤ nb := by have := HST.out.size; omega
        clear rg q1 q3 hne R1 N1 B2 R2 k3 N2 N3 HN hq0 hql
        have y0 := R3.has 0 (v := .int .i64 n.kind) rfl
        have hkc := kid_any Q3 HDK.out (by rw [HD.out]; omega) HNN.out hc
        obtain ⟨n', g1, g2, g3⟩ := kidD_at HNN.out hk hc
        have hkl := kidD_len d a n c.toNat
        have hkdk := kidD_dk HDK.out hN c.toNat (a := a)
        have HS3 : Hid (Step F F' w W3) := S3
        have HKDK : Hid (Dk (kidD d a n c.toNat)) := hkdk
        obtain ⟨kd, hkd⟩ : ∃ x, kidD d a n c.toNat = x := ⟨_, rfl⟩
        obtain ⟨ka, hka⟩ : ∃ x, kidA d n c.toNat = x := ⟨_, rfl⟩
        rw [hkd] at hkc g1 hkl HKDK HPUT
        rw [hka] at g3 HPUT
        have HG1 : Hid (kd[a]? = some n') := g1
        have HG3 : Hid (n'.kids[c.toNat]? = some ka) := g3
        have HKL : Hid (kd.length ≤ d.length + 1) := hkl
        have hci : (c.toNat : Int) < 16 := by omega
        clear S3 R3 g1 g3 hkl hkdk hkd hka Q3
        go_wp2_with (go_at_call 40; refine Calls.mono hkc ?_; rintro _ W4 ⟨v4, F4, rfl, Q4, S4⟩; clear hkc)
        obtain ⟨g4, cap4, rfl, hF4, hg4, hcap4⟩ := Q4.full (by rw [List.length_map]; have := (List.getElem?_eq_some_iff.1 HG1.out).1; omega)
        rw [List.length_map] at Q4 hcap4 ⊢
        have ha4 : a < kd.length := (List.getElem?_eq_some_iff.1 HG1.out).1
        have HKL2 : Hid (kd.length ≤ D + 1) := by have := HKL.out; rw [HD.out] at this; exact this
        obtain ⟨L4, hL4⟩ : ∃ x, kd.length = x := ⟨_, rfl⟩
        have HL4 : Hid (kd.length = L4) := hL4
        rw [hL4] at Q4 hcap4 ha4 HKL2 ⊢
        have ha4i : (a : Int) < (L4 : Int) := by omega
        obtain ⟨c4, f4⟩ := Q4.cellAt (map_at HG1.out) (kids_get HG3.out)
        rw [← Nat.add_assoc] at c4
        have q4 := NewW.cell c4
        have hne := NewW.ne W4
        have HQ4 : Hid (Pl W4 F4 55 20 (.slice (some ⟨g4, 0, none⟩) L4 cap4) (kd.map ndC)) := Q4
        have HS4 : Hid (Step F F4 w W4) := HS3.out.trans S4
        clear Q4 S4 HS3 hL4 c4 f4
        go_wp2_with fail
        try simp only [Act.put, List.setIfInBounds_toArray, List.set_cons_zero, List.set_cons_succ]
        refine region_new W4 (New.refl W4) (by kernel_rfl) (by kernel_rfl) ?_
        repeat (go_big_quiet_step (fail))
        refine wpQuiet_nil ?_
        rintro W5 ⟨⟨_, k5⟩, rfl⟩
        have HQ5 : Hid (Pl _ F4 55 20 (.slice (some ⟨g4, 0, none⟩) L4 cap4) (kd.map ndC)) := HQ4.out.after k5
        have HS5 : Hid (Step F F4 w _) := HS4.out.trans (Step.new k5)
        clear q4 hne k5
        go_wp2_with fail
        have hR2 : PutR w F v dfin B f (.slice (some ⟨g4, 0, none⟩) L4 cap4) (.string (bs r')) (.int .i64 ka) _ := ⟨F4, kd, ka, r', rfl, rfl, HQ5.out, HKDK.out, by have := HL4.out; have := HKL2.out; have := HLN.out; omega, HPUT.out, HHF2.out, HRL2.out, HS5.out⟩
        exact ⟨⟨f, hR2⟩, Nat.lt_of_le_of_lt (leastF_le hR2) (by rw [HM.out]; omega)⟩
      · have hk3b : (n.kind == 3) = false := by rw [hk2]; rfl
        have hk2b : (n.kind == 2) = true := by rw [hk2]; rfl
        have hpx := fun W => hasPrefix_any r n.path W
        rw [hb] at hpx
        have hpl := begB_len hb
        have hpsz := bs_size n.path
        have hps : (bs n.path).size ≤ (bs r).size := by rw [bs_size, bs_size]; exact hpl
        have hpsi : ((bs n.path).size : Int) ≤ ((bs r).size : Int) := by omega
        have hcut : (bs r).extract (bs n.path).size (bs r).size = bs (r.drop n.path.length) := by rw [bs_size n.path]; exact tail_bs' r _
        obtain ⟨k0, hk0⟩ : ∃ z, n.kids[0]? = some z := ⟨_, List.getElem?_eq_getElem (by omega)⟩
        have HPUT : Hid (putM f d k0 (r.drop n.path.length) v = some dfin) := by
          show _ = _
          rw [List.getD_eq_getElem?_getD, hk0] at hput; exact hput
        have HHF2 : Hid (Half (r.drop n.path.length)) := half_drop HHF.out _
        have HRL2 : Hid ((r.drop n.path.length).length ≤ 16) := by show (r.drop n.path.length).length ≤ 16; rw [List.length_drop]; have := HRL.out; omega
        obtain ⟨r2, hr2⟩ : ∃ x, r.drop n.path.length = x := ⟨_, rfl⟩
        rw [hr2] at HPUT HHF2 HRL2 hcut
        have HK0 : Hid (n.kids[0]? = some k0) := hk0
        obtain ⟨rs, hrse⟩ : ∃ x, bs r = x := ⟨_, rfl⟩
        obtain ⟨ps, hpse⟩ : ∃ x, bs n.path = x := ⟨_, rfl⟩
        rw [hrse, hpse] at hpx hps hpsi hcut
        rw [hrse] at HM hlf ⊢
        have HPS : Hid (bs n.path = ps) := hpse
        clear hk2 hput hb hpl hpsz hk0 hr2 hpse
        go_wp2_with (first
          | refine wpList_load_pl (by rfl) 55 _ (by rfl) F' 55 20 g D cap a _ (ndC n) _ HQ.out HN (by rfl) Tryd.underlying55 rfl (ndsz hk) ?_
          | (refine wpList_alloc_at (by rfl) 8 (by rfl) 55 (by rfl) _ _ _ info49 ?_; intro W1 R1 N1)
          | (refine wpList_store_new (by rfl) 55 _ _ (by rfl) wr.heap.size (ndA n) (by rfl) (by rfl) 55 _ R1 (ndszA hk) (by rw [ndA_size hk]; rfl) (ndA_all _) ?_; intro W2 R2 B2; have N2 : New wr W2 := B2.new N1 (Nat.le_refl _)))
        have rg := R2.range 0 20
        rw [show ((ndA n).toList.drop 0).take 20 = ndC n by unfold ndA; rw [List.drop_zero, List.take_of_length_le (by rw [ndC_len hk]; exact Nat.le_refl _)]] at rg
        have q1 : ∀ p : NewW W2, p.v.rangeAt wr.heap.size 0 (ndC n) := fun p i u hi => (p.h.cell R2.lt).trans (rg i u hi)
        have q3 := NewW.cell (R2.has 3 (v := .string (bs n.val)) rfl)
        have hne := NewW.ne W2
        try simp only [Act.put, List.setIfInBounds_toArray, List.set_cons_zero, List.set_cons_succ]
        refine region_new W2 (New.refl W2) (by kernel_rfl) (by kernel_rfl) ?_
        refine wpQuiet_load_mid (by rfl) 55 _ (by rfl) wr.heap.size 0 (by rfl) (ndC n) q1 _ Tryd.underlying55 rfl (ndsz hk) ?_
        simp only [Act.put, List.setIfInBounds_toArray, List.set_cons_zero, List.set_cons_succ]
        iterate 3 (go_big_quiet_step (fail))
        refine wpQuiet_load_mid (by rfl) 55 _ (by rfl) wr.heap.size 0 (by rfl) (ndC n) q1 _ Tryd.underlying55 rfl (ndsz hk) ?_
        simp only [Act.put, List.setIfInBounds_toArray, List.set_cons_zero, List.set_cons_succ]
        repeat (go_big_quiet_step (first | (go_at_call 39; exact Calls.neww (hlf _))))
        refine wpQuiet_nil ?_
        rintro W3 ⟨⟨_, k3⟩, rfl⟩
        have N3 : New wr W3 := N2.trans k3
        have R3 := R2.after k3
        have Q3 := HQ.out.after N3
        have S3 : Step F F' w W3 := HST.out.trans (Step.new N3)
        have hnb3 : wr.heap.size < W3.heap.size := R3.lt
        have hnb : wr.heap.size ≠ g := by omega
        obtain ⟨nb, hnbe⟩ : ∃ x, wr.heap.size = x := ⟨_, rfl⟩
        rw [hnbe] at R3 hnb hnb3 ⊢
        have hnw : w.heap.size ≤ nb := by have := HST.out.size; omega
        clear rg q1 q3 hne R1 N1 B2 R2 k3 N2 N3 HN hq0 hql
        have y0 := R3.has 0 (v := .int .i64 n.kind) rfl
        have y1 : W3.cell? ⟨nb, 1, none⟩ = some (.string ps) := by rw [← HPS.out]; exact R3.has 1 rfl
        have y4 := R3.has 4 (v := .int .i64 k0) (by unfold ndA; rw [List.getElem?_toArray]; exact kids_get (c := 0) HK0.out)
        have HQ3 : Hid (Pl W3 F' 55 20 (.slice (some ⟨g, 0, none⟩) D cap) (d.map ndC)) := Q3
        have HS3 : Hid (Step F F' w W3) := S3
        clear S3 R3 Q3
        go_wp2_with fail
        refine Calls.mono (hpx _) ?_
        rintro _ W3 ⟨rfl, rfl⟩
        have q1 := NewW.cell y1
        have q4 := NewW.cell y4
        have hne := NewW.ne W3
        clear hpx
        go_wp2_with fail
        try simp only [Act.put, List.setIfInBounds_toArray, List.set_cons_zero, List.set_cons_succ]
        refine region_new W3 (New.refl W3) (by kernel_rfl) (by kernel_rfl) ?_
        repeat (go_big_quiet_step (fail))
        refine wpQuiet_nil ?_
        rintro W5 ⟨⟨_, k5⟩, rfl⟩
        have HQ5 : Hid (Pl _ F' 55 20 (.slice (some ⟨g, 0, none⟩) D cap) (d.map ndC)) := HQ3.out.after k5
        have HS5 : Hid (Step F F' w _) := HS3.out.trans (Step.new k5)
        clear q1 q4 hne k5
        go_wp2_with fail
        have hR2 : PutR w F v dfin B f (.slice (some ⟨g, 0, none⟩) D cap) (.string (bs r2)) (.int .i64 k0) _ := ⟨F', d, k0, r2, rfl, rfl, HQ5.out, HDK.out, by have := HD.out; have := HLN.out; omega, HPUT.out, HHF2.out, HRL2.out, HS5.out⟩
        exact ⟨⟨f, hR2⟩, Nat.lt_of_le_of_lt (leastF_le hR2) (by rw [HM.out]; omega)⟩
      · by_cases k2 : n.kind = 2
        · have hk3b : (n.kind == 3) = false := by rw [beq_eq_false_iff_ne]; exact hk3
          have hk2b : (n.kind == 2) = true := by rw [k2]; rfl
          have hb : begB n.path r = false := by
            cases e : begB n.path r
            · rfl
            · exact absurd ⟨k2, e⟩ hk2
          have hpx := fun W => hasPrefix_any r n.path W
          rw [hb] at hpx
          have hcom := fun W => common_any (bs n.path) (bs r) (by rw [bs_size]; have := hN.2.2; omega) (by rw [bs_size]; have := HRL.out; omega) W
          rw [L_bs, L_bs] at hcom
          have hcl := (comN_le n.path r).1
          have HPUT : Hid (putM f (partD d a n (comN n.path r)) (a : Int) r v = some dfin) := hput
          obtain ⟨m, hm⟩ : ∃ x, comN n.path r = x := ⟨_, rfl⟩
          rw [hm] at hcom hcl HPUT
          have HCL : Hid (m ≤ n.path.length) := hcl
          obtain ⟨rs, hrse⟩ : ∃ x, bs r = x := ⟨_, rfl⟩
          obtain ⟨ps, hpse⟩ : ∃ x, bs n.path = x := ⟨_, rfl⟩
          rw [hrse, hpse] at hcom
          rw [hrse] at HM hlf ⊢
          rw [hrse, hpse] at hpx
          have HPS : Hid (bs n.path = ps) := hpse
          have HRS : Hid (bs r = rs) := hrse
          clear hput hcl hm hpse hrse hk3 hk2 k2 hb
          go_wp2_with (first
            | refine wpList_load_pl (by rfl) 55 _ (by rfl) F' 55 20 g D cap a _ (ndC n) _ HQ.out HN (by rfl) Tryd.underlying55 rfl (ndsz hk) ?_
            | (refine wpList_alloc_at (by rfl) 8 (by rfl) 55 (by rfl) _ _ _ info49 ?_; intro W1 R1 N1)
            | (refine wpList_store_new (by rfl) 55 _ _ (by rfl) wr.heap.size (ndA n) (by rfl) (by rfl) 55 _ R1 (ndszA hk) (by rw [ndA_size hk]; rfl) (ndA_all _) ?_; intro W2 R2 B2; have N2 : New wr W2 := B2.new N1 (Nat.le_refl _)))
          have rg := R2.range 0 20
          rw [show ((ndA n).toList.drop 0).take 20 = ndC n by unfold ndA; rw [List.drop_zero, List.take_of_length_le (by rw [ndC_len hk]; exact Nat.le_refl _)]] at rg
          have q1 : ∀ p : NewW W2, p.v.rangeAt wr.heap.size 0 (ndC n) := fun p i u hi => (p.h.cell R2.lt).trans (rg i u hi)
          have q3 := NewW.cell (R2.has 3 (v := .string (bs n.val)) rfl)
          have hne := NewW.ne W2
          try simp only [Act.put, List.setIfInBounds_toArray, List.set_cons_zero, List.set_cons_succ]
          refine region_new W2 (New.refl W2) (by kernel_rfl) (by kernel_rfl) ?_
          refine wpQuiet_load_mid (by rfl) 55 _ (by rfl) wr.heap.size 0 (by rfl) (ndC n) q1 _ Tryd.underlying55 rfl (ndsz hk) ?_
          simp only [Act.put, List.setIfInBounds_toArray, List.set_cons_zero, List.set_cons_succ]
          iterate 3 (go_big_quiet_step (fail))
          refine wpQuiet_load_mid (by rfl) 55 _ (by rfl) wr.heap.size 0 (by rfl) (ndC n) q1 _ Tryd.underlying55 rfl (ndsz hk) ?_
          simp only [Act.put, List.setIfInBounds_toArray, List.set_cons_zero, List.set_cons_succ]
          repeat (go_big_quiet_step (first | (go_at_call 39; exact Calls.neww (hlf _))))
          refine wpQuiet_nil ?_
          rintro W3 ⟨⟨_, k3⟩, rfl⟩
          have N3 : New wr W3 := N2.trans k3
          have R3 := R2.after k3
          have Q3 := HQ.out.after N3
          have S3 : Step F F' w W3 := HST.out.trans (Step.new N3)
          have hnb3 : wr.heap.size < W3.heap.size := R3.lt
          have hnb : wr.heap.size ≠ g := by omega
          obtain ⟨nb, hnbe⟩ : ∃ x, wr.heap.size = x := ⟨_, rfl⟩
          rw [hnbe] at R3 hnb hnb3 ⊢
          have hnw : w.heap.size ≤ nb := by have := HST.out.size; omega
          clear rg q1 q3 hne R1 N1 B2 R2 k3 N2 N3 HN hq0 hql
          have y0 := R3.has 0 (v := .int .i64 n.kind) rfl
          have y1 : W3.cell? ⟨nb, 1, none⟩ = some (.string ps) := by rw [← HPS.out]; exact R3.has 1 rfl
          have HQ3 : Hid (Pl W3 F' 55 20 (.slice (some ⟨g, 0, none⟩) D cap) (d.map ndC)) := Q3
          have HS3 : Hid (Step F F' w W3) := S3
          have HR3 : Hid (Row W3 nb (ndA n) 55) := R3
          clear S3 R3 Q3
          go_wp2_with fail
          refine Calls.mono (hpx _) ?_
          rintro _ W3 ⟨rfl, rfl⟩
          clear hpx
          go_wp2_with fail
          refine Calls.mono (hcom _) ?_
          rintro _ W4 ⟨rfl, N4⟩
          have hpc := part_any (HQ3.out.after N4) hN (by rw [HD.out]; omega) HNN.out HCL.out
          have hS4 : Step F F' w W4 := HS3.out.trans (Step.new N4)
          have HS4 : Hid (Step F F' w W4) := hS4
          clear hcom hS4
          go_wp2_with fail
          refine Calls.mono hpc ?_
          rintro _ W5 ⟨v5, F5, rfl, Q5, S5⟩
          have HQ5 : Hid (Pl _ F5 55 20 v5 ((partD d a n m).map ndC)) := Q5
          have HS5 : Hid (Step F F5 w _) := HS4.out.trans S5
          clear hpc Q5 S5
          go_wp2_with fail
          have hR2 : PutR w F v dfin B f v5 (.string rs) (.int .i64 (a : Int)) _ := ⟨F5, partD d a n m, (a : Int), r, rfl, by rw [HRS.out], HQ5.out, partD_dk HDK.out hN m, by have := partD_len d a n m; have := HD.out; have := HLN.out; omega, HPUT.out, HHF.out, HRL.out, HS5.out⟩
          exact ⟨⟨f, hR2⟩, Nat.lt_of_le_of_lt (leastF_le hR2) (by rw [HM.out]; omega)⟩
        · have hk3b : (n.kind == 3) = false := by rw [beq_eq_false_iff_ne]; exact hk3
          have hk2b : (n.kind == 2) = false := by rw [beq_eq_false_iff_ne]; exact k2
          have hcom := fun W => common_any (bs n.path) (bs r) (by rw [bs_size]; have := hN.2.2; omega) (by rw [bs_size]; have := HRL.out; omega) W
          rw [L_bs, L_bs] at hcom
          have hcl := (comN_le n.path r).1
          have HPUT : Hid (putM f (partD d a n (comN n.path r)) (a : Int) r v = some dfin) := hput
          obtain ⟨m, hm⟩ : ∃ x, comN n.path r = x := ⟨_, rfl⟩
          rw [hm] at hcom hcl HPUT
          have HCL : Hid (m ≤ n.path.length) := hcl
          obtain ⟨rs, hrse⟩ : ∃ x, bs r = x := ⟨_, rfl⟩
          obtain ⟨ps, hpse⟩ : ∃ x, bs n.path = x := ⟨_, rfl⟩
          rw [hrse, hpse] at hcom
          rw [hrse] at HM hlf ⊢
          have HPS : Hid (bs n.path = ps) := hpse
          have HRS : Hid (bs r = rs) := hrse
          clear hput hcl hm hpse hrse hk3 hk2 k2
          go_wp2_with (first
            | refine wpList_load_pl (by rfl) 55 _ (by rfl) F' 55 20 g D cap a _ (ndC n) _ HQ.out HN (by rfl) Tryd.underlying55 rfl (ndsz hk) ?_
            | (refine wpList_alloc_at (by rfl) 8 (by rfl) 55 (by rfl) _ _ _ info49 ?_; intro W1 R1 N1)
            | (refine wpList_store_new (by rfl) 55 _ _ (by rfl) wr.heap.size (ndA n) (by rfl) (by rfl) 55 _ R1 (ndszA hk) (by rw [ndA_size hk]; rfl) (ndA_all _) ?_; intro W2 R2 B2; have N2 : New wr W2 := B2.new N1 (Nat.le_refl _)))
          have rg := R2.range 0 20
          rw [show ((ndA n).toList.drop 0).take 20 = ndC n by unfold ndA; rw [List.drop_zero, List.take_of_length_le (by rw [ndC_len hk]; exact Nat.le_refl _)]] at rg
          have q1 : ∀ p : NewW W2, p.v.rangeAt wr.heap.size 0 (ndC n) := fun p i u hi => (p.h.cell R2.lt).trans (rg i u hi)
          have q3 := NewW.cell (R2.has 3 (v := .string (bs n.val)) rfl)
          have hne := NewW.ne W2
          try simp only [Act.put, List.setIfInBounds_toArray, List.set_cons_zero, List.set_cons_succ]
          refine region_new W2 (New.refl W2) (by kernel_rfl) (by kernel_rfl) ?_
          refine wpQuiet_load_mid (by rfl) 55 _ (by rfl) wr.heap.size 0 (by rfl) (ndC n) q1 _ Tryd.underlying55 rfl (ndsz hk) ?_
          simp only [Act.put, List.setIfInBounds_toArray, List.set_cons_zero, List.set_cons_succ]
          iterate 3 (go_big_quiet_step (fail))
          refine wpQuiet_load_mid (by rfl) 55 _ (by rfl) wr.heap.size 0 (by rfl) (ndC n) q1 _ Tryd.underlying55 rfl (ndsz hk) ?_
          simp only [Act.put, List.setIfInBounds_toArray, List.set_cons_zero, List.set_cons_succ]
          repeat (go_big_quiet_step (first | (go_at_call 39; exact Calls.neww (hlf _))))
          refine wpQuiet_nil ?_
          rintro W3 ⟨⟨_, k3⟩, rfl⟩
          have N3 : New wr W3 := N2.trans k3
          have R3 := R2.after k3
          have Q3 := HQ.out.after N3
          have S3 : Step F F' w W3 := HST.out.trans (Step.new N3)
          have hnb3 : wr.heap.size < W3.heap.size := R3.lt
          have hnb : wr.heap.size ≠ g := by omega
          obtain ⟨nb, hnbe⟩ : ∃ x, wr.heap.size = x := ⟨_, rfl⟩
          rw [hnbe] at R3 hnb hnb3 ⊢
          have hnw : w.heap.size ≤ nb := by have := HST.out.size; omega
          clear rg q1 q3 hne R1 N1 B2 R2 k3 N2 N3 HN hq0 hql
          have y0 := R3.has 0 (v := .int .i64 n.kind) rfl
          have y1 : W3.cell? ⟨nb, 1, none⟩ = some (.string ps) := by rw [← HPS.out]; exact R3.has 1 rfl
          have HQ3 : Hid (Pl W3 F' 55 20 (.slice (some ⟨g, 0, none⟩) D cap) (d.map ndC)) := Q3
          have HS3 : Hid (Step F F' w W3) := S3
          have HR3 : Hid (Row W3 nb (ndA n) 55) := R3
          clear S3 R3 Q3
          go_wp2_with fail
          refine Calls.mono (hcom _) ?_
          rintro _ W4 ⟨rfl, N4⟩
          have hpc := part_any (HQ3.out.after N4) hN (by rw [HD.out]; omega) HNN.out HCL.out
          have hS4 : Step F F' w W4 := HS3.out.trans (Step.new N4)
          have HS4 : Hid (Step F F' w W4) := hS4
          clear hcom hS4
          go_wp2_with fail
          refine Calls.mono hpc ?_
          rintro _ W5 ⟨v5, F5, rfl, Q5, S5⟩
          have HQ5 : Hid (Pl _ F5 55 20 v5 ((partD d a n m).map ndC)) := Q5
          have HS5 : Hid (Step F F5 w _) := HS4.out.trans S5
          clear hpc Q5 S5
          go_wp2_with fail
          have hR2 : PutR w F v dfin B f v5 (.string rs) (.int .i64 (a : Int)) _ := ⟨F5, partD d a n m, (a : Int), r, rfl, by rw [HRS.out], HQ5.out, partD_dk HDK.out hN m, by have := partD_len d a n m; have := HD.out; have := HLN.out; omega, HPUT.out, HHF.out, HRL.out, HS5.out⟩
          exact ⟨⟨f, hR2⟩, Nat.lt_of_le_of_lt (leastF_le hR2) (by rw [HM.out]; omega)⟩
end Go.Proofs.YtjpjcojabjkaaaaDoor
