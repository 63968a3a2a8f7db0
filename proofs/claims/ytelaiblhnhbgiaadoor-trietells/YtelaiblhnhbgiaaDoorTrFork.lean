/-
  fork: a Branch and what is beneath it, where grow lays what is beneath each child.
-/
import Derived.Test.YtelaiblhnhbgiaaDoorTrIdx
namespace Go.Proofs.YtelaiblhnhbgiaaDoor
open Go.RowKit
set_option maxRecDepth 20000

def cellsN (t : List NP) : List (List Value) := t.map fun m => ndC m.1
def GrowOk (f : Nat) : Prop := ∀ (w : World) (F A : Nat → Prop) (v pv : Value) (ts : List (List Value)) (l : List Pr) (n : Nat), 17 ≤ n + f → Fit l n → n ≤ 16 → Pl w F 49 20 v ts → LsA w A 2 pv (l.map prC) →
  (∀ g, A g → g < w.heap.size ∧ ¬ F g) → l.length ≤ 10000 → (∀ p ∈ l, p.2.length ≤ 4000) → ts.length + 3 * l.length + 2 * f ≤ 40000 →
  Calls Tryd.prog 23 #[v, pv, .int .i64 (n : Int)] w fun e w' => ∃ v' F', e = .returned v' ∧ Pl w' F' 49 20 v' (ts ++ cellsN (grow f l n ts.length)) ∧ Step F F' w w'
theorem ends_run {l : List Pr} {n : Nat} (h : l ≠ []) : (((bs (l.getD 0 ([], [])).1).size : Int) == (n : Int)) = endsB l n := by
  cases l with
  | nil => exact absurd rfl h
  | cons p r =>
    show (((bs p.1).size : Int) == (n : Int)) = decide (p.1.length = n)
    rw [bs_size, Bool.eq_iff_iff, beq_iff_eq, decide_eq_true_eq]; omega
theorem rest_false {l : List Pr} {n : Nat} (h : endsB l n = false) : restL l n = l ∧ headV l n = [] := by
  unfold restL headV; rw [h]; exact ⟨rfl, rfl⟩
theorem rest_true {l : List Pr} {n : Nat} (h : endsB l n = true) : restL l n = l.drop 1 ∧ headV l n = (l.getD 0 ([], [])).2 := by
  unfold restL headV; rw [h]
  cases l <;> exact ⟨rfl, rfl⟩

/-- A Branch's children so far. -/
def kst (f : Nat) (l : List Pr) (n b k : Nat) : List Int × List NP := kidsW (fun g => grow f g (n + 1)) (fun h => grp (restL l n) n h) (b + 1) k
/-- The nodes so far. -/
def sofar (f : Nat) (l : List Pr) (n b k : Nat) : List NP := (brN (endsB l n) (headV l n) (kst f l n b k).1, headP l n) :: (kst f l n b k).2
theorem kst_ok {f : Nat} {l : List Pr} {n : Nat} (K : Fork l n) (hn : 16 ≤ n + f) (b k : Nat) (hk : k ≤ 16) : Kds ((headK l).take n) (restL l n) n (b + 1) k (kst f l n b k) :=
  kidsW_ok _ K (b + 1) (by omega) (fun c _ hg b' => grow_blk f _ (n + 1) b' (by omega) (K.group c) hg) k hk
theorem kst_none {f : Nat} {l : List Pr} {n b k : Nat} (h : grp (restL l n) n k = []) : kst f l n b (k + 1) = kst f l n b k := by
  show (if grp (restL l n) n k = [] then _ else _) = _
  rw [if_pos h]; rfl
theorem kst_some {f : Nat} {l : List Pr} {n b k : Nat} (h : grp (restL l n) n k ≠ []) : kst f l n b (k + 1) =
    ((kst f l n b k).1.set k ((b + 1 + (kst f l n b k).2.length : Nat) : Int), (kst f l n b k).2 ++ grow f (grp (restL l n) n k) (n + 1) (b + 1 + (kst f l n b k).2.length)) := by
  show (if grp (restL l n) n k = [] then _ else _) = _
  rw [if_neg h]; rfl
theorem sofar_all (f : Nat) (l : List Pr) (n b : Nat) : sofar f l n b 16 = forkW (fun g => grow f g (n + 1)) l n b := rfl
theorem LsA.tail {w : World} {A : Nat → Prop} {g o c : Nat} {l : List Pr} (h : LsA w A 2 (.slice (some ⟨g, o, none⟩) l.length c) (l.map prC)) (h1 : 1 ≤ l.length) (hc : l.length ≤ c) : LsA w A 2 (.slice (some ⟨g, o + 2, none⟩) (l.length - 1) (c - 1)) ((l.drop 1).map prC) := by
  obtain ⟨a, c', e, _, HS⟩ := h.open ([], [])
  obtain ⟨g', o', e', hg, hA, hr⟩ := HS.out (by omega)
  subst e'
  cases e
  have := LsA.piece (c := c - 1) hA hg (fun i hi => hr w (New.refl w) i hi) (lo := 1) (hi := l.length) h1 (Nat.le_refl _) (by omega)
  rw [Nat.one_mul, List.take_length] at this
  exact this
theorem br_kids (h : Bool) (v : Bt) (ks : List Int) (c : Nat) (x : Int) : (ndC (brN h v ks)).set (4 + c) (.int .i64 x) = ndC (brN h v (ks.set c x)) := kids_set ks c x (brN h v ks) rfl
theorem br_set {w : World} {g : Nat} (R : Row w g (ndA (brN false [] no16)) 49) (v : Bt) : Row ((w.setCell ⟨g, 2, none⟩ (.bool true)).setCell ⟨g, 3, none⟩ (.string (bs v))) g (ndA (brN true v no16)) 49 := (R.set 2 (.bool true)).set 3 (.string (bs v))

set_option maxHeartbeats 4000000 in
theorem fork_any (f : Nat) (G : GrowOk f) {w : World} {F A : Nat → Prop} {v pv : Value} {ts : List (List Value)} {l : List Pr} {n : Nat} (hn : 16 ≤ n + f) (K : Fork l n) (Q : Pl w F 49 20 v ts) (P : LsA w A 2 pv (l.map prC))
    (hA : ∀ g, A g → g < w.heap.size ∧ ¬ F g) (hl : l.length ≤ 10000) (hv : ∀ p ∈ l, p.2.length ≤ 4000) (hb : ts.length + 1 + 3 * l.length + 2 * f ≤ 40000) :
    Calls Tryd.prog 33 #[v, pv, .int .i64 (n : Int)] w fun e w' => ∃ v' F', e = .returned v' ∧ Pl w' F' 49 20 v' (ts ++ cellsN (forkW (fun g => grow f g (n + 1)) l n ts.length)) ∧ Step F F' w w' := by
  obtain ⟨a, c, rfl, hc, HS⟩ := P.open ([], [])
  have h2 := K.two
  obtain ⟨g, o, rfl, hg, hAg, hr⟩ := HS.out (by omega)
  have HP : Hid (LsA w A 2 (.slice (some ⟨g, o, none⟩) l.length c) (l.map prC)) := P
  have HK : Hid (Fork l n) := K
  have HQ : Hid (Pl w F 49 20 v ts) := Q
  have HV : Hid (∀ p ∈ l, p.2.length ≤ 4000) := hv
  have HAA : Hid (∀ g, A g → g < w.heap.size ∧ ¬ F g) := hA
  have HR : Hid (∀ (W : World), New w W → ∀ i, i < l.length → W.rangeAt g (o + i * 2) (prC (l.getD i ([], [])))) := hr
  have HE := ends_run (n := n) K.ne
  obtain ⟨p0, hp0⟩ : ∃ p, l.getD 0 ([], []) = p := ⟨_, rfl⟩
  have hlen0 := (K.fit.len _ (getD_mem (l := l) (i := 0) (d := ([], [])) (by omega)))
  have hv0 : p0.2.length ≤ 4000 := by rw [← hp0]; exact hv _ (getD_mem (by omega))
  rw [hp0] at HE hlen0
  have HP0 : Hid (l.getD 0 ([], []) = p0) := hp0
  have hn16 : n ≤ 16 := by omega
  have hcl := fun W => clone_any p0.2 hv0 W
  obtain ⟨av, cv, rfl, hcv⟩ := Q.form
  have htl : ts.length ≤ 40000 := by omega
  obtain ⟨b, hbb⟩ : ∃ b, endsB l n = b := ⟨_, rfl⟩
  rw [hbb] at HE
  have HB : Hid (endsB l n = b) := hbb
  have r0 := hr w (New.refl w) 0 (by omega)
  rw [hp0] at r0
  have HG : Hid (GrowOk f) := G
  have HBD : Hid (ts.length + 1 + 3 * l.length + 2 * f ≤ 40000) := hb
  clear HS P K Q hv hA hr hp0 hbb hb G
  cases b
  go_enter Tryd.func33, Tryd.ntmps33
  go_wp2_with (first
    | refine wpList_build1 (by rfl) 49 _ (by rfl) _ (by rfl) _ built49_br ?_
    | (refine wpList_alloc_at (by rfl) 7 (by rfl) 49 (by rfl) _ _ _ info49 ?_; intro W1 R1 N1)
    | (refine wpList_store_new (by rfl) 49 _ _ (by rfl) w.heap.size (ndA (brN false [] no16)) (by rfl) (by rfl) 49 _ R1 (by exact i49) rfl (ndA_all _) ?_; intro W2 R2 B2; have N2 : New w W2 := B2.new N1 (Nat.le_refl _); have k0 : W2.cell? ⟨g, o, none⟩ = some (.string (bs p0.1)) := (N2.cell hg).trans (by simpa using r0 0 _ rfl); have Q2 := HQ.out.after N2)
    | refine wpList_load_row (by rfl) 49 _ (by rfl) w.heap.size (by rfl) 49 (ndA (brN false [] no16)) (0, 0) _ R2 Tryd.underlying49 rfl i49 ?_
    | (refine wpList_build_one (by rfl) 24 _ (by rfl) Tryd.underlying24 _ _ info49 (ndA (brN false [] no16)) (by rfl) rfl (by decide) (by decide) ?_; intro W4 R4 N4; have Q4 := Q2.after N4)
    | (refine wpList_append_pl Q4 (by rfl) _ _ 24 (by rfl) Tryd.underlying24 _ _ info49 rfl (by decide) W2.heap.size (ndC (brN false [] no16)) 49 R4 rfl (ndC_one _) (by omega) (by decide) (by rfl) (by rfl) ?_; intro g5 c5 W5 Q5 G5))
  have hst : Step F (fun b => F b ∨ W4.heap.size ≤ b) w W5 := ((Step.new (N2.trans N4)).trans (Step.grown G5 (fun k hk => HQ.out.foot k hk))).wide (fun k hk => hk.imp id (fun h => Nat.le_trans (N2.trans N4).size h))
  have hpr : LsA W5 A 2 (.slice (some ⟨g, o, none⟩) l.length c) ((restL l n).map prC) := by rw [(rest_false HB.out).1]; exact HP.out.step hst (fun g hg => (HAA.out g hg).2)
  have hq5 : Hid (Pl W5 (fun b => F b ∨ W4.heap.size ≤ b) 49 20 (.slice (some ⟨g5, 0, none⟩) (ts.length + 1) c5) (ts ++ cellsN (sofar f l n ts.length 0))) := by
    show Pl _ _ _ _ _ _
    unfold cellsN sofar
    rw [(rest_false HB.out).2, HB.out]; exact Q5
  have HST : Hid (Step F (fun b => F b ∨ W4.heap.size ≤ b) w W5) := hst
  obtain ⟨F5, hF5⟩ : ∃ F5, (fun b => F b ∨ W4.heap.size ≤ b) = F5 := ⟨_, rfl⟩
  rw [hF5] at hq5 HST
  clear R4 N4 Q4 hst Q5 G5 Q2 R2 N2 hF5 k0
  rotate_left
  go_enter Tryd.func33, Tryd.ntmps33
  go_wp2_with (first
    | refine wpList_build1 (by rfl) 49 _ (by rfl) _ (by rfl) _ built49_br ?_
    | (refine wpList_alloc_at (by rfl) 7 (by rfl) 49 (by rfl) _ _ _ info49 ?_; intro W1 R1 N1)
    | (refine wpList_store_new (by rfl) 49 _ _ (by rfl) w.heap.size (ndA (brN false [] no16)) (by rfl) (by rfl) 49 _ R1 (by exact i49) rfl (ndA_all _) ?_; intro W2 R2 B2; have N2 : New w W2 := B2.new N1 (Nat.le_refl _); have k0 : W2.cell? ⟨g, o, none⟩ = some (.string (bs p0.1)) := (N2.cell hg).trans (by simpa using r0 0 _ rfl); have k1 : W2.cell? ⟨g, o + 1, none⟩ = some (.string (bs p0.2)) := (N2.cell hg).trans (by simpa using r0 1 _ rfl); have Q2 := HQ.out.after N2)
    | (go_at_call 28; refine (hcl _).mono ?_; rintro _ W6 ⟨rfl, N6⟩; have R6 := R2.after N6; have y2 := R6.has 2 (v := .bool false) rfl; have y3 := R6.has 3 (v := .string (bs [])) rfl; have f2 := R6.frozen 2; have f3 := R6.frozen 3)
    | (refine wpList_load_row (by rfl) 49 _ (by rfl) w.heap.size (by rfl) 49 (ndA (brN true p0.2 no16)) (0, 0) _ (br_set R6 p0.2) Tryd.underlying49 rfl i49 ?_; have N7 : New w ((W6.setCell ⟨w.heap.size, 2, none⟩ (.bool true)).setCell ⟨w.heap.size, 3, none⟩ (.string (bs p0.2))) := ((N2.trans N6).setCell (a := ⟨w.heap.size, 2, none⟩) (Nat.le_refl _) _).setCell (a := ⟨w.heap.size, 3, none⟩) (Nat.le_refl _) _; have Q7 := HQ.out.after N7; generalize ((W6.setCell ⟨w.heap.size, 2, none⟩ (.bool true)).setCell ⟨w.heap.size, 3, none⟩ (.string (bs p0.2))) = W7 at *)
    | (refine wpList_build_one (by rfl) 24 _ (by rfl) Tryd.underlying24 _ _ info49 (ndA (brN true p0.2 no16)) (by rfl) rfl (by decide) (by decide) ?_; intro W4 R4 N4; have Q4 := Q7.after N4)
    | (refine wpList_append_pl Q4 (by rfl) _ _ 24 (by rfl) Tryd.underlying24 _ _ info49 rfl (by decide) W7.heap.size (ndC (brN true p0.2 no16)) 49 R4 rfl (ndC_one _) (by omega) (by decide) (by rfl) (by rfl) ?_; intro g5 c5 W5 Q5 G5))
  have hst : Step F (fun b => F b ∨ W4.heap.size ≤ b) w W5 := ((Step.new (N7.trans N4)).trans (Step.grown G5 (fun k hk => HQ.out.foot k hk))).wide (fun k hk => hk.imp id (fun h => Nat.le_trans (N7.trans N4).size h))
  have hpr : LsA W5 A 2 (.slice (some ⟨g, o + 2, none⟩) (l.length - 1) (c - 1)) ((restL l n).map prC) := by rw [(rest_true HB.out).1]; exact (HP.out.step hst (fun g hg => (HAA.out g hg).2)).tail (by omega) hc
  have hq5 : Hid (Pl W5 (fun b => F b ∨ W4.heap.size ≤ b) 49 20 (.slice (some ⟨g5, 0, none⟩) (ts.length + 1) c5) (ts ++ cellsN (sofar f l n ts.length 0))) := by
    show Pl _ _ _ _ _ _
    unfold cellsN sofar
    rw [(rest_true HB.out).2, HB.out, HP0.out]; exact Q5
  have HST : Hid (Step F (fun b => F b ∨ W4.heap.size ≤ b) w W5) := hst
  obtain ⟨F5, hF5⟩ : ∃ F5, (fun b => F b ∨ W4.heap.size ≤ b) = F5 := ⟨_, rfl⟩
  rw [hF5] at hq5 HST
  clear R4 N4 Q4 hst Q5 G5 Q2 Q7 N7 R2 N2 R6 N6 y2 y3 f2 f3 hF5 k0 k1
  rotate_left
  all_goals
    refine (split_any hpr (by have := (rest_sub l n).length_le; omega) (fun p hp => ⟨HK.out.long p hp, (HK.out.restfit.len p hp).2⟩) HK.out.order (fun p hp => HK.out.restfit.nib_lt hp (HK.out.long p hp))).mono ?_
    rintro _ W8 ⟨gs, rfl, hgl, hgs, N8⟩
    have HGS : Hid (∀ h x, gs[h]? = some x → LsA W8 A 2 x ((grp (restL l n) n h).map prC)) := fun h x hx => (hgs h x hx).after N8
    have hq8 : Hid (Pl W8 F5 49 20 (.slice (some ⟨g5, 0, none⟩) (ts.length + 1) c5) (ts ++ cellsN (sofar f l n ts.length 0))) := hq5.out.after N8
    have HS8 : Hid (Step F F5 w W8) := HST.out.trans (Step.new N8)
    clear hpr hq5 HST hgs N8
    go_wp2_with fail
    go_loopw [0, 37] (fun t i wr => ∃ (k : Nat) (F' : Nat → Prop), k ≤ 16 ∧ i = .int .i64 (k : Int) ∧ Hid (Pl wr F' 49 20 t (ts ++ cellsN (sofar f l n ts.length k))) ∧ Hid (Step F F' w wr) ∧
      Hid (∀ h x, gs[h]? = some x → LsA wr A 2 x ((grp (restL l n) n h).map prC))) (fun _ i _ => 16 - (intOf i).toNat)
    case atStart => exact ⟨0, F5, by omega, rfl, hq8.out, HS8.out, HGS.out⟩
    case round =>
      clear hq8 HS8 HGS
      obtain ⟨k, F', hk, rfl, hq, hs, hgs⟩ := hrel
      by_cases hlt : k < 16
      · obtain ⟨z, hz⟩ : ∃ z, gs[k]? = some z := ⟨gs[k]'(by omega), List.getElem?_eq_getElem (by omega)⟩
        have hidx := fun w => run_index71 w gs k z hz hlt
        have HL := hgs.out k z hz
        obtain ⟨az, cz, hzf, hzc, _⟩ := HL
        rw [List.length_map] at hzf hzc
        have HZ : Hid (gs[k]? = some z) := hz
        clear hz
        have KK := kst_ok HK.out hn ts.length k (by omega)
        have KK1 := (kst_ok HK.out hn ts.length (k + 1) (by omega)).few
        have hfl : ((restL l n).filter (fun p => decide (nib p n < k + 1))).length ≤ l.length := Nat.le_trans (List.length_filter_le _ _) (rest_sub l n).length_le
        have hfs := congrArg List.length (filter_step n k (restL l n) HK.out.order)
        rw [List.length_append] at hfs
        have hfew := KK.few
        by_cases hm0 : (grp (restL l n) n k).length = 0
        · rw [hm0] at hzf hzc
          subst hzf
          have hne : grp (restL l n) n k = [] := List.eq_nil_of_length_eq_zero hm0
          have HE1 : Hid (sofar f l n ts.length (k + 1) = sofar f l n ts.length k) := by
            show _ = _
            unfold sofar; rw [kst_none hne]
          clear KK KK1 hfl hfs hfew hm0 hne
          go_wp2_with fail
          refine ⟨⟨k + 1, F', by omega, by go_num, ?_, hs.out, hgs.out⟩, by simp [intOf]; omega⟩
          show Pl _ _ _ _ _ _
          rw [HE1.out]; exact hq.out
        · have hgne : grp (restL l n) n k ≠ [] := fun e => hm0 (by rw [e]; rfl)
          obtain ⟨p1, hp1, _⟩ := headK_mem hgne
          have hp1m := grp_mem.1 hp1
          have hnlt : n < 16 := Nat.lt_of_lt_of_le (HK.out.long p1 hp1m.1) (HK.out.restfit.len p1 hp1m.1).2
          have hfit := HK.out.group k
          have hgsub : ∀ p ∈ grp (restL l n) n k, p ∈ l := fun p hp => (rest_sub l n).subset (grp_mem.1 hp).1
          have hgl4 : (grp (restL l n) n k).length ≤ 10000 := by omega
          have hsome := kst_some (f := f) (b := ts.length) hgne
          have hz0 := KK.zero k (Nat.le_refl _) hlt
          have HSO : Hid (sofar f l n ts.length (k + 1) = (brN (endsB l n) (headV l n) ((kst f l n ts.length k).1.set k ((ts.length + 1 + (kst f l n ts.length k).2.length : Nat) : Int)), headP l n) :: ((kst f l n ts.length k).2 ++ grow f (grp (restL l n) n k) (n + 1) (ts.length + 1 + (kst f l n ts.length k).2.length))) := by
            show _ = _
            unfold sofar; rw [hsome]
          have hq0 : Pl wr F' 49 20 u0 (ts ++ ndC (brN (endsB l n) (headV l n) (kst f l n ts.length k).1) :: cellsN (kst f l n ts.length k).2) := hq.out
          generalize (kst f l n ts.length k).1 = ks at hz0 HSO hq0 hfew
          generalize (kst f l n ts.length k).2 = ns at HSO hq0 hfew
          have hll : (ts ++ ndC (brN (endsB l n) (headV l n) ks) :: cellsN ns).length = ts.length + 1 + ns.length := by
            rw [List.length_append, List.length_cons, cellsN, List.length_map]; omega
          obtain ⟨g1, c1, rfl, hFg, hg1, hc1⟩ := hq0.full (by rw [hll]; omega)
          rw [hll] at hc1 hq0 ⊢
          have he0 : (ts ++ ndC (brN (endsB l n) (headV l n) ks) :: cellsN ns)[ts.length]? = some (ndC (brN (endsB l n) (headV l n) ks)) := by
            rw [List.getElem?_append_right (Nat.le_refl _), Nat.sub_self]; rfl
          obtain ⟨cc, ff⟩ := hq0.cellAt he0 (j := 4 + k) (kids_get (m := brN (endsB l n) (headV l n) ks) hz0)
          have hq9 := hq0.setCell he0 (j := 4 + k) (by omega) (.int .i64 ((ts.length + 1 + ns.length : Nat) : Int))
          rw [br_kids, List.set_append_right _ _ (Nat.le_refl _), Nat.sub_self, List.set_cons_zero] at hq9
          rw [← Nat.add_assoc] at cc ff hq9
          have hsc : Step F' F' wr (wr.setCell ⟨g1, ts.length * 20 + 4 + k, none⟩ (.int .i64 ((ts.length + 1 + ns.length : Nat) : Int))) := Step.setCell wr hFg _
          have hAA := stay HAA.out hs.out
          have hll' : (ts ++ ndC (brN (endsB l n) (headV l n) (ks.set k ((ts.length + 1 + ns.length : Nat) : Int))) :: cellsN ns).length = ts.length + 1 + ns.length := by
            rw [List.length_append, List.length_cons, cellsN, List.length_map]; omega
          have hbd := HBD.out
          have hcall := HG.out _ F' A _ _ _ _ (n + 1) (by omega) hfit (by omega) hq9 ((hgs.out k _ HZ.out).step hsc (fun g hg => (hAA g hg).2)) (stay hAA hsc) hgl4 (fun p hp => HV.out p (hgsub p hp)) (by rw [hll']; omega)
          rw [hll'] at hcall
          have HCALL : Hid (_) := hcall
          have HQX : Hid (Step F' F' wr (wr.setCell ⟨g1, ts.length * 20 + 4 + k, none⟩ (.int .i64 ((ts.length + 1 + ns.length : Nat) : Int)))) := hsc
          have HAX : Hid (∀ g, A g → g < wr.heap.size ∧ ¬ F' g) := hAA
          obtain ⟨N, hN⟩ : ∃ N, ts.length + 1 + ns.length = N := ⟨_, rfl⟩
          rw [hN] at HCALL HQX HSO hc1 ⊢
          have htN : ts.length < N := by omega
          obtain ⟨m, hmm⟩ : ∃ m, (grp (restL l n) n k).length = m := ⟨_, rfl⟩
          rw [hmm] at hzf hzc hm0
          subst hzf
          have hm0' : 0 < m := by omega
          clear KK KK1 hfl hfs hfew hgne hp1 hp1m hfit hgsub hsome hz0 hq0 hll he0 hq9 hsc hAA hll' hcall hbd hm0 hq hmm hgl4 hN
          go_wp2_with fail
          refine Calls.mono HCALL.out ?_
          rintro _ W9 ⟨v9, F9, rfl, Q10, S10⟩
          have HQ10 : Hid (Pl W9 F9 49 20 v9 (ts ++ cellsN (sofar f l n ts.length (k + 1)))) := by
            show Pl _ _ _ _ _ _
            have e : ts ++ cellsN (sofar f l n ts.length (k + 1)) = (ts ++ ndC (brN (endsB l n) (headV l n) (ks.set k (N : Int))) :: cellsN ns) ++ cellsN (grow f (grp (restL l n) n k) (n + 1) N) := by
              rw [HSO.out]
              simp [cellsN]
            rw [e]; exact Q10
          have HS10 : Hid (Step F F9 w W9) := (hs.out.trans HQX.out).trans S10
          have HGS10 : Hid (∀ h x, gs[h]? = some x → LsA W9 A 2 x ((grp (restL l n) n h).map prC)) := fun h x hx => ((hgs.out h x hx).step HQX.out (fun g hg => (HAX.out g hg).2)).step S10 (fun g hg => (stay HAX.out HQX.out g hg).2)
          clear Q10 S10 HCALL HSO cc ff
          go_wp2_with fail
          exact ⟨⟨k + 1, F9, by omega, by go_num, HQ10.out, HS10.out, HGS10.out⟩, by simp [intOf]; omega⟩
      · obtain rfl : k = 16 := by omega
        go_wp2_with fail
        go_ret
        exact ⟨_, F', rfl, hq.out, hs.out⟩

end Go.Proofs.YtelaiblhnhbgiaaDoor
