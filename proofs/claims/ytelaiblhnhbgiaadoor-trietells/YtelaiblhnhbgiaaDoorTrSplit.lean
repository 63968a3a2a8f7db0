/-
  split: pairs by their half at a place, each group a piece of the row.
-/
import Derived.Test.YtelaiblhnhbgiaaDoorTrNib
namespace Go.Proofs.YtelaiblhnhbgiaaDoor
open Go.RowKit
set_option maxRecDepth 20000

theorem info71 : (Tryd.prog.info? 71).map (fun i => (i.zero, i.size, i.bytes)) = some (some (.agg (Array.replicate 16 (.slice none 0 0))), 16, 384) := by kernel_rfl
theorem i71 : (Tryd.prog.info? 71).map (·.size) = some 16 := by kernel_rfl
theorem grp_suffix {r : List Pr} {n h : Nat} (hr : r.Pairwise (fun p q => nib p n ≤ nib q n)) (hh : ∀ p ∈ r, nib p n ≤ h) : r.drop (r.length - (grp r n h).length) = grp r n h := by
  have e := filter_step n h r hr
  have e2 : r.filter (fun p => decide (nib p n < h + 1)) = r := List.filter_eq_self.2 fun p hp => by have := hh p hp; simpa using by omega
  rw [e2] at e
  have hl : r.length - (grp r n h).length = (r.filter (fun p => decide (nib p n < h))).length := by
    have := congrArg List.length e
    rw [List.length_append] at this
    omega
  have key : ∀ A G : List Pr, r = A ++ G → r.drop A.length = G := by rintro A G rfl; exact List.drop_left
  rw [hl]; exact key _ _ e
theorem grp_more {r : List Pr} {p : Pr} {n h : Nat} : grp (r ++ [p]) n h = if nib p n = h then grp r n h ++ [p] else grp r n h := by
  unfold grp
  rw [List.filter_append]
  by_cases e : nib p n = h
  · rw [if_pos e, List.filter_cons_of_pos (by simpa using e)]; rfl
  · rw [if_neg e, List.filter_cons_of_neg (by simpa using e)]; simp
/-- The group that a pair comes to, as a piece of the row. -/
theorem grp_piece {l : List Pr} {n k h : Nat} {p : Pr} {d : Pr} (hs : l.Pairwise (fun p q => nib p n ≤ nib q n)) (hk : k < l.length) (hp : l.getD k d = p) (hh : nib p n = h) :
    grp (l.take (k + 1)) n h = (l.take (k + 1)).drop (k - (grp (l.take k) n h).length) ∧ (grp (l.take k) n h).length ≤ k := by
  have hle : (grp (l.take k) n h).length ≤ k := by
    have h1 : (grp (l.take k) n h).length ≤ (l.take k).length := List.length_filter_le _ _
    rw [List.length_take] at h1; omega
  have hlen : (l.take k).length = k := by rw [List.length_take]; omega
  have e := take_more hk hp
  have hs' : (l.take k).Pairwise (fun p q => nib p n ≤ nib q n) := hs.sublist (List.take_sublist _ _)
  have hall : ∀ q ∈ l.take k, nib q n ≤ h := by
    intro q hq
    have h2 : (l.take (k + 1)).Pairwise (fun p q => nib p n ≤ nib q n) := hs.sublist (List.take_sublist _ _)
    rw [e, List.pairwise_append] at h2
    rw [← hh]
    exact h2.2.2 q hq p (by simp)
  have hsf := grp_suffix hs' hall
  rw [hlen] at hsf
  refine ⟨?_, hle⟩
  rw [e, grp_more, if_pos hh, List.drop_append_of_le_length (by rw [hlen]; omega), hsf]
/-- A piece of a slice that is read. -/
theorem LsA.piece {w : World} {A : Nat → Prop} {g o c : Nat} {l : List Pr} (hA : A g) (hg : g < w.heap.size) (hr : ∀ i, i < l.length → w.rangeAt g (o + i * 2) (prC (l.getD i ([], [])))) {lo hi : Nat} (h1 : lo ≤ hi) (h2 : hi ≤ l.length) (h3 : hi - lo ≤ c) :
    LsA w A 2 (.slice (some ⟨g, o + lo * 2, none⟩) (hi - lo) c) (((l.take hi).drop lo).map prC) := by
  have hlen : (((l.take hi).drop lo).map prC).length = hi - lo := by rw [List.length_map, List.length_drop, List.length_take]; omega
  refine ⟨_, c, by rw [hlen], by omega, fun _ => ⟨g, o + lo * 2, rfl, hg, hA, fun i hi' j u hu => ?_⟩⟩
  rw [hlen] at hi'
  rw [List.getElem_map, List.getElem_drop, List.getElem_take] at hu
  have := hr (lo + i) (by omega) j u (by rw [List.getD_eq_getElem?_getD, List.getElem?_eq_getElem (show lo + i < l.length by omega)]; exact hu)
  rw [show o + lo * 2 + i * 2 = o + (lo + i) * 2 by rw [Nat.add_mul]; omega]
  exact this
theorem results_cell {P : Program} {fn : Func} {p : Tmp} {ty : TypeId} (h : fn.results = #[.cell p ty]) (tmps : Array Value) (w : World) (g : Nat) (t : TypeId) (cs : Array Value) (fr : Nat × Nat) (d : TypeDesc)
    (hp : tmps.getD p undef = .pointer (some ⟨g, 0, none⟩)) (hg : w.heap[g]? = some (.cells cs t fr))
    (hu : P.underlying ty = some d) (hd : d.isRow = true) (hi : (P.info? ty).map (·.size) = some cs.size) :
    (results fn tmps).run P w = .ok (.agg cs) w := by
  have hp' : tmps[p]?.getD undef = .pointer (some ⟨g, 0, none⟩) := by simpa using hp
  simp [results, h, hp', asAddr, run_loadVar_row w g t ty cs fr d hg hu (by cases d <;> first | rfl | cases hd) hi]

set_option maxHeartbeats 1000000 in
theorem split_any {w : World} {A : Nat → Prop} {v : Value} {l : List Pr} {n : Nat} (P : LsA w A 2 v (l.map prC)) (hl : l.length ≤ 10000) (hk : ∀ p ∈ l, n < p.1.length ∧ p.1.length ≤ 16) (hs : l.Pairwise (fun p q => nib p n ≤ nib q n)) (hn : ∀ p ∈ l, nib p n < 16) :
    Calls Tryd.prog 38 #[v, .int .i64 (n : Int)] w fun e w' => ∃ gs : List Value, e = .returned (.agg gs.toArray) ∧ gs.length = 16 ∧ (∀ h x, gs[h]? = some x → LsA w A 2 x ((grp l n h).map prC)) ∧ New w w' := by
  obtain ⟨a, c, rfl, hc, HS⟩ := P.open ([], [])
  have HM : Hid (∀ i, i < l.length → n < (l.getD i ([], [])).1.length ∧ (l.getD i ([], [])).1.length ≤ 16 ∧ nib (l.getD i ([], [])) n < 16) := fun i h => ⟨(hk _ (getD_mem h)).1, (hk _ (getD_mem h)).2, hn _ (getD_mem h)⟩
  have HO : Hid (l.Pairwise (fun p q => nib p n ≤ nib q n)) := hs
  clear hk P hs hn
  go_enter Tryd.func38, Tryd.ntmps38
  go_wp2_with (first
    | (refine wpList_alloc_at (by rfl) 4 (by rfl) 71 (by rfl) _ _ _ info71 ?_; intro W1 R1 N1)
    | (refine wpList_alloc_at (by rfl) 5 (by rfl) 71 (by rfl) _ _ _ info71 ?_; intro W2 R2 N2))
  have HR1 : Hid (Row W1 w.heap.size (Array.replicate 16 (.slice none 0 0)) 71) := R1
  have HR2 : Hid (Row W2 W1.heap.size (Array.replicate 16 (.slice none 0 0)) 71) := R2
  have hN1 : New w W1 := N1
  have hN2 : New w W2 := N1.trans N2
  have hsz1 : w.heap.size < W1.heap.size := R1.lt
  have hsz2 : W1.heap.size < W2.heap.size := R2.lt
  have HR1' : Hid (Row W2 w.heap.size (Array.replicate 16 (.slice none 0 0)) 71) := R1.after N2
  generalize W1.heap.size = B at *
  clear R1 R2 N1 N2 HR1 hN1
  go_loopw [11] (fun i wr => ∃ (k : Nat) (gs : List Value), k ≤ l.length ∧ i = .int .i64 (k : Int) ∧ gs.length = 16 ∧ Hid (∀ h x, gs[h]? = some x → LsA w A 2 x ((grp (l.take k) n h).map prC)) ∧
    Hid (Row wr B gs.toArray 71) ∧ Hid (Row wr w.heap.size (Array.replicate 16 (.slice none 0 0)) 71) ∧ New w wr) (fun i _ => l.length - (intOf i).toNat)
  case atStart =>
    refine ⟨0, List.replicate 16 (.slice none 0 0), Nat.zero_le _, rfl, rfl, fun h x hx => ?_, HR2.out, HR1'.out, hN2⟩
    rw [List.getElem?_replicate] at hx
    split at hx
    · obtain rfl := Option.some.inj hx
      exact ⟨none, 0, rfl, Nat.le_refl _, fun h => absurd rfl h⟩
    · cases hx
  case round =>
    clear HR1' HR2
    obtain ⟨k, gs, hk, rfl, hgl, hall, HRB, HRA, N⟩ := hrel
    have hBl : B < wr.heap.size := HRB.out.lt
    by_cases hlt : k < l.length
    · obtain ⟨g, o, rfl, hg, hA, hr⟩ := HS.out (by omega)
      have R2 := hr wr N k hlt
      have M0 := HM.out k hlt
      obtain ⟨p, hp⟩ : ∃ p, l.getD k ([], []) = p := ⟨_, rfl⟩
      have HP : Hid (l.getD k ([], []) = p) := hp
      rw [hp] at R2 M0
      obtain ⟨m1, m2, m3⟩ := M0
      have hnl : n < (bs p.1).size := by rw [bs_size]; exact m1
      have hn16 : n < 16 := by omega
      obtain ⟨h, hh⟩ : ∃ h, nib p n = h := ⟨_, rfl⟩
      have hx : ((bs p.1)[n]'hnl).toNat = h := by
        rw [← hh]; unfold nib
        rw [List.getD_eq_getElem?_getD, List.getElem?_eq_getElem m1]; rfl
      rw [hh] at m3
      have HG := grp_piece (d := ([], [])) HO.out hlt hp hh
      obtain ⟨z, hz⟩ : ∃ z, gs[h]? = some z := ⟨gs[h]'(by omega), List.getElem?_eq_getElem (by omega)⟩
      have HZ : Hid (gs[h]? = some z) := hz
      obtain ⟨az, cz, hzf, _⟩ := hall.out h z hz
      rw [List.length_map] at hzf
      have HGG : Hid (grp (l.take (k + 1)) n h = (l.take (k + 1)).drop (k - (grp (l.take k) n h).length)) := HG.1
      have hle := HG.2
      obtain ⟨m, hm⟩ : ∃ m, (grp (l.take k) n h).length = m := ⟨_, rfl⟩
      have HMM : Hid ((grp (l.take k) n h).length = m) := hm
      rw [hm] at hzf hle
      subst hzf
      obtain ⟨lo, hlo⟩ : ∃ lo, k - m = lo := ⟨_, rfl⟩
      have hkm : (k : Int) - (m : Int) = (lo : Int) := by omega
      have HLO : Hid (k - m = lo ∧ m ≤ k) := ⟨hlo, hle⟩
      have HH : Hid (nib p n = h) := hh
      clear hp hz HG hm hlo hle hh m2
      have hx' : ((h : Int)) < 16 := by omega
      have hlk : (lo : Int) ≤ (k : Int) + 1 := by have := HLO.out; omega
      have hkc : (k : Int) + 1 ≤ (c : Int) := by omega
      have cz : wr.cell? ⟨B, h, none⟩ = some (.slice az m cz) := HRB.out.has h (by simpa using HZ.out)
      go_wp2_with (first
          | refine wpList_load_mid (by rfl) 52 _ (by rfl) g (o + k * 2) (by rfl) (prC p) _ R2 Tryd.underlying52 rfl i52 ?_
          | (refine wpList_alloc_new (by rfl) 52 (by rfl) _ _ _ info52 ?_; intro W1 R1 M1)
          | (refine wpList_store_new (by rfl) 52 _ _ (by rfl) wr.heap.size (prC p).toArray (by rfl) (by rfl) 52 _ R1 i52 rfl (pr_all p) ?_; intro W3 R3 B3; have c0 : W3.cell? ⟨wr.heap.size, 0, none⟩ = some (.string (bs p.1)) := R3.cell 0; have NW : New wr W3 := B3.new M1 (Nat.le_refl _); have cz3 := (NW.cell (p := ⟨B, h, none⟩) hBl).trans cz; have fz3 := (HRB.out.after NW).frozen h))
      have hBne : B ≠ wr.heap.size := by omega
      have hwN := N.size
      refine ⟨⟨k + 1, gs.set h (.slice (some ⟨g, o + lo * 2, none⟩) (k + 1 - lo) (c - lo)), by omega, by go_num, by rw [List.length_set]; exact hgl, fun h' x' hx' => ?_, ?_, ?_, ?_⟩, by simp [intOf]; omega⟩
      · by_cases e : h = h'
        · subst e
          rw [List.getElem?_set_self (by omega)] at hx'
          obtain rfl := Option.some.inj hx'
          rw [HGG.out, HMM.out, HLO.out.1]
          exact LsA.piece hA hg (fun i hi => hr w (New.refl w) i hi) (by have := HLO.out; omega) (by omega) (by have := HLO.out; omega)
        · rw [List.getElem?_set_ne e] at hx'
          rw [take_more hlt HP.out, grp_more, if_neg (by rw [HH.out]; exact e)]
          exact hall.out h' x' hx'
      · have := (HRB.out.after NW).set h (.slice (some ⟨g, o + lo * 2, none⟩) (k + 1 - lo) (c - lo))
        rw [List.setIfInBounds_toArray] at this
        exact this
      · refine (HRA.out.after NW).of (Below.heap_setCell _ _ _ _ ?_)
        intro e; have := hsz1; simp at e; omega
      · exact (N.trans NW).setCell (a := ⟨B, h, none⟩) (by simp; omega) _
    · have h1 : gs.toArray.all (·.oneCell') = true := all_oneCell_toArray fun v hv => by
        obtain ⟨h, hh⟩ := List.getElem?_of_mem hv
        obtain ⟨a, c, e, _⟩ := hall.out h v hh
        rw [e]; rfl
      go_wp2_with (first
        | refine wpList_load_row (by rfl) 71 _ (by rfl) B (by rfl) 71 gs.toArray (0, 0) _ HRB.out Tryd.underlying71 rfl (by rw [List.size_toArray, hgl]; exact i71) ?_
        | (refine wpList_store_new (by rfl) 71 _ _ (by rfl) w.heap.size gs.toArray (by rfl) (by rfl) 71 _ HRA.out (by rw [List.size_toArray, hgl]; exact i71) (by simp [hgl]) h1 ?_; intro W5 R5 B5))
      refine bodyPost_ret (v := .agg gs.toArray) (results_cell (by rfl) _ _ w.heap.size 71 gs.toArray (0, 0) _ (by rfl) R5 Tryd.underlying71 rfl (by rw [List.size_toArray, hgl]; exact i71)) rfl ⟨gs, rfl, hgl, fun h x hx => ?_, B5.new N (Nat.le_refl _)⟩
      have := hall.out h x hx
      rw [show k = l.length by omega, List.take_length] at this
      exact this

end Go.Proofs.YtelaiblhnhbgiaaDoor
