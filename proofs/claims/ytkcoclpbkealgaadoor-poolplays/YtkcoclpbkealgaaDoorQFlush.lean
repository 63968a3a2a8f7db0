/-
  FlushAll; New.
-/
import Derived.Test.YtkcoclpbkealgaaDoorQDirty
namespace Go.Proofs.YtkcoclpbkealgaaDoor
open Go.RowKit
set_option maxRecDepth 20000

/-- Pages, each once, each dirty in its frame. -/
structure Dy (S : PS) (l : List Nat) : Prop where
  nodup : l.Nodup
  dirty : ∀ a ∈ l, ∃ i, idx (a : Int) (keys S.fs) = some i ∧ (S.fm i).dirty = true
theorem dirties_sub : ∀ {fs : List Fm}, (∀ f ∈ fs, f.dirty = true → f.data ≠ []) → (dirties fs).Sublist (held fs)
  | [], _ => List.Sublist.refl _
  | f :: fs, h => by
    have ih := dirties_sub (fs := fs) fun f2 hf => h f2 (by simp [hf])
    unfold dirties held keys at *
    simp only [List.filter_cons, List.map_cons, List.filterMap_cons, id]
    cases hd : f.dirty
    · simp only [Bool.false_eq_true, if_false]
      cases hk : f.key with
      | none => exact ih
      | some x => exact List.Sublist.cons _ ih
    · simp only [if_true, List.map_cons]
      rw [key_of (h f (by simp) hd)]
      exact List.Sublist.cons_cons _ ih
theorem Inv.dirty_full {S : PS} (h : Inv S) : ∀ f ∈ S.fs, f.dirty = true → f.data ≠ [] := fun f hf hd e => by rw [h.none f hf e] at hd; cases hd
theorem Dy.start {S : PS} (h : Inv S) : Dy S (sorted (dirties S.fs)) := by
  have hp : (sorted (dirties S.fs)).Perm (dirties S.fs) := List.mergeSort_perm _ _
  refine ⟨hp.nodup_iff.2 ((nodup_some h.apart).sublist (dirties_sub h.dirty_full)), fun a ha => ?_⟩
  have ha2 := hp.subset ha
  unfold dirties at ha2
  obtain ⟨f, hf, rfl⟩ := List.mem_map.1 ha2
  obtain ⟨hf1, hf2⟩ := List.mem_filter.1 hf
  obtain ⟨i, hi, rfl⟩ := mem_getD hf1
  exact ⟨i, idx_eq h.apart (by rw [keys_at hi, key_of (h.dirty_full _ hf1 hf2)]) rfl, hf2⟩
theorem Dy.next {S : PS} {a i : Nat} {l : List Nat} (h : Dy S (a :: l)) (hi : idx (a : Int) (keys S.fs) = some i) : Dy (S.write i).2 l := by
  obtain ⟨hil, _, hat⟩ := idx_full hi
  refine ⟨(List.nodup_cons.1 h.nodup).2, fun x hx => ?_⟩
  obtain ⟨j, hj, hd⟩ := h.dirty x (by simp [hx])
  refine ⟨j, by rw [PS.write_keys hil]; exact hj, ?_⟩
  have hne : i ≠ j := fun e => by
    subst e
    obtain ⟨_, _, hat2⟩ := idx_full hj
    have : x = a := by omega
    exact (List.nodup_cons.1 h.nodup).1 (this ▸ hx)
  show ((S.write i).2.fs.getD j noFm).dirty = true
  rw [PS.write_fs]
  split
  · rw [getD_set_other hne]; exact hd
  · exact hd
theorem flushL_cons {a i : Nat} {l : List Nat} {S : PS} (hi : idx (a : Int) (keys S.fs) = some i) : flushL (a :: l) S = if (S.write i).1 = 0 then flushL l (S.write i).2 else S.write i := by
  rw [flushL, hi]; rfl
theorem aside_pl {p g b : Nat} {F F' : Nat → Prop} {w w' : World} {t : TypeId} {k : Nat} {v : Value} {es : List (List Value)} (h : Pl w (fun x => ¬ own p g b F x) t k v es) (s : Step (own p g b F) (own p g b F') w w') : Pl w' (fun x => ¬ own p g b F' x) t k v es :=
  h.of (fun b hb hlt => s.block b hlt hb) (fun b hb hlt h2 => (s.foot b h2).elim hb (by omega))
theorem Bits.own_lt {w : World} {m p g b q : Nat} {Fd : Nat → Prop} {d : St} {fs : List Fm} {hand : Nat} {ks : List (Option Nat)} (B : Bits w m p g b q Fd d fs hand ks) : ∀ x, own p g b Fd x → x < w.heap.size := fun x hx => by
  rcases hx with rfl | rfl | rfl | hx
  · exact B.row.lt
  · exact B.g_lt
  · exact B.b_lt
  · exact B.disk.inside x hx

set_option maxHeartbeats 4000000 in
theorem flush_any {w : World} {m p g b q : Nat} {Fd : Nat → Prop} {S : PS} (P : Pool w m p g b q Fd S) (hm : m < 1000) :
    Calls Tryd.prog 21 #[.pointer (some ⟨p, 0, none⟩)] w fun e w' => e = .returned (.int .i64 S.flush.1) ∧ PLeft p g b q Fd m w S.flush.2 w' := by
  have hdi := dirty_any P
  have HP : Hid (Pool w m p g b q Fd S) := P
  have HD : Hid (Dy S (sorted (dirties S.fs))) := Dy.start P.inv
  obtain ⟨l, hl⟩ : ∃ l, sorted (dirties S.fs) = l := ⟨_, rfl⟩
  have hlen : l.length ≤ 64 := by rw [← hl, sorted_length]; exact Nat.le_trans (dirties_le _) P.inv.most
  rw [hl] at hdi HD
  obtain ⟨r, hr⟩ : ∃ r, S.flush = r := ⟨_, rfl⟩
  have HR : Hid (flushL l S = r) := by show flushL l S = r; rw [← hr, PS.flush, hl]
  rw [hr]
  clear P hl hr
  go_enter Tryd.func21, Tryd.ntmps21
  go_wp2_with fail
  refine hdi.mono ?_
  rintro _ w1 ⟨v, rfl, Q1, N1⟩
  obtain ⟨av, cv, hv, _⟩ := Q1.form
  rw [intsL_length] at hv
  subst hv
  have HQ : Hid (Pl w1 (fun x => ¬ own p g b Fd x) 3 1 (.slice av l.length cv) (intsL l)) := Q1.mono fun x hx _ h2 => by have := HP.out.bits.own_lt x h2; have h3 : w.heap.size ≤ x := hx; omega
  clear Q1 hdi
  go_wp2_with fail
  go_loopw [11] (fun u wr => ∃ (k : Nat) (S' : PS) (F' : Nat → Prop), u = .int .i64 (k : Int) ∧ k ≤ l.length ∧ Hid (Pool wr m p g b q F' S' ∧ Step (own p g b Fd) (own p g b F') w wr ∧ Dy S' (l.drop k) ∧ flushL (l.drop k) S' = r ∧ Pl wr (fun x => ¬ own p g b F' x) 3 1 (.slice av l.length cv) (intsL l))) (fun u _ => l.length - (intOf u).toNat)
  case atStart => exact ⟨0, S, Fd, rfl, by omega, HP.out.after N1, Step.new N1, HD.out, HR.out, HQ.out⟩
  case round =>
    obtain ⟨k, S', F', rfl, hk, HI⟩ := hrel
    by_cases h : k < l.length
    · obtain ⟨P', s', D', e', Q'⟩ := HI.out
      rw [List.drop_eq_getElem_cons h] at D' e'
      obtain ⟨i, hi, hd⟩ := D'.dirty _ List.mem_cons_self
      have hla : l.getD k 0 = l[k] := by rw [List.getD_eq_getElem?_getD, List.getElem?_eq_getElem h]; rfl
      obtain ⟨g0, c0, e0, _⟩ := Q'.full (by rw [intsL_length]; omega)
      rw [intsL_length] at e0
      cases e0
      have kk := Q'.num h
      rw [hla] at kk
      rw [flushL_cons hi] at e'
      have D2 := D'.next hi
      obtain ⟨hil, hif, hia⟩ := idx_full hi
      have hal := P'.inv.at_le P'.bits.disk.ok hil hif
      have hlk := P'.bits.look1 (l[k] : Int) (by omega) (by omega)
      rw [hi] at hlk
      simp only [Option.getD_some] at hlk
      have hw := write_any' P' hm hil hd
      have c2 : wr.cell? ⟨p, 2, none⟩ = some (.map (some b)) := P'.bits.row.cell 2
      have HS : Hid (Step (own p g b Fd) (own p g b F') w wr ∧ Pl wr (fun x => ¬ own p g b F' x) 3 1 (.slice (some ⟨g0, 0, none⟩) l.length cv) (intsL l)) := ⟨s', Q'⟩
      obtain ⟨x, hx⟩ : ∃ x, l[k] = x := ⟨_, rfl⟩
      rw [hx] at kk hlk
      obtain ⟨y, hy⟩ : ∃ y, S'.write i = y := ⟨_, rfl⟩
      rw [hy] at hw e' D2
      have HD2 : Hid (Dy y.2 (l.drop (k + 1))) := D2
      have HE2 : Hid ((if y.1 = 0 then flushL (l.drop (k + 1)) y.2 else y) = r) := e'
      have h' : (k : Int) < (l.length : Int) := by omega
      clear P' s' D' e' Q' hi hd hla D2 hil hif hia hal hx hy HI HQ HD HR HP
      go_wp2_with fail
      refine hw.mono ?_
      rintro _ w2 ⟨rfl, F2, P2, s2⟩
      clear hw hlk
      by_cases he : y.1 = 0
      · rw [he]
        have HG : Hid (Pool w2 m p g b q F2 y.2 ∧ Step (own p g b Fd) (own p g b F2) w w2 ∧ Dy y.2 (l.drop (k + 1)) ∧ flushL (l.drop (k + 1)) y.2 = r ∧ Pl w2 (fun x => ¬ own p g b F2 x) 3 1 (.slice (some ⟨g0, 0, none⟩) l.length cv) (intsL l)) := ⟨P2, HS.out.1.trans s2, HD2.out, by have := HE2.out; rw [if_pos he] at this; exact this, aside_pl HS.out.2 s2⟩
        clear P2 s2
        go_wp2_with fail
        exact ⟨⟨k + 1, y.2, F2, by simp, by omega, HG.out⟩, by simp [intOf]; omega⟩
      · have HG : Hid (y = r ∧ PLeft p g b q Fd m w y.2 w2) := ⟨by have := HE2.out; rw [if_neg he] at this; exact this, F2, P2, HS.out.1.trans s2⟩
        obtain ⟨z, hz⟩ : ∃ z, y.1 = z := ⟨_, rfl⟩
        have HZ : Hid (y.1 = z) := hz
        rw [hz] at he ⊢
        clear P2 s2 hz
        go_wp2_with fail
        go_ret
        obtain ⟨e1, e2⟩ := HG.out
        rw [← e1]
        exact ⟨ret_int HZ.out.symm, e2⟩
    · obtain rfl : k = l.length := by omega
      go_wp2_with fail
      go_ret
      obtain ⟨P', s', _, e', _⟩ := HI.out
      rw [List.drop_length] at e'
      rw [← e']
      exact ⟨rfl, F', P', s'⟩
end Go.Proofs.YtkcoclpbkealgaaDoor
