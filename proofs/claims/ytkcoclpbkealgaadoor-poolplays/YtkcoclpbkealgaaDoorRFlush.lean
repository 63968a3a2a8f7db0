/-
  The document's own FlushAll.
-/
import Derived.Test.YtkcoclpbkealgaaDoorRPages
namespace Go.Proofs.YtkcoclpbkealgaaDoor
open Go.RowKit
set_option maxRecDepth 20000

theorem rflush_facts {w : World} {m p g c q i : Nat} {G : Nat → Prop} {T : PS} (P : RP w m p g c q G T) (hm : m < 1000) (hi : i < T.fs.length) (hd : (T.fm i).dirty = true) :
    ∃ (n : Nat) (t : ByteArray), w.cell? ⟨p, 0, none⟩ = some (.pointer (some ⟨q, 0, none⟩)) ∧ w.cell? ⟨p, 1, none⟩ = some (.slice (some ⟨g, 0, none⟩) n c) ∧ w.cell? ⟨g, i * 5 + 1, none⟩ = some (.string t) ∧ (i : Int) < (n : Int) ∧ n ≤ 64 ∧
      ∀ w3, New w w3 → Calls Tryd.prog 51 #[.pointer (some ⟨q, 0, none⟩), .int .i64 ((T.fm i).at_ : Int), .string t] w3 fun e w' => e = .returned (.int .i64 (T.write i).1) ∧
        ((T.write i).1 = 0 → w'.cell? ⟨p, 1, none⟩ = some (.slice (some ⟨g, 0, none⟩) n c) ∧ (∃ v3, w'.cell? ⟨g, i * 5 + 3, none⟩ = some v3) ∧ w'.frozen? ⟨g, i * 5 + 3, none⟩ = false ∧ RPL p g c q G m w (T.write i).2 (w'.setCell ⟨g, i * 5 + 3, none⟩ (.bool false))) ∧
        ((T.write i).1 ≠ 0 → RPL p g c q G m w (T.write i).2 w') := by
  have hc := P.cells hi
  have hrm := P.room
  have hfew := write_few T.d ((T.fm i).at_ : Int) (T.fm i).data
  have hps := write_ps T.d ((T.fm i).at_ : Int) (T.fm i).data
  refine ⟨T.fs.length, bs (T.fm i).data, P.row.cell 0, P.row.cell 1, hc 1 _ rfl, by omega, P.inv.most, fun w3 n3 => ?_⟩
  have hk := refwrite_any (P.disk.after n3) ((T.fm i).at_ : Int) (bs (T.fm i).data) (by omega)
  rw [L_bs] at hk
  have e1 : (T.write i).1 = (T.d.write ((T.fm i).at_ : Int) (T.fm i).data).1 := by unfold PS.write; split; rename_i h; exact h.symm; rfl
  refine hk.mono ?_
  rintro _ w' ⟨rfl, l6⟩
  refine ⟨by rw [e1], fun h0 => ?_, fun h0 => ?_⟩
  · rw [e1] at h0
    have hw6 : (T.d.write ((T.fm i).at_ : Int) (T.fm i).data).2.ws.length = T.d.ws.length + 1 := by rcases hfew with h | h; exact h.2; exact absurd h0 h.1
    obtain ⟨G5, P5, s6⟩ := ((P.after n3).mono (Nat.le_succ m)).call l6 hps (by omega)
    have e2 : (T.write i).2 = PS.setF { T with d := (T.d.write ((T.fm i).at_ : Int) (T.fm i).data).2 } i { T.fm i with dirty := false } := by unfold PS.write; rw [if_pos h0]; rfl
    have hI := P.inv.write hi hd
    have hp := PS.write_pins hi P.pins
    have hr := PS.write_room hi hd
    rw [e2] at hI hp hr ⊢
    refine ⟨P5.row.cell 1, ⟨_, P5.cells (i := i) hi 3 _ rfl⟩, P5.frozen _, G5, P5.frame (f := { T.fm i with dirty := false }) (But.setCell' w' g _ _) (P5.fieldPl hi (by decide) rfl) hI hp (Nat.le_trans (Nat.le_of_eq hr) hrm), ((Step.new n3).trans s6).trans ((But.setCell' w' g _ _).step (.inr (.inl rfl)))⟩
  · rw [e1] at h0
    have hw6 : (T.d.write ((T.fm i).at_ : Int) (T.fm i).data).2.ws = T.d.ws := by rcases hfew with h | h; exact absurd h.1 h0; exact h.2
    obtain ⟨G5, P5, s6⟩ := (P.after n3).call l6 hps (by rw [hw6]; exact hrm)
    have e2 : (T.write i).2 = { T with d := (T.d.write ((T.fm i).at_ : Int) (T.fm i).data).2 } := by unfold PS.write; rw [if_neg h0]
    rw [e2]
    exact ⟨G5, P5, (Step.new n3).trans s6⟩
theorem raside_pl {p g : Nat} {F F' : Nat → Prop} {w w' : World} {t : TypeId} {k : Nat} {v : Value} {es : List (List Value)} (h : Pl w (fun x => ¬ rown p g F x) t k v es) (s : Step (rown p g F) (rown p g F') w w') : Pl w' (fun x => ¬ rown p g F' x) t k v es :=
  h.of (fun b hb hlt => s.block b hlt hb) (fun b hb hlt h2 => (s.foot b h2).elim hb (by omega))

set_option maxHeartbeats 8000000 in
theorem rflush_any {w : World} {m p g c q : Nat} {G : Nat → Prop} {T : PS} (P : RP w m p g c q G T) (hm : m < 1000) :
    Calls Tryd.prog 22 #[.pointer (some ⟨p, 0, none⟩)] w fun e w' => e = .returned (.int .i64 T.flush.1) ∧ RPL p g c q G m w T.flush.2 w' := by
  have hdi := rpages_any P true
  rw [← pages_dirty P.inv (Nat.le_trans P.disk.ok.len P.disk.ok.lim)] at hdi
  have HP : Hid (RP w m p g c q G T) := P
  have HD : Hid (Dy T (sorted (dirties T.fs))) := Dy.start P.inv
  obtain ⟨l, hl⟩ : ∃ l, sorted (dirties T.fs) = l := ⟨_, rfl⟩
  have hlen : l.length ≤ 64 := by rw [← hl, sorted_length]; exact Nat.le_trans (dirties_le _) P.inv.most
  rw [hl] at hdi HD
  obtain ⟨r, hr⟩ : ∃ r, T.flush = r := ⟨_, rfl⟩
  have HR : Hid (flushL l T = r) := by show flushL l T = r; rw [← hr, PS.flush, hl]
  rw [hr]
  clear P hl hr
  go_enter Tryd.func22, Tryd.ntmps22
  go_wp2_with fail
  refine hdi.mono ?_
  rintro _ w1 ⟨v, rfl, Q1, N1⟩
  obtain ⟨av, cv, hv, _⟩ := Q1.form
  rw [intsL_length] at hv
  subst hv
  have HQ : Hid (Pl w1 (fun x => ¬ rown p g G x) 3 1 (.slice av l.length cv) (intsL l)) := Q1.mono fun x hx _ h2 => by have := HP.out.own_lt x h2; have h3 : w.heap.size ≤ x := hx; omega
  clear Q1 hdi
  go_wp2_with fail
  go_loopw [4] (fun u wr => ∃ (k : Nat) (S' : PS) (F' : Nat → Prop), u = .int .i64 (k : Int) ∧ k ≤ l.length ∧ Hid (RP wr m p g c q F' S' ∧ Step (rown p g G) (rown p g F') w wr ∧ Dy S' (l.drop k) ∧ flushL (l.drop k) S' = r ∧ Pl wr (fun x => ¬ rown p g F' x) 3 1 (.slice av l.length cv) (intsL l))) (fun u _ => l.length - (intOf u).toNat)
  case atStart => exact ⟨0, T, G, rfl, by omega, HP.out.after N1, Step.new N1, HD.out, HR.out, HQ.out⟩
  case round =>
    obtain ⟨k, S', F', rfl, hk, HI⟩ := hrel
    by_cases h : k < l.length
    · obtain ⟨P', s', D', e', Q'⟩ := HI.out
      rw [List.drop_eq_getElem_cons h] at D' e'
      obtain ⟨i, hi, hd⟩ := D'.dirty _ List.mem_cons_self
      have hla : l.getD k 0 = l[k] := by rw [List.getD_eq_getElem?_getD, List.getElem?_eq_getElem h]; rfl
      obtain ⟨g0, c0, e0, _⟩ := Q'.full (by rw [intsL_length]; omega)
      rw [intsL_length] at e0
      cases e0
      have kk := Q'.num h
      rw [hla] at kk
      rw [flushL_cons hi] at e'
      have D2 := D'.next hi
      obtain ⟨hil, hif, hia⟩ := idx_full hi
      have hh := rhas_any P' (l[k] : Int)
      rw [show idxZ (l[k] : Int) (keys S'.fs) = (i : Int) by unfold idxZ; rw [hi]] at hh
      obtain ⟨n, t, c0', c1, k1, hin, h64, hw⟩ := rflush_facts P' hm hil hd
      rw [hia] at hw
      have HS : Hid (Step (rown p g G) (rown p g F') w wr ∧ Pl wr (fun x => ¬ rown p g F' x) 3 1 (.slice (some ⟨g0, 0, none⟩) l.length cv) (intsL l)) := ⟨s', Q'⟩
      obtain ⟨x, hx⟩ : ∃ x, l[k] = x := ⟨_, rfl⟩
      rw [hx] at kk hh hw
      obtain ⟨y, hy⟩ : ∃ y, S'.write i = y := ⟨_, rfl⟩
      rw [hy] at hw e' D2
      have HD2 : Hid (Dy y.2 (l.drop (k + 1))) := D2
      have HE2 : Hid ((if y.1 = 0 then flushL (l.drop (k + 1)) y.2 else y) = r) := e'
      have HW : Hid _ := hw
      have h' : (k : Int) < (l.length : Int) := by omega
      have hi0 : (0 : Int) ≤ (i : Int) := by omega
      clear P' s' D' e' Q' hi hd hla D2 hil hif hia hx hy HI HQ HD HR HP hw
      go_wp2_with fail
      refine hh.mono ?_
      rintro _ w2 ⟨rfl, rfl⟩
      clear hh
      have hne := NewW.ne w2
      have q0 : ∀ q' : NewW w2, q'.v.cell? ⟨p, 0, none⟩ = some (.pointer (some ⟨q, 0, none⟩)) := fun q' => NewW.cell c0' q'
      have q1 : ∀ q' : NewW w2, q'.v.cell? ⟨p, 1, none⟩ = some (.slice (some ⟨g, 0, none⟩) n c) := fun q' => NewW.cell c1 q'
      have q2 : ∀ q' : NewW w2, q'.v.cell? ⟨g, i * 5 + 1, none⟩ = some (.string t) := fun q' => NewW.cell k1 q'
      have q3 : ∀ q' : NewW w2, q'.v.cell? ⟨g0, k, none⟩ = some (.int .i64 (x : Int)) := fun q' => NewW.cell kk q'
      go_wp2_with fail
      refine region_first 16 2 w2 (New.refl w2) (by kernel_rfl) (by kernel_rfl) ?_
      simp only [List.take_succ_cons, List.take_zero, List.drop_succ_cons, List.drop_zero, List.take_nil]
      iterate 16 (go_big_quiet_step (fail))
      refine wpQuiet_nil ?_
      rintro W5 ⟨⟨_, N5⟩, rfl⟩
      clear q0 q1 q2 q3 hne c0' c1 k1 kk
      go_wp2_with fail
      refine (HW.out W5 N5).mono ?_
      rintro _ w6 ⟨rfl, h60, h61⟩
      clear HW
      by_cases he : y.1 = 0
      · obtain ⟨c1, ⟨v3, k3⟩, z3, F2, P2, s2⟩ := h60 he
        have HG : Hid (RP (w6.setCell ⟨g, i * 5 + 3, none⟩ (.bool false)) m p g c q F2 y.2 ∧ Step (rown p g G) (rown p g F2) w (w6.setCell ⟨g, i * 5 + 3, none⟩ (.bool false)) ∧ Dy y.2 (l.drop (k + 1)) ∧ flushL (l.drop (k + 1)) y.2 = r ∧ Pl (w6.setCell ⟨g, i * 5 + 3, none⟩ (.bool false)) (fun x => ¬ rown p g F2 x) 3 1 (.slice (some ⟨g0, 0, none⟩) l.length cv) (intsL l)) :=
          ⟨P2, HS.out.1.trans s2, HD2.out, by have := HE2.out; rw [if_pos he] at this; exact this, raside_pl HS.out.2 s2⟩
        rw [he]
        clear P2 s2 h60 h61 HE2 HD2 HS
        go_wp2_with fail
        exact ⟨⟨k + 1, y.2, F2, by simp, by omega, HG.out⟩, by simp [intOf]; omega⟩
      · obtain ⟨F2, P2, s2⟩ := h61 he
        have HG : Hid (y = r ∧ RPL p g c q G m w y.2 w6) := ⟨by have := HE2.out; rw [if_neg he] at this; exact this, F2, P2, HS.out.1.trans s2⟩
        obtain ⟨z, hz⟩ : ∃ z, y.1 = z := ⟨_, rfl⟩
        have HZ : Hid (y.1 = z) := hz
        rw [hz] at he ⊢
        clear P2 s2 hz h60 h61 HE2 HD2 HS
        go_wp2_with fail
        go_ret
        obtain ⟨e1, e2⟩ := HG.out
        rw [← e1]
        exact ⟨ret_int HZ.out.symm, e2⟩
    · obtain rfl : k = l.length := by omega
      go_wp2_with fail
      go_ret
      obtain ⟨P', s', _, e', _⟩ := HI.out
      rw [List.drop_length] at e'
      rw [← e']
      exact ⟨rfl, F', P', s'⟩
end Go.Proofs.YtkcoclpbkealgaaDoor
