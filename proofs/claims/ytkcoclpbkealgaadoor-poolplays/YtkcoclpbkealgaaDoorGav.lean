/-
  The document's own Put.
-/
import Derived.Test.YtkcoclpbkealgaaDoorGau
namespace Go.Proofs.YtkcoclpbkealgaaDoor
open Go.RowKit
set_option maxRecDepth 20000

theorem wpOp_store1 {P : Program} {ops : Array Oper} {Q : Exit → Act → World → Prop} {k : Nat} {o : Oper} {K : Act → World → Prop} {a : Act} {w : World} (ty : TypeId) (x y : Operand) (ho : ops[k]? = some o) (hd : o.dst = none) (hw : Region.wanted o (yielded ops a.tmps) = true) (hop : o.op = .store ty x y)
    (g j : Nat) (hx : a.eval x = .pointer (some ⟨g, j, none⟩)) (v : Value) (hy : a.eval y = v) (h1 : v.oneCell' = true) (hi : (P.info? ty).map (·.size) = some 1) {u : Value} (hc : w.cell? ⟨g, j, none⟩ = some u) (hz : w.frozen? ⟨g, j, none⟩ = false)
    (h : K a (w.setCell ⟨g, j, none⟩ v)) : wpOp P ops Q k K a w := by
  refine wpOp_wp ho hw ?_
  obtain ⟨ie, hie, hs⟩ := Option.map_eq_some_iff.1 hi
  have hcl : v.cells = #[v] := by cases v <;> first | rfl | simp [Value.oneCell'] at h1
  have hti : (typeInfo ty).run P w = .ok ie w := by simp [typeInfo, hie, Result.andThen]
  have hst : (storeVar ty ⟨g, j, none⟩ v).run P w = .ok () (w.setCell ⟨g, j, none⟩ v) := by
    simp [storeVar, hcl, sizeOf, hti, hs, storeCells, run_store P _ _ v _ h1, Addr.add_zero', hc, hz, Result.andThen]
  unfold Oper.wp execOp
  simp only [hop, hx, hy, Instr.storeAt, Instr.sureAddr, Sem.run_bind, Sem.run_pure, Result.andThen_ok, hst]
  show K (a.put o.dst undef) _
  rw [hd]
  exact h
theorem set_past {w : World} {a b : Addr} {v u : Value} (h : w.cell? b = some u) (ne : a ≠ b) : (w.setCell a v).cell? b = some u := (World.cell?_setCell_other _ _ _ _ ne).trans h
theorem set_fz {w : World} {a b : Addr} {v : Value} (h : w.frozen? b = false) : (w.setCell a v).frozen? b = false := by rw [World.frozen?_setCell]; exact h
theorem adr_ne {g p i j : Nat} (h : p ≠ g) : (⟨g, i, none⟩ : Addr) ≠ ⟨p, j, none⟩ := fun e => h (congrArg Addr.block e).symm
theorem adr_off {g i j : Nat} (h : i ≠ j) : (⟨g, i, none⟩ : Addr) ≠ ⟨g, j, none⟩ := fun e => h (congrArg Addr.off e)

theorem Inv.relay {T : PS} (hI : Inv T) {i : Nat} (hi : i < T.fs.length) (hf : (T.fm i).data ≠ []) {f : Fm} (h1 : f.at_ = (T.fm i).at_) (h2 : f.data.length = 256) : Inv (T.setF i f) := by
  have hne : f.data ≠ [] := fun e => by rw [e] at h2; cases h2
  have hk : keys (T.fs.set i f) = keys T.fs := by
    rw [keys_set]
    apply List.ext_getElem?
    intro j
    by_cases e : i = j
    · subst e
      rw [List.getElem?_set_self (by rw [keys_length]; exact hi), keys_at hi, key_of hne, h1]
      exact congrArg some (key_of hf).symm
    · rw [List.getElem?_set_ne e]
  have hm := T.fm_mem hi
  refine ⟨?_, ?_, ?_, ?_, ?_, ?_, ?_⟩
  · show 1 ≤ (T.fs.set i f).length; rw [List.length_set]; exact hI.few
  · show (T.fs.set i f).length ≤ 64; rw [List.length_set]; exact hI.most
  · show T.hand < (T.fs.set i f).length; rw [List.length_set]; exact hI.hand
  · intro f2 hf2
    rcases set_mem hf2 with h | rfl
    · exact hI.none f2 h
    · intro e; exact absurd e hne
  · intro f2 hf2
    rcases set_mem hf2 with h | rfl
    · exact hI.size f2 h
    · intro _; exact h2
  · intro f2 hf2
    rcases set_mem hf2 with h | rfl
    · exact hI.in_ f2 h
    · intro _; rw [h1]; exact hI.in_ _ hm hf
  · show ∀ i' j' x, (keys (T.fs.set i f))[i']? = _ → (keys (T.fs.set i f))[j']? = _ → i' = j'
    rw [hk]; exact hI.apart
def rlayW (w : World) (g i : Nat) (t : List UInt8) : World := ((w.setCell ⟨g, i * 5 + 1, none⟩ (.string (bs t))).setCell ⟨g, i * 5 + 3, none⟩ (.bool true)).setCell ⟨g, i * 5 + 4, none⟩ (.bool true)
theorem But.trans {g : Nat} {w w1 w2 : World} (h : But g w w1) (k : But g w1 w2) : But g w w2 := ⟨k.os.trans h.os, k.tape.trans h.tape, k.output.trans h.output, k.size.trans h.size, fun x hx => (k.block x hx).trans (h.block x hx)⟩
theorem rlay_pl {w : World} {g n c i pn : Nat} {es : List (List Value)} {x : Int} {t0 : List UInt8} {d u : Bool} (h : Pl w (fun x => x = g) 97 5 (.slice (some ⟨g, 0, none⟩) n c) es) (hi : i < es.length) (he : es[i] = rawL x t0 pn d u) (t : List UInt8) :
    Pl (rlayW w g i t) (fun x => x = g) 97 5 (.slice (some ⟨g, 0, none⟩) n c) (es.set i (rawL x t pn true true)) ∧ But g w (rlayW w g i t) := by
  have h1 := h.setField hi (j := 1) (by decide) (.string (bs t))
  rw [he] at h1
  have h2 := h1.setField (i := i) (by rw [List.length_set]; exact hi) (j := 3) (by decide) (.bool true)
  rw [List.getElem_set_self, List.set_set] at h2
  have h3 := h2.setField (i := i) (by rw [List.length_set]; exact hi) (j := 4) (by decide) (.bool true)
  rw [List.getElem_set_self, List.set_set] at h3
  exact ⟨h3, (But.setCell' w g _ _).trans ((But.setCell' _ g _ _).trans (But.setCell' _ g _ _))⟩
theorem rfL_laid {f : Fm} {x : Nat} {t : List UInt8} (ht : t ≠ []) : rfL (laid f x t) = rawL (x : Int) t f.pins true true := by
  unfold rfL rawL rAt laid; simp only; rw [if_neg ht]
/-- What the last statement finds and leaves. -/
theorem rlay_facts {w w1 : World} {m p g c q i x pn : Nat} {G G1 : Nat → Prop} {T TT : PS} {t0 t : List UInt8} {d u : Bool} {es : List (List Value)} (R : Row w1 p #[.pointer (some ⟨q, 0, none⟩), .slice (some ⟨g, 0, none⟩) T.fs.length c, .int .i64 (T.hand : Int)] 95)
    (h : Pl w1 (fun x => x = g) 97 5 (.slice (some ⟨g, 0, none⟩) T.fs.length c) es) (hi : i < es.length) (hl : es.length = T.fs.length) (h64 : T.fs.length ≤ 64) (he : es[i] = rawL (x : Int) t0 pn d u)
    (hfin : ∀ w2, Pl w2 (fun x => x = g) 97 5 (.slice (some ⟨g, 0, none⟩) T.fs.length c) (es.set i (rawL (x : Int) t pn true true)) → (∃ w5, New w1 w5 ∧ But g w5 w2) → RP w2 (m + 1) p g c q G1 TT) (s1 : Step (rown p g G) (rown p g G1) w w1) :
    ∃ (n : Nat) (v1 v3 v4 : Value), w1.cell? ⟨p, 1, none⟩ = some (.slice (some ⟨g, 0, none⟩) n c) ∧ w1.cell? ⟨g, i * 5 + 1, none⟩ = some v1 ∧ w1.cell? ⟨g, i * 5 + 3, none⟩ = some v3 ∧ w1.cell? ⟨g, i * 5 + 4, none⟩ = some v4 ∧
      (∀ w5, New w1 w5 → w5.frozen? ⟨g, i * 5 + 1, none⟩ = false) ∧ (∀ w5, New w1 w5 → w5.frozen? ⟨g, i * 5 + 3, none⟩ = false) ∧ (∀ w5, New w1 w5 → w5.frozen? ⟨g, i * 5 + 4, none⟩ = false) ∧ (i : Int) < (n : Int) ∧ n ≤ 64 ∧
      ∀ w5, New w1 w5 → RP (rlayW w5 g i t) (m + 1) p g c q G1 TT ∧ Step (rown p g G) (rown p g G1) w (rlayW w5 g i t) := by
  have hr := h.range hi
  rw [he] at hr
  have hfz : ∀ j w5, New w1 w5 → w5.frozen? ⟨g, j, none⟩ = false := fun j w5 n5 => by obtain ⟨cur, R5, _⟩ := (h.after n5).row; exact R5.frozen j
  refine ⟨T.fs.length, _, _, _, R.cell 1, hr 1 _ rfl, hr 3 _ rfl, hr 4 _ rfl, hfz _, hfz _, hfz _, by omega, h64, fun w5 n5 => ?_⟩
  obtain ⟨hp, hb⟩ := rlay_pl (h.after n5) hi he t
  exact ⟨hfin _ hp ⟨w5, n5, hb⟩, (s1.trans (Step.new n5)).trans (hb.step (.inr (.inl rfl)))⟩

set_option maxHeartbeats 4000000 in
theorem rput_bad {w : World} {m p g c q : Nat} {G : Nat → Prop} {T : PS} (P : RP w m p g c q G T) (a : Int) (s : ByteArray) (hb : (L s).length ≠ 256 ∨ a < 0 ∨ (T.d.ps.length : Int) ≤ a) :
    Calls Tryd.prog 20 #[.pointer (some ⟨p, 0, none⟩), .int .i64 a, .string s] w fun e w' => e = .returned (.int .i64 1) ∧ w' = w := by
  have c0 : w.cell? ⟨p, 0, none⟩ = some (.pointer (some ⟨q, 0, none⟩)) := P.row.cell 0
  obtain ⟨a1, c1, a2, c2, _, d1, _⟩ := P.disk.open
  rw [L_size] at hb
  generalize T.d.ps.length = n at hb d1
  clear P
  by_cases h1 : s.size = 256
  · have h1' : (s.size : Int) = 256 := by omega
    by_cases h2 : a < 0
    · go_enter Tryd.func20, Tryd.ntmps20
      go_wp2_with fail
      go_ret
      exact ⟨rfl, rfl⟩
    · have h3 : (n : Int) ≤ a := by omega
      go_enter Tryd.func20, Tryd.ntmps20
      go_wp2_with fail
      go_ret
      exact ⟨rfl, rfl⟩
  · have h1' : ¬ (s.size : Int) = 256 := by omega
    go_enter Tryd.func20, Tryd.ntmps20
    go_wp2_with fail
    go_ret
    exact ⟨rfl, rfl⟩
set_option maxHeartbeats 8000000 in
theorem rput_any {w : World} {m p g c q : Nat} {G : Nat → Prop} {T : PS} (P : RP w m p g c q G T) (hm : m < 1000) (a : Int) (s : ByteArray) :
    Calls Tryd.prog 20 #[.pointer (some ⟨p, 0, none⟩), .int .i64 a, .string s] w fun e w' => e = .returned (.int .i64 (T.put a (L s)).1) ∧ RPL p g c q G (m + 1) w (T.put a (L s)).2 w' := by
  by_cases hb : (L s).length ≠ 256 ∨ a < 0 ∨ (T.d.ps.length : Int) ≤ a
  · rw [PS.put_bad hb]
    exact (rput_bad P a s hb).mono fun e w' ⟨h1, h2⟩ => ⟨h1, by rw [h2]; exact ⟨G, P.mono (Nat.le_succ m), Step.refl _ _⟩⟩
  · have c0 : w.cell? ⟨p, 0, none⟩ = some (.pointer (some ⟨q, 0, none⟩)) := P.row.cell 0
    obtain ⟨a1, cc1, a2, cc2, _, d1, _⟩ := P.disk.open
    have hhas := rhas_any P a
    have hlen : (L s).length = 256 := Classical.byContradiction fun h => hb (.inl h)
    have h1 : s.size = 256 := by rw [← L_size]; exact hlen
    have h2 : ¬ a < 0 := fun h => hb (.inr (.inl h))
    have h3 : ¬ (T.d.ps.length : Int) ≤ a := fun h => hb (.inr (.inr h))
    have h1' : (s.size : Int) = 256 := by omega
    have hne : L s ≠ [] := fun h => by rw [h] at hlen; cases hlen
    obtain ⟨x, hx⟩ : ∃ x : Nat, a = (x : Int) := ⟨a.toNat, by omega⟩
    subst hx
    cases hix : idx (x : Int) (keys T.fs) with
    | some i =>
      rw [idxZ_some hix] at hhas
      obtain ⟨hi, hfull, hat⟩ := idx_full hix
      have HE : Hid (T.put (x : Int) (L s) = (0, T.setF i (laid (T.fm i) x (L s)))) := by show T.put _ _ = _; rw [PS.put_hit hb hix, lay_eq]
      have hi0 : ¬ (i : Int) < 0 := by omega
      have hes : (T.fs.map rfL)[i]'(by rw [List.length_map]; exact hi) = rawL (x : Int) (T.fm i).data (T.fm i).pins (T.fm i).dirty (T.fm i).used := by
        rw [List.getElem_map, show T.fs[i] = T.fm i by unfold PS.fm; rw [List.getD_eq_getElem?_getD, List.getElem?_eq_getElem hi]; rfl]
        unfold rfL rawL; rw [rAt_full hfull, hat]
      have HFacts : Hid (∀ w1, w1 = w → ∃ (n : Nat) (v1 v3 v4 : Value), w1.cell? ⟨p, 1, none⟩ = some (.slice (some ⟨g, 0, none⟩) n c) ∧ w1.cell? ⟨g, i * 5 + 1, none⟩ = some v1 ∧ w1.cell? ⟨g, i * 5 + 3, none⟩ = some v3 ∧ w1.cell? ⟨g, i * 5 + 4, none⟩ = some v4 ∧
          (∀ w5, New w1 w5 → w5.frozen? ⟨g, i * 5 + 1, none⟩ = false) ∧ (∀ w5, New w1 w5 → w5.frozen? ⟨g, i * 5 + 3, none⟩ = false) ∧ (∀ w5, New w1 w5 → w5.frozen? ⟨g, i * 5 + 4, none⟩ = false) ∧ (i : Int) < (n : Int) ∧ n ≤ 64 ∧
          ∀ w5, New w1 w5 → RP (rlayW w5 g i (L s)) (m + 1) p g c q G (T.setF i (laid (T.fm i) x (L s))) ∧ Step (rown p g G) (rown p g G) w (rlayW w5 g i (L s))) := fun w1 hw1 => by
        subst hw1
        refine rlay_facts (T := T) (q := q) P.row P.pl (by rw [List.length_map]; exact hi) (List.length_map ..) P.inv.most hes (fun w2 hp ⟨w5, n5, hb5⟩ => ?_) (Step.refl _ _)
        rw [← rfL_laid (f := T.fm i) hne] at hp
        refine (P.after n5).frame hb5 hp (P.inv.relay hi hfull (by show x = _; omega) hlen) (fun f2 hf2 => ?_) ?_
        · rcases set_mem hf2 with h | rfl
          · have := P.pins f2 h; omega
          · have := P.pins _ (T.fm_mem hi); show (T.fm i).pins ≤ m + 1; omega
        · have := P.room; have := nd_le (f := laid (T.fm i) x (L s)) hi; omega
      obtain ⟨TT, hTT⟩ : ∃ TT, TT = T.setF i (laid (T.fm i) x (L s)) := ⟨_, rfl⟩
      rw [← hTT] at HE HFacts
      obtain ⟨G1, hG1⟩ : ∃ G1, G1 = G := ⟨_, rfl⟩
      have HFacts2 : Hid (∀ w1, w1 = w → ∃ (n : Nat) (v1 v3 v4 : Value), w1.cell? ⟨p, 1, none⟩ = some (.slice (some ⟨g, 0, none⟩) n c) ∧ w1.cell? ⟨g, i * 5 + 1, none⟩ = some v1 ∧ w1.cell? ⟨g, i * 5 + 3, none⟩ = some v3 ∧ w1.cell? ⟨g, i * 5 + 4, none⟩ = some v4 ∧
          (∀ w5, New w1 w5 → w5.frozen? ⟨g, i * 5 + 1, none⟩ = false) ∧ (∀ w5, New w1 w5 → w5.frozen? ⟨g, i * 5 + 3, none⟩ = false) ∧ (∀ w5, New w1 w5 → w5.frozen? ⟨g, i * 5 + 4, none⟩ = false) ∧ (i : Int) < (n : Int) ∧ n ≤ 64 ∧
          ∀ w5, New w1 w5 → RP (rlayW w5 g i (L s)) (m + 1) p g c q G1 TT ∧ Step (rown p g G) (rown p g G1) w (rlayW w5 g i (L s))) := by rw [hG1]; exact HFacts.out
      generalize T.d.ps.length = nn at h3 d1
      have HPG : Hid (p ≠ g) := P.pg
      clear P hix hi hfull hat hb h1 hes hTT hG1 HFacts hlen hne
      go_enter Tryd.func20, Tryd.ntmps20
      go_wp2_with fail
      refine hhas.mono ?_
      rintro _ w1 ⟨rfl, hw1⟩
      have HFF : Hid (∃ (n : Nat) (v1 v3 v4 : Value), w1.cell? ⟨p, 1, none⟩ = some (.slice (some ⟨g, 0, none⟩) n c) ∧ w1.cell? ⟨g, i * 5 + 1, none⟩ = some v1 ∧ w1.cell? ⟨g, i * 5 + 3, none⟩ = some v3 ∧ w1.cell? ⟨g, i * 5 + 4, none⟩ = some v4 ∧
          (∀ w5, New w1 w5 → w5.frozen? ⟨g, i * 5 + 1, none⟩ = false) ∧ (∀ w5, New w1 w5 → w5.frozen? ⟨g, i * 5 + 3, none⟩ = false) ∧ (∀ w5, New w1 w5 → w5.frozen? ⟨g, i * 5 + 4, none⟩ = false) ∧ (i : Int) < (n : Int) ∧ n ≤ 64 ∧
          ∀ w5, New w1 w5 → RP (rlayW w5 g i (L s)) (m + 1) p g c q G1 TT ∧ Step (rown p g G) (rown p g G1) w (rlayW w5 g i (L s))) := HFacts2.out w1 hw1
      clear hhas HFacts2 c0 d1 hw1
      obtain ⟨n, v1, v3, v4, c1, k1, k3, k4, z1, z3, z4, hi2, h64, HG'⟩ := HFF.out
      have HG : Hid (∀ w5, New w1 w5 → RP (rlayW w5 g i (L s)) (m + 1) p g c q G1 TT ∧ Step (rown p g G) (rown p g G1) w (rlayW w5 g i (L s))) := HG'
      have hpg : p ≠ g := HPG.out
      have q0 : ∀ q' : CellW ⟨p, 1, none⟩ (.slice (some ⟨g, 0, none⟩) n c), q'.v.cell? ⟨p, 1, none⟩ = some (.slice (some ⟨g, 0, none⟩) n c) := fun q' => q'.h
      have hne : Nonempty (CellW ⟨p, 1, none⟩ (.slice (some ⟨g, 0, none⟩) n c)) := ⟨⟨w1, c1⟩⟩
      clear HG'
      unfold rlayW at HG
      rw [bs_L] at HG
      go_wp2_with fail
      refine region_segs [([0, 1, 2, 3, 4, 5, 6, 7, 8, 9, 10, 11, 12, 13, 14, 15, 16, 17], 18), ([19, 20], 21), ([22, 23], 24)] (HasCell ⟨p, 1, none⟩ (.slice (some ⟨g, 0, none⟩) n c)) (HasCell.of (((New.drew w1).cell (World.block_lt_of_cell? _ _ c1)).trans c1)) (by kernel_rfl) (by kernel_rfl) (fun d _ _ _ _ h => by cases d <;> exact h) ?_
      have n5 := New.drew w1
      generalize w1.drew = w5 at n5 ⊢
      unfold wpSegs HasCell
      simp only [pick, List.getElem?_cons_succ, List.getElem?_cons_zero, Option.toList_some, List.cons_append, List.nil_append]
      iterate 18 (go_big_quiet_step (fail))
      refine wpQuiet_nil ?_
      have k0 := (n5.cell (World.block_lt_of_cell? _ _ c1)).trans c1
      have k1 := (n5.cell (World.block_lt_of_cell? _ _ k1)).trans k1
      have k3 := (n5.cell (World.block_lt_of_cell? _ _ k3)).trans k3
      have k4 := (n5.cell (World.block_lt_of_cell? _ _ k4)).trans k4
      have z1 := z1 w5 n5
      have z3 := z3 w5 n5
      have z4 := z4 w5 n5
      obtain ⟨x1, x2⟩ := HG.out w5 n5
      have HF : Hid (RPL p g c q G (m + 1) w TT (((w5.setCell ⟨g, i * 5 + 1, none⟩ (.string s)).setCell ⟨g, i * 5 + 3, none⟩ (.bool true)).setCell ⟨g, i * 5 + 4, none⟩ (.bool true))) := ⟨G1, x1, x2⟩
      clear c1 HG x1 x2
      refine wpOp_store1 9 (.tmp 68) (.tmp 66) (by rfl) (by rfl) (by rfl) (by rfl) g (i * 5 + 1) (by go_simp) (.string s) (by go_simp) (by rfl) (by rfl) k1 z1 ⟨⟨⟨_, set_past k0 (adr_ne hpg)⟩, rfl⟩, ?_⟩
      have k0 := set_past (a := ⟨g, i * 5 + 1, none⟩) (v := .string s) k0 (adr_ne hpg)
      have k3 := set_past (a := ⟨g, i * 5 + 1, none⟩) (v := .string s) k3 (adr_off (by omega))
      have k4 := set_past (a := ⟨g, i * 5 + 1, none⟩) (v := .string s) k4 (adr_off (by omega))
      have z3 := set_fz (a := ⟨g, i * 5 + 1, none⟩) (v := (.string s)) z3
      have z4 := set_fz (a := ⟨g, i * 5 + 1, none⟩) (v := (.string s)) z4
      clear k1 z1
      generalize w5.setCell ⟨g, i * 5 + 1, none⟩ (.string s) = w6 at *
      unfold wpSegs
      simp only [pick, List.getElem?_cons_succ, List.getElem?_cons_zero, Option.toList_some, List.cons_append, List.nil_append]
      iterate 2 (go_big_quiet_step (fail))
      refine wpQuiet_nil ?_
      refine wpOp_store1 4 (.tmp 70) (.const (.bool true)) (by rfl) (by rfl) (by rfl) (by rfl) g (i * 5 + 3) (by go_simp) (.bool true) (by go_simp) (by rfl) (by rfl) k3 z3 ⟨⟨⟨_, set_past k0 (adr_ne hpg)⟩, rfl⟩, ?_⟩
      have k0 := set_past (a := ⟨g, i * 5 + 3, none⟩) (v := .bool true) k0 (adr_ne hpg)
      have k4 := set_past (a := ⟨g, i * 5 + 3, none⟩) (v := .bool true) k4 (adr_off (by omega))
      have z4 := set_fz (a := ⟨g, i * 5 + 3, none⟩) (v := (.bool true)) z4
      clear k3 z3
      generalize w6.setCell ⟨g, i * 5 + 3, none⟩ (.bool true) = w7 at *
      unfold wpSegs
      simp only [pick, List.getElem?_cons_succ, List.getElem?_cons_zero, Option.toList_some, List.cons_append, List.nil_append]
      iterate 2 (go_big_quiet_step (fail))
      refine wpQuiet_nil ?_
      refine wpOp_store1 4 (.tmp 72) (.const (.bool true)) (by rfl) (by rfl) (by rfl) (by rfl) g (i * 5 + 4) (by go_simp) (.bool true) (by go_simp) (by rfl) (by rfl) k4 z4 ⟨⟨⟨_, set_past k0 (adr_ne hpg)⟩, rfl⟩, ?_⟩
      clear k0 k4 z4
      unfold wpSegs
      go_wp2_with fail
      go_ret
      rw [HE.out]
      exact ⟨rfl, HF.out⟩
    | none =>
      rw [idxZ_none hix] at hhas
      have hF := rfind_any P hm
      by_cases he : T.find.e = 0
      · have fo := find_ok P.inv he
        have HE : Hid (T.put (x : Int) (L s) = (0, T.find.S.setF T.find.i (laid (T.find.S.fm T.find.i) x (L s)))) := by show T.put _ _ = _; rw [PS.put_new hb hix he, lay_eq]
        have hfi : T.find.i < T.find.S.fs.length := by rw [fo.len]; exact fo.lt
        have hxl : x < T.find.S.d.ps.length := by rw [fo.ps]; omega
        have hni := fo.none _ hix
        have hno : ∀ w1 G1, RP w1 m p g c q G1 T.find.S → T.find.S.fm T.find.i = noFm := fun w1 G1 P1 => by
          have h4 := fo.empty
          rw [keys_at hfi] at h4
          have h5 : (T.find.S.fm T.find.i).key = none := by injection h4
          exact P1.inv.none _ (PS.fm_mem hfi) (key_none h5)
        have HFacts : Hid (∀ w0 G1 w1, RP w0 m p g c q G1 T.find.S → Step (rown p g G) (rown p g G1) w w0 → Pl w1 (fun x => x = g) 97 5 (.slice (some ⟨g, 0, none⟩) T.find.S.fs.length c) ((T.find.S.fs.map rfL).set T.find.i (rawL (x : Int) [] 0 false false)) → But g w0 w1 → ∃ (n : Nat) (v1 v3 v4 : Value), w1.cell? ⟨p, 1, none⟩ = some (.slice (some ⟨g, 0, none⟩) n c) ∧ w1.cell? ⟨g, T.find.i * 5 + 1, none⟩ = some v1 ∧ w1.cell? ⟨g, T.find.i * 5 + 3, none⟩ = some v3 ∧ w1.cell? ⟨g, T.find.i * 5 + 4, none⟩ = some v4 ∧
            (∀ w5, New w1 w5 → w5.frozen? ⟨g, T.find.i * 5 + 1, none⟩ = false) ∧ (∀ w5, New w1 w5 → w5.frozen? ⟨g, T.find.i * 5 + 3, none⟩ = false) ∧ (∀ w5, New w1 w5 → w5.frozen? ⟨g, T.find.i * 5 + 4, none⟩ = false) ∧ (T.find.i : Int) < (n : Int) ∧ n ≤ 64 ∧
            ∀ w5, New w1 w5 → RP (rlayW w5 g T.find.i (L s)) (m + 1) p g c q G1 (T.find.S.setF T.find.i (laid (T.find.S.fm T.find.i) x (L s))) ∧ Step (rown p g G) (rown p g G1) w (rlayW w5 g T.find.i (L s))) := fun w0 G1 w1 P0 s0 hp hb1 => by
          refine rlay_facts (T := T.find.S) (q := q) (P0.row.of (hb1.block p P0.pg)) hp (by rw [List.length_set, List.length_map]; exact hfi) (by rw [List.length_set, List.length_map]) P0.inv.most (by rw [List.getElem_set_self]) (fun w2 hp2 ⟨w5, n5, hb5⟩ => ?_) (s0.trans (hb1.step (.inr (.inl rfl))))
          rw [List.set_set] at hp2
          have hrf : rawL (x : Int) (L s) 0 true true = rfL (laid (T.find.S.fm T.find.i) x (L s)) := by rw [rfL_laid hne, hno w0 G1 P0]; rfl
          rw [hrf] at hp2
          have R5 := (P0.row.of (hb1.block p P0.pg)).after n5
          have D5 := (P0.disk.of (w' := w1) (fun y hy => hb1.block y (fun e2 => P0.ng (e2 ▸ hy))) (by rw [hb1.size]; exact Nat.le_refl _)).after n5
          refine P0.make (T' := T.find.S.setF T.find.i (laid (T.find.S.fm T.find.i) x (L s))) (P0.inv.come hfi (f := laid (T.find.S.fm T.find.i) x (L s)) hlen hxl hni rfl rfl P0.inv.hand) (setF_len _ _ _) (R5.of (hb5.block p P0.pg)) (by show Pl w2 _ 97 5 _ ((T.find.S.fs.set _ _).map rfL); rw [List.map_set]; exact hp2) (D5.of (fun y hy => hb5.block y (fun e2 => P0.ng (e2 ▸ hy))) (by rw [hb5.size]; exact Nat.le_refl _)) P0.np P0.ng (fun f2 hf2 => ?_) ?_
          · rcases set_mem hf2 with h | rfl
            · have := P0.pins f2 h; omega
            · show (T.find.S.fm T.find.i).pins ≤ m + 1; rw [hno w0 G1 P0]; exact Nat.zero_le _
          · have h4 := P0.room
            have h5 := nd_le (f := laid (T.find.S.fm T.find.i) x (L s)) hfi
            show T.find.S.d.ws.length + nd (T.find.S.fs.set _ _) ≤ m + 1
            omega
        have hV : FoundV T.find = .tuple #[.int .i64 (T.find.i : Int), .int .i64 0] := by unfold FoundV; rw [he]
        rw [hV] at hF
        have h64f : T.find.S.fs.length ≤ 64 := by rw [fo.len]; exact P.inv.most
        generalize T.find = fd at hF HE HFacts hfi h64f
        obtain ⟨i, hi⟩ : ∃ i, fd.i = i := ⟨_, rfl⟩
        rw [hi] at hF HE HFacts hfi
        obtain ⟨nf, hnf⟩ : ∃ nf, fd.S.fs.length = nf := ⟨_, rfl⟩
        rw [hnf] at hfi h64f
        have HNF : Hid (fd.S.fs.length = nf) := hnf
        obtain ⟨TT, hTT⟩ : ∃ TT, TT = fd.S.setF i (laid (fd.S.fm i) x (L s)) := ⟨_, rfl⟩
        rw [← hTT] at HE HFacts
        generalize T.d.ps.length = nn at h3 d1
        have HPG : Hid (p ≠ g) := P.pg
        clear P hix fo hxl hni hno hV hb h1 hTT hi hnf hlen hne he
        go_enter Tryd.func20, Tryd.ntmps20
        go_wp2_with fail
        refine hhas.mono ?_
        rintro _ w ⟨rfl, rfl⟩
        go_wp2_with fail
        refine hF.mono ?_
        rintro _ w0 ⟨rfl, G1, P0, s0⟩
        have cc : w0.cell? ⟨p, 1, none⟩ = some (.slice (some ⟨g, 0, none⟩) nf c) := by have := P0.row.cell 1; rw [HNF.out] at this; exact this
        have HPL : Hid (Pl w0 (fun x => x = g) 97 5 (.slice (some ⟨g, 0, none⟩) nf c) (fd.S.fs.map rfL) ∧ i < (fd.S.fs.map rfL).length) := ⟨by have := P0.pl; rw [HNF.out] at this; exact this, by rw [List.length_map, HNF.out]; exact hfi⟩
        have HFF : Hid (∀ w1, Pl w1 (fun x => x = g) 97 5 (.slice (some ⟨g, 0, none⟩) nf c) ((fd.S.fs.map rfL).set i (rawL (x : Int) [] 0 false false)) → But g w0 w1 → ∃ (n : Nat) (v1 v3 v4 : Value), w1.cell? ⟨p, 1, none⟩ = some (.slice (some ⟨g, 0, none⟩) n c) ∧ w1.cell? ⟨g, i * 5 + 1, none⟩ = some v1 ∧ w1.cell? ⟨g, i * 5 + 3, none⟩ = some v3 ∧ w1.cell? ⟨g, i * 5 + 4, none⟩ = some v4 ∧
            (∀ w5, New w1 w5 → w5.frozen? ⟨g, i * 5 + 1, none⟩ = false) ∧ (∀ w5, New w1 w5 → w5.frozen? ⟨g, i * 5 + 3, none⟩ = false) ∧ (∀ w5, New w1 w5 → w5.frozen? ⟨g, i * 5 + 4, none⟩ = false) ∧ (i : Int) < (n : Int) ∧ n ≤ 64 ∧
            ∀ w5, New w1 w5 → RP (rlayW w5 g i (L s)) (m + 1) p g c q G1 TT ∧ Step (rown p g G) (rown p g G1) w (rlayW w5 g i (L s))) := fun w1 hp hb => HFacts.out w0 G1 w1 P0 s0 (by rw [HNF.out]; exact hp) hb
        clear P0 s0 hF hhas HFacts c0 d1
        go_wp2_with (first | (refine wpList_build1 (by rfl) _ _ (by rfl) _ (by rfl) _ (built97a _) ?_) | (refine wpList_store_pl (by rfl) _ _ _ (by rfl) _ 97 5 g nf c i _ (rawL (x : Int) [] 0 false false) HPL.out.1 HPL.out.2 (by rfl) (by rfl) rfl i97 (rawL_one _ _ _ _ _) ?_; rintro w1 P7 B7))
        obtain ⟨n, v1, v3, v4, c1, k1, k3, k4, z1, z3, z4, hi2, h64, HG'⟩ := HFF.out w1 P7 B7
        have HG : Hid (∀ w5, New w1 w5 → RP (rlayW w5 g i (L s)) (m + 1) p g c q G1 TT ∧ Step (rown p g G) (rown p g G1) w (rlayW w5 g i (L s))) := HG'
        have hpg : p ≠ g := HPG.out
        have q0 : ∀ q' : CellW ⟨p, 1, none⟩ (.slice (some ⟨g, 0, none⟩) n c), q'.v.cell? ⟨p, 1, none⟩ = some (.slice (some ⟨g, 0, none⟩) n c) := fun q' => q'.h
        have hne : Nonempty (CellW ⟨p, 1, none⟩ (.slice (some ⟨g, 0, none⟩) n c)) := ⟨⟨w1, c1⟩⟩
        clear HG'
        unfold rlayW at HG
        rw [bs_L] at HG
        go_wp2_with fail
        refine region_segs [([0, 1, 2, 3, 4, 5, 6, 7, 8, 9, 10, 11, 12, 13, 14, 15, 16, 17], 18), ([19, 20], 21), ([22, 23], 24)] (HasCell ⟨p, 1, none⟩ (.slice (some ⟨g, 0, none⟩) n c)) (HasCell.of (((New.drew w1).cell (World.block_lt_of_cell? _ _ c1)).trans c1)) (by kernel_rfl) (by kernel_rfl) (fun d _ _ _ _ h => by cases d <;> exact h) ?_
        have n5 := New.drew w1
        generalize w1.drew = w5 at n5 ⊢
        unfold wpSegs HasCell
        simp only [pick, List.getElem?_cons_succ, List.getElem?_cons_zero, Option.toList_some, List.cons_append, List.nil_append]
        iterate 18 (go_big_quiet_step (fail))
        refine wpQuiet_nil ?_
        have k0 := (n5.cell (World.block_lt_of_cell? _ _ c1)).trans c1
        have k1 := (n5.cell (World.block_lt_of_cell? _ _ k1)).trans k1
        have k3 := (n5.cell (World.block_lt_of_cell? _ _ k3)).trans k3
        have k4 := (n5.cell (World.block_lt_of_cell? _ _ k4)).trans k4
        have z1 := z1 w5 n5
        have z3 := z3 w5 n5
        have z4 := z4 w5 n5
        obtain ⟨x1, x2⟩ := HG.out w5 n5
        have HF : Hid (RPL p g c q G (m + 1) w TT (((w5.setCell ⟨g, i * 5 + 1, none⟩ (.string s)).setCell ⟨g, i * 5 + 3, none⟩ (.bool true)).setCell ⟨g, i * 5 + 4, none⟩ (.bool true))) := ⟨G1, x1, x2⟩
        clear c1 HG x1 x2
        refine wpOp_store1 9 (.tmp 68) (.tmp 66) (by rfl) (by rfl) (by rfl) (by rfl) g (i * 5 + 1) (by go_simp) (.string s) (by go_simp) (by rfl) (by rfl) k1 z1 ⟨⟨⟨_, set_past k0 (adr_ne hpg)⟩, rfl⟩, ?_⟩
        have k0 := set_past (a := ⟨g, i * 5 + 1, none⟩) (v := .string s) k0 (adr_ne hpg)
        have k3 := set_past (a := ⟨g, i * 5 + 1, none⟩) (v := .string s) k3 (adr_off (by omega))
        have k4 := set_past (a := ⟨g, i * 5 + 1, none⟩) (v := .string s) k4 (adr_off (by omega))
        have z3 := set_fz (a := ⟨g, i * 5 + 1, none⟩) (v := (.string s)) z3
        have z4 := set_fz (a := ⟨g, i * 5 + 1, none⟩) (v := (.string s)) z4
        clear k1 z1
        generalize w5.setCell ⟨g, i * 5 + 1, none⟩ (.string s) = w6 at *
        unfold wpSegs
        simp only [pick, List.getElem?_cons_succ, List.getElem?_cons_zero, Option.toList_some, List.cons_append, List.nil_append]
        iterate 2 (go_big_quiet_step (fail))
        refine wpQuiet_nil ?_
        refine wpOp_store1 4 (.tmp 70) (.const (.bool true)) (by rfl) (by rfl) (by rfl) (by rfl) g (i * 5 + 3) (by go_simp) (.bool true) (by go_simp) (by rfl) (by rfl) k3 z3 ⟨⟨⟨_, set_past k0 (adr_ne hpg)⟩, rfl⟩, ?_⟩
        have k0 := set_past (a := ⟨g, i * 5 + 3, none⟩) (v := .bool true) k0 (adr_ne hpg)
        have k4 := set_past (a := ⟨g, i * 5 + 3, none⟩) (v := .bool true) k4 (adr_off (by omega))
        have z4 := set_fz (a := ⟨g, i * 5 + 3, none⟩) (v := (.bool true)) z4
        clear k3 z3
        generalize w6.setCell ⟨g, i * 5 + 3, none⟩ (.bool true) = w7 at *
        unfold wpSegs
        simp only [pick, List.getElem?_cons_succ, List.getElem?_cons_zero, Option.toList_some, List.cons_append, List.nil_append]
        iterate 2 (go_big_quiet_step (fail))
        refine wpQuiet_nil ?_
        refine wpOp_store1 4 (.tmp 72) (.const (.bool true)) (by rfl) (by rfl) (by rfl) (by rfl) g (i * 5 + 4) (by go_simp) (.bool true) (by go_simp) (by rfl) (by rfl) k4 z4 ⟨⟨⟨_, set_past k0 (adr_ne hpg)⟩, rfl⟩, ?_⟩
        clear k0 k4 z4
        unfold wpSegs
        go_wp2_with fail
        go_ret
        rw [HE.out]
        exact ⟨rfl, HF.out⟩
      · have HE : Hid (T.put (x : Int) (L s) = (T.find.e, T.find.S)) := PS.put_no hb hix he
        obtain ⟨z, hz⟩ : ∃ z, T.find.e = z := ⟨_, rfl⟩
        have hV : FoundV T.find = .tuple #[.int .i64 (T.find.i : Int), .int .i64 z] := by unfold FoundV; rw [hz]
        rw [hV] at hF
        rw [hz] at HE he
        generalize T.find = fd at hF HE
        generalize T.d.ps.length = nn at h3 d1
        clear P hix hV hb h1 hz hlen hne
        go_enter Tryd.func20, Tryd.ntmps20
        go_wp2_with fail
        refine hhas.mono ?_
        rintro _ w ⟨rfl, rfl⟩
        go_wp2_with fail
        refine hF.mono ?_
        rintro _ w1 ⟨rfl, G1, P1, s1⟩
        go_wp2_with fail
        go_ret
        rw [HE.out]
        exact ⟨rfl, G1, P1.mono (Nat.le_succ m), s1⟩
end Go.Proofs.YtkcoclpbkealgaaDoor
