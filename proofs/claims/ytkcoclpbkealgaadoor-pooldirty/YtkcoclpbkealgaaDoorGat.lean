/-
  PoolDirty, walked. PoolDirty, walked.
-/
import Derived.Test.YtkcoclpbkealgaaDoorGas
namespace Go.Proofs.YtkcoclpbkealgaaDoor
open Go.RowKit
set_option maxRecDepth 40000

/-- What each page is: v where it was put, else nought. -/
def gD (v : UInt8) (ins : List Bool) (a : Nat) : List UInt8 := if ins.getD a false then goodL a v else goodL a 0
/-- A pool of eight frames over eight pages, into which was put. -/
structure DS (S : PS) (v : UInt8) (ins : List Bool) : Prop where
  cur : Cur S (gD v ins)
  eight : S.d.ps.length = 8
  ws : S.d.ws = []
  len : S.fs.length = 8
  zero : ∀ j, (S.fm j).pins = 0
  has : ∀ a : Nat, (∃ j : Nat, (keys S.fs)[j]? = some (some a)) ↔ ins.getD a false = true
  dirty : ∀ j, j < 8 → (S.fm j).data ≠ [] → (S.fm j).dirty = true
theorem gD_right (v : UInt8) (ins : List Bool) (a : Nat) : rightB (gD v ins a) = true := by unfold gD; split <;> exact goodL_right _ _
theorem gD_length (v : UInt8) (ins : List Bool) (a : Nat) : (gD v ins a).length = 256 := by unfold gD; split <;> exact goodL_length _ _
theorem DS.start {d : St} {v : UInt8} (hd : d = ⟨8, pagesL (List.replicate 8 0), [], -1, false⟩) : DS (startP d 8) v (List.replicate 8 false) := by
  subst hd
  have hno : ∀ j, (startP ⟨8, pagesL (List.replicate 8 0), [], -1, false⟩ 8).fm j = noFm := fun j => by
    show (List.replicate 8 noFm).getD j noFm = noFm
    rw [List.getD_eq_getElem?_getD, List.getElem?_replicate]
    split <;> rfl
  have hin : ∀ a, (List.replicate 8 false).getD a false = false := fun a => by rw [List.getD_eq_getElem?_getD, List.getElem?_replicate]; split <;> rfl
  refine ⟨⟨rfl, rfl, fun j _ hd => absurd (by rw [hno j]; rfl) hd, fun j _ hd => absurd (by rw [hno j]; rfl) hd, fun a ha _ => ?_⟩, by show (pagesL (List.replicate 8 0)).length = 8; rw [pagesL_length]; rfl, rfl, List.length_replicate, fun j => by rw [hno j]; rfl, fun a => ?_, fun j _ hd => absurd (by rw [hno j]; rfl) hd⟩
  · have ha9 : a < 8 := by have : a < (pagesL (List.replicate 8 0)).length := ha; rw [pagesL_length] at this; exact this
    show (latest (pagesL (List.replicate 8 0)) []).getD a [] = _
    have : latest (pagesL (List.replicate 8 0)) [] = pagesL (List.replicate 8 0) := rfl
    rw [this, pagesL_get (by exact ha9)]
    have h0 : (List.replicate 8 (0 : UInt8)).getD a 0 = 0 := by rw [List.getD_eq_getElem?_getD, List.getElem?_replicate]; split <;> rfl
    rw [h0]
    unfold pgL gD
    rw [if_pos (by decide), hin, if_neg (by decide)]
  · rw [hin]
    constructor
    · rintro ⟨j, hj⟩
      have : (keys (List.replicate 8 noFm))[j]? = some (some a) := hj
      rw [keys_start] at this
      exact absurd (List.mem_replicate.1 (List.mem_of_getElem? this)).2 (by simp)
    · intro h; cases h
theorem few_below : ∀ (n : Nat) (l : List Nat), l.Nodup → (∀ x ∈ l, x < n) → l.length ≤ n
  | 0, [], _, _ => Nat.le_refl _
  | 0, a :: _, _, h => absurd (h a (by simp)) (by omega)
  | n + 1, l, hn, h => by
    by_cases hm : n ∈ l
    · have ih := few_below n (l.erase n) (hn.erase n) (fun x hx => by
        have h1 := h x (List.mem_of_mem_erase hx)
        have h2 : x ≠ n := fun e => by subst e; exact hn.not_mem_erase hx
        omega)
      rw [List.length_erase_of_mem hm] at ih
      omega
    · have ih := few_below n l hn (fun x hx => by
        have h1 := h x hx
        have h2 : x ≠ n := fun e => hm (e ▸ hx)
        omega)
      omega
/-- Eight frames have room for eight pages. -/
theorem DS.free {S : PS} {v : UInt8} {ins : List Bool} (h : DS S v ins) (hI : Inv S) {a : Nat} (ha : a < 8) (hix : idx (a : Int) (keys S.fs) = none) : ∃ i, freeAt (keys S.fs) = some i := by
  cases hf : freeAt (keys S.fs) with
  | some i => exact ⟨i, rfl⟩
  | none =>
    exfalso
    -- all eight frames are full: eight pages below eight, a not among them
    have hfull : ∀ j, j < 8 → ∃ x, (keys S.fs)[j]? = some (some x) ∧ x < 8 := fun j hj => by
      have hjl : j < S.fs.length := by rw [h.len]; exact hj
      have h1 := freeAt_none hf j
      rw [keys_at hjl] at h1 ⊢
      cases hk : (S.fs.getD j noFm).key with
      | none => rw [hk] at h1; exact absurd rfl h1
      | some x =>
        obtain ⟨h2, h3⟩ := key_some hk
        have h4 := hI.in_ _ (getD_mem hjl) h2
        rw [h.eight] at h4
        exact ⟨x, rfl, by omega⟩
    have hnd := nodup_some hI.apart
    have hlen : ((keys S.fs).filterMap id).length = 8 := by
      have hall : ∀ o ∈ keys S.fs, (id o : Option Nat).isSome = true := fun o ho => by
        obtain ⟨j, hj⟩ := List.mem_iff_getElem?.1 ho
        obtain ⟨x, hx, _⟩ := hfull j (by have := (List.getElem?_eq_some_iff.1 hj).1; rw [keys_length, h.len] at this; exact this)
        rw [hx] at hj
        have : o = some x := by injection hj with e; exact e.symm
        rw [this]; rfl
      rw [List.length_filterMap_eq_countP, List.countP_eq_length.2 hall, keys_length, h.len]
    have := few_below 8 (a :: (keys S.fs).filterMap id) (List.nodup_cons.2 ⟨fun hm => by
        obtain ⟨j, hj⟩ := mem_held.1 (show a ∈ held S.fs from hm)
        exact idx_none hix j a hj rfl, hnd⟩) fun x hx => by
      rcases List.mem_cons.1 hx with rfl | hx
      · exact ha
      · obtain ⟨j, hj⟩ := mem_held.1 (show x ∈ held S.fs from hx)
        obtain ⟨y, hy, hy8⟩ := hfull j (by have := (List.getElem?_eq_some_iff.1 hj).1; rw [keys_length, h.len] at this; exact this)
        rw [hy] at hj
        have : y = x := by injection hj with e; injection e
        omega
    rw [List.length_cons, hlen] at this
    omega
theorem getD_set_bool {l : List Bool} {a : Nat} (ha : a < l.length) (b : Nat) : (l.set a true).getD b false = (decide (b = a) || l.getD b false) := by
  by_cases e : b = a
  · subst e; rw [List.getD_eq_getElem?_getD, List.getElem?_set_self ha, decide_eq_true rfl]; rfl
  · rw [List.getD_eq_getElem?_getD, List.getElem?_set_ne (fun h => e h.symm), decide_eq_false e, List.getD_eq_getElem?_getD]; rfl
theorem DS.put {S : PS} {v : UInt8} {ins : List Bool} (h : DS S v ins) (hI : Inv S) (hl : ins.length = 8) {a : Nat} (ha : a < 8) : ∃ S1, S.put (a : Int) (goodL a v) = (0, S1) ∧ DS S1 v (ins.set a true) := by
  have hne : goodL a v ≠ [] := goodL_ne a v
  have hb : ¬ ((goodL a v).length ≠ 256 ∨ (a : Int) < 0 ∨ (S.d.ps.length : Int) ≤ (a : Int)) := by rw [goodL_length, h.eight]; omega
  have pg := put_good hI h.cur (a := a) (by rw [h.eight]; exact ha) (goodL_length a v) (fun _ => ⟨0, by rw [h.len]; omega, h.zero 0⟩)
  have hG : upd (gD v ins) a (goodL a v) = gD v (ins.set a true) := by
    funext b
    unfold upd gD
    rw [getD_set_bool (by omega)]
    by_cases e : b = a
    · subst e; rw [if_pos rfl, decide_eq_true rfl]; rfl
    · rw [if_neg e, decide_eq_false e]; rfl
  -- one frame is laid
  obtain ⟨i, hi8, e, hk⟩ : ∃ i, i < 8 ∧ S.put (a : Int) (goodL a v) = (0, S.setF i (laid (S.fm i) a (goodL a v))) ∧ ((keys S.fs)[i]? = some none ∨ (keys S.fs)[i]? = some (some a)) := by
    cases hix : idx (a : Int) (keys S.fs) with
    | some i =>
      obtain ⟨h1, h2, h3⟩ := idx_full hix
      obtain ⟨x, h4, h5⟩ := idx_at hix
      have hx : x = a := by omega
      subst hx
      exact ⟨i, by rw [h.len] at h1; exact h1, by rw [PS.put_hit hb hix, lay_eq], .inr h4⟩
    | none =>
      obtain ⟨i, hi⟩ := h.free hI ha hix
      have hf := PS.find_free hi
      obtain ⟨h1, h2⟩ := freeAt_some hi
      rw [keys_length, h.len] at h1
      exact ⟨i, h1, by rw [PS.put_new hb hix (by rw [hf]), hf, lay_eq], .inl h2⟩
  have hil : i < S.fs.length := by rw [h.len]; exact hi8
  refine ⟨_, e, ?_⟩
  have hcur := pg.cur
  rw [e, hG] at hcur
  have hkk : keys (S.setF i (laid (S.fm i) a (goodL a v))).fs = (keys S.fs).set i (some a) := by
    show keys (S.fs.set _ _) = _; rw [keys_set, key_of (f := laid (S.fm i) a (goodL a v)) hne]; rfl
  refine ⟨hcur, h.eight, h.ws, (setF_len _ _ _).trans h.len, fun j => ?_, fun b => ?_, fun j hj hd => ?_⟩
  · by_cases ej : i = j
    · subst ej; rw [setF_fm_same hil]; exact h.zero i
    · rw [setF_fm_other ej]; exact h.zero j
  · rw [hkk, getD_set_bool (by omega), Bool.or_eq_true, decide_eq_true_eq, ← h.has b]
    constructor
    · rintro ⟨j, hj⟩
      by_cases ej : i = j
      · subst ej; rw [List.getElem?_set_self (by rw [keys_length]; exact hil)] at hj
        injection hj with e1; injection e1 with e1; exact .inl e1.symm
      · rw [List.getElem?_set_ne ej] at hj; exact .inr ⟨j, hj⟩
    · rintro (rfl | ⟨j, hj⟩)
      · exact ⟨i, List.getElem?_set_self (by rw [keys_length]; exact hil)⟩
      · by_cases ej : i = j
        · subst ej
          rcases hk with hk | hk
          · rw [hk] at hj; cases hj
          · rw [hk] at hj
            injection hj with e1; injection e1 with e1
            exact ⟨i, by rw [List.getElem?_set_self (by rw [keys_length]; exact hil), e1]⟩
        · exact ⟨j, by rw [List.getElem?_set_ne ej]; exact hj⟩
  · by_cases ej : i = j
    · subst ej; rw [setF_fm_same hil]; rfl
    · rw [setF_fm_other ej] at hd ⊢; exact h.dirty j hj hd
/-- The pages that were put, rising. -/
def insL (ins : List Bool) : List Nat := (List.range 8).filter (fun a => ins.getD a false)
theorem insL_take (ins : List Bool) (k : Nat) : ((List.range (k + 1)).filter (fun a => ins.getD a false)) = ((List.range k).filter (fun a => ins.getD a false)) ++ (if ins.getD k false then [k] else []) := by
  rw [List.range_succ, List.filter_append]
  congr 1
  cases h : ins.getD k false
  · rw [List.filter_cons, h]; rfl
  · rw [List.filter_cons, h]; rfl
theorem sorted_of {l m : List Nat} (hp : l.Perm m) (hm : m.Pairwise (fun a b => a ≤ b)) : sorted l = m := by
  unfold sorted
  refine List.Perm.eq_of_pairwise (fun _ _ _ _ x y => Nat.le_antisymm x y) ?_ hm ((List.mergeSort_perm _ _).trans hp)
  have h := List.pairwise_mergeSort (le := fun (x y : Nat) => decide (x ≤ y)) (fun a b c => by simp; omega) (fun a b => by simp; omega) l
  exact h.imp fun h => of_decide_eq_true h
theorem DS.dirties {S : PS} {v : UInt8} {ins : List Bool} (h : DS S v ins) (hI : Inv S) (hl : ins.length = 8) : sorted (YtkcoclpbkealgaaDoor.dirties S.fs) = insL ins := by
  refine sorted_of ?_ ?_
  · refine (List.perm_ext_iff_of_nodup ((nodup_some hI.apart).sublist (dirties_sub hI.dirty_full)) ((List.nodup_range).filter _)).2 fun a => ?_
    rw [List.mem_filter, List.mem_range, ← h.has a]
    constructor
    · intro hm
      have := (dirties_sub hI.dirty_full).subset hm
      obtain ⟨j, hj⟩ := mem_held.1 this
      refine ⟨?_, j, hj⟩
      have h2 := (h.has a).1 ⟨j, hj⟩
      by_cases ha : a < 8
      · exact ha
      · rw [List.getD_eq_getElem?_getD, List.getElem?_eq_none (by omega)] at h2; cases h2
    · rintro ⟨_, j, hj⟩
      have hjl : j < S.fs.length := by have := (List.getElem?_eq_some_iff.1 hj).1; rw [keys_length] at this; exact this
      rw [keys_at hjl] at hj
      obtain ⟨h2, h3⟩ := key_some (by injection hj : (S.fs.getD j noFm).key = some a)
      unfold YtkcoclpbkealgaaDoor.dirties
      exact List.mem_map.2 ⟨S.fm j, List.mem_filter.2 ⟨S.fm_mem hjl, h.dirty j (by rw [← h.len]; exact hjl) h2⟩, h3⟩
  · unfold insL
    exact List.Pairwise.filter _ ((List.pairwise_lt_range).imp fun h => Nat.le_of_lt h)
/-- Behind FlushAll. -/
theorem DS.flush {S : PS} {v : UInt8} {ins : List Bool} (h : DS S v ins) (hI : Inv S) (hl : ins.length = 8) : S.flush.1 = 0 ∧ YtkcoclpbkealgaaDoor.dirties S.flush.2.fs = [] ∧ S.flush.2.d.ws = (insL ins).map (fun a => (a, goodL a v)) ∧ S.flush.2.d.ps.length = 8 ∧ S.flush.2.d.down = false ∧ S.flush.2.d.fuse = -1 ∧ ∀ a, a < 8 → rightB (S.flush.2.lat a) = true := by
  have fg := flush_good hI h.cur
  have hd := h.dirties hI hl
  refine ⟨fg.e, dirties_none fun j hj => fg.none j (by rw [← fg.len]; exact hj), ?_, by rw [show S.flush.2.d.ps = S.d.ps from fg.ps]; exact h.eight, fg.cur.up, fg.cur.fuse, fun a ha => ?_⟩
  · have := fg.ws
    rw [h.ws, List.nil_append, hd] at this
    refine (show S.flush.2.d.ws = (insL ins).map (fun a => (a, gD v ins a)) from (by unfold PS.flush; rw [hd]; exact this)).trans ?_
    refine List.map_congr_left fun a ha => ?_
    unfold insL at ha
    have h2 := (List.mem_filter.1 ha).2
    unfold gD
    rw [if_pos h2]
  · have h1 := fg.cur.all (fun j hj => fg.none j (by rw [← fg.len]; exact hj)) (a := a) (by show a < S.flush.2.d.ps.length; rw [show S.flush.2.d.ps = S.d.ps from fg.ps, h.eight]; exact ha)
    have h2 : S.flush.2.lat a = gD v ins a := h1
    rw [h2]; exact gD_right v ins a
/-- One frame: what was put goes out as another page comes. -/
theorem one_frame {d : St} (h1 : d.down = false) (h2 : d.fuse = -1) (h3 : d.ps.length = 8) (hr : ∀ a, a < 8 → rightB ((latest d.ps d.ws).getD a []) = true) {t : List UInt8} (ht : t.length = 256) :
    ∃ S1 S2, (startP d 1).put 3 t = (0, S1) ∧ S1.d = d ∧ (∃ u, S1.fetch 4 = ⟨0, u, S2⟩) ∧ S2.d.ws = d.ws ++ [(3, t)] ∧ sorted (held S2.fs) = [4] := by
  have hne : t ≠ [] := fun h => by rw [h] at ht; cases ht
  have e1 : (startP d 1).put 3 t = (0, ⟨d, [⟨3, t, 0, true, true⟩], 0⟩) := by
    simp [PS.put, PS.find, PS.lay, PS.setF, PS.fm, startP, keys, Fm.key, idx, isAt, freeAt, noFm, ht, h3, List.findIdx?_cons]
  have hw := write_good h1 h2 (a := 3) ht (by omega)
  have hl4 : (latest d.ps (d.ws ++ [(3, t)])).getD 4 [] = (latest d.ps d.ws).getD 4 [] := by
    rw [latest_snoc, List.getD_eq_getElem?_getD, List.getElem?_set_ne (by show 3 ≠ 4; decide), List.getD_eq_getElem?_getD]
  have hrd : (St.read { d with ws := d.ws ++ [(3, t)] } 4) = (0, (latest d.ps d.ws).getD 4 []) := by
    have := read_good (S := { d with ws := d.ws ++ [(3, t)] }) h1 (a := 4) (by show 4 < d.ps.length; omega)
    rw [← hl4]; exact this
  have hr4 := hr 4 (by decide)
  generalize (latest d.ps d.ws).getD 4 [] = x at hrd hr4
  have hx : x ≠ [] := fun h => by rw [h] at hr4; exact absurd hr4 (by decide)
  have hw' : d.write 3 t = (0, { d with ws := d.ws ++ [(3, t)] }) := hw
  have e2 : PS.fetch ⟨d, [⟨3, t, 0, true, true⟩], 0⟩ 4 = ⟨0, x, ⟨{ d with ws := d.ws ++ [(3, t)] }, [⟨4, x, 1, false, true⟩], 0⟩⟩ := by
    simp [PS.fetch, PS.readIn, PS.find, chooseN, PS.vacate, PS.write, PS.bump, PS.setF, PS.fm, keys, Fm.key, idx, isAt, freeAt, hne, hw', hrd, hr4, List.findIdx?_cons]
  exact ⟨_, _, e1, rfl, ⟨x, e2⟩, rfl, by simp [held, keys, Fm.key, hx, sorted]⟩
end Go.Proofs.YtkcoclpbkealgaaDoor
namespace Go.Proofs.YtkcoclpbkealgaaDoor
open Go.RowKit
set_option maxRecDepth 40000

def boolsA (l : List Bool) : Array Value := (l.map Value.bool).toArray
theorem info74 : (Tryd.prog.info? 74).map (fun i => (i.zero, i.size, i.bytes)) = some (some (.agg (boolsA (List.replicate 8 false))), 8, 8) := by kernel_rfl
theorem Row.flag {w : World} {g : Nat} {l : List Bool} {t : TypeId} (R : Row w g (boolsA l) t) {i : Nat} (hi : i < l.length) : w.cell? ⟨g, i, none⟩ = some (.bool (l.getD i false)) := by
  rw [R.cell]; unfold boolsA
  rw [List.getElem?_toArray, List.getElem?_map, List.getElem?_eq_getElem hi, List.getD_eq_getElem?_getD, List.getElem?_eq_getElem hi]; rfl
theorem Row.setFlag {w : World} {g : Nat} {l : List Bool} {t : TypeId} (R : Row w g (boolsA l) t) (i : Nat) : Row (w.setCell ⟨g, i, none⟩ (.bool true)) g (boolsA (l.set i true)) t := by
  have h := R.set i (.bool true)
  have e : ((boolsA l).setIfInBounds i (.bool true)) = boolsA (l.set i true) := by unfold boolsA; rw [List.setIfInBounds_toArray, List.map_set]
  rw [e] at h; exact h
theorem Pl.tell {w : World} {F : Nat → Prop} {g n c : Nat} {ws : List (Nat × List UInt8)} (h : Pl w F 76 2 (.slice (some ⟨g, 0, none⟩) n c) (ws.map tellL)) {i : Nat} (hi : i < ws.length) : w.cell? ⟨g, i * 2, none⟩ = some (.int .i64 (((ws.getD i (0, [])).1 : Nat) : Int)) ∧ w.cell? ⟨g, i * 2 + 1, none⟩ = some (.string (bs (ws.getD i (0, [])).2)) := by
  have hr := h.range (i := i) (by rw [List.length_map]; exact hi)
  have he : (ws.map tellL)[i]'(by rw [List.length_map]; exact hi) = tellL (ws.getD i (0, [])) := by rw [List.getElem_map, List.getD_eq_getElem?_getD, List.getElem?_eq_getElem hi]; rfl
  rw [he] at hr
  have h0 := hr 0 _ rfl
  rw [Nat.add_zero] at h0
  exact ⟨h0, hr 1 _ rfl⟩
theorem insL_le (ins : List Bool) : (insL ins).length ≤ 8 := by unfold insL; exact Nat.le_trans (List.length_filter_le _ _) (by rw [List.length_range]; exact Nat.le_refl _)
theorem insL_mem {ins : List Bool} {i : Nat} (h : i < (insL ins).length) : (insL ins).getD i 0 < 8 := by
  rw [List.getD_eq_getElem?_getD, List.getElem?_eq_getElem h]
  have := List.getElem_mem h
  unfold insL at this
  exact List.mem_range.1 (List.mem_filter.1 this).1
theorem lit4' (w : World) : Pl (w.alloc (.cells #[.int .i64 4] 3)) (fun x => x = w.heap.size) 3 1 (.slice (some ⟨w.heap.size, 0, none⟩) 1 1) (intsL [4]) :=
  Pl.make (es := intsL [4]) (cur := #[.int .i64 4]) (fun e he => by unfold intsL at he; obtain ⟨n, _, rfl⟩ := List.mem_map.1 he; rfl) (Row.new w _ 3) (Nat.le_refl _) (by unfold maxLen; omega) rfl rfl rfl
/-- What lies beside a pool stays. -/
theorem pl_beside {w w' : World} {p g b : Nat} {F F' : Nat → Prop} {t : TypeId} {k : Nat} {v : Value} {es : List (List Value)} (h : Pl w (fun x => ¬ own p g b F x) t k v es) (s : Step (own p g b F) (own p g b F') w w') : Pl w' (fun x => ¬ own p g b F' x) t k v es := aside_pl h s

set_option maxHeartbeats 16000000 in
theorem dirty_walk (a : Option Addr) (c : Nat) (l : List UInt8) (z : Int) (w : World) (hP : Bytes w a l) (hl : l.length ≤ maxLen) (hz : (Lit.int .u8 z).wf = true) (hT : Tab w) :
    Calls Tryd.prog 7 #[.slice a l.length c, .int .u8 z] w fun e w' => e = .returned (.bool true) ∧ New w w' := by
  have HT : Hid (Tab w) := hT
  have HP : Hid (Bytes w a l) := hP
  have hl9 : l.length ≤ 9223372036854775807 := by unfold maxLen at hl; omega
  clear hP hl hT
  by_cases h1 : 20 < l.length
  · go_enter Tryd.func7, Tryd.ntmps7
    go_wp2_with fail
    refine (wakes8 w HT.out).mono ?_
    rintro _ w1 ⟨rfl, b1⟩
    go_wp2_with fail
    go_ret
    exact ⟨rfl, b1⟩
  obtain ⟨zb, rfl⟩ := byte_u8 hz
  have hzb := zb.toNat_lt
  generalize zb.toNat = zn at hzb
  clear hz
  obtain ⟨vv, hvv⟩ : ∃ vv : UInt8, (zn : Int) % 100 = (vv.toNat : Int) := ⟨UInt8.ofNat (zn % 100), by rw [UInt8.toNat_ofNat']; omega⟩
  obtain ⟨W1, hmk, hBy, N1⟩ := make_bytes w 8 (by decide)
  have hmk' : (Instr.makeSlice 22 (.int .i64 8) (.int .i64 8)).run Tryd.prog w = .ok (.slice (some ⟨w.heap.size, 0, none⟩) 8 8) W1 := hmk
  have hpg := lawpages_any W1 (some ⟨w.heap.size, 0, none⟩) 8 (List.replicate 8 0) hBy (by decide)
  rw [List.length_replicate] at hpg
  clear hmk hBy
  go_enter Tryd.func7, Tryd.ntmps7
  go_wp2_with fail
  refine hpg.mono ?_
  rintro _ w1 ⟨v1, rfl, Q1, n1⟩
  have hfr := from_pages Q1 (pagesL_size _) 8 (by decide) (by decide) (by rw [pagesL_length, List.length_replicate]; decide)
  have N2 := N1.trans n1
  clear hpg Q1 N1 n1 hmk'
  go_wp2_with fail
  refine hfr.mono ?_
  rintro _ w2 ⟨n2, q, Fd, rfl, D2, hF2⟩
  have N3 := N2.trans n2
  have hs2 := N2.size
  have hF2' : ∀ x, Fd x → w.heap.size ≤ x := fun x hx => Nat.le_trans hs2 (hF2 x hx)
  have h02 : ¬ Fd 0 := fun h => by have h1 := hF2' 0 h; have h2 := HT.out.1; omega
  have hnp := newpool_any D2 (HT.out.after N3) h02 8 (by decide) (by decide)
  clear hfr N2 n2 D2 hF2 hs2 h02
  go_wp2_with fail
  refine hnp.mono ?_
  intro e w3 hm3
  obtain ⟨p, g, b, rfl, hU⟩ := hm3.up hF2' N3
  have U3 := hU 0 (Nat.le_refl _)
  have DS3 := DS.start (v := vv) rfl
  generalize (⟨8, pagesL (List.replicate 8 0), [], -1, false⟩ : St) = d0 at U3 DS3
  clear hm3 hnp hU hF2' N3
  go_wp2_with (refine wpList_alloc_new (by rfl) 74 (by rfl) _ _ _ info74 ?_; intro W4 R4 N4)
  have U4 := U3.new N4
  have no4 : ¬ own p g b Fd w3.heap.size := fun h => by have := U3.pool.bits.own_lt _ h; omega
  have hgw : w.heap.size ≤ w3.heap.size := U3.above.size
  have hg0 : w3.heap.size ≠ 0 := by have := U3.pool.bits.tab.1; omega
  generalize w3.heap.size = gN at R4 no4 hgw hg0 ⊢
  clear U3 N4
  go_loopw [10] (fun u wr => ∃ (i : Nat) (S : PS) (ins : List Bool) (F : Nat → Prop), u = .int .i64 (i : Int) ∧ i ≤ l.length ∧ Up w wr i p g b q F S ∧ Row wr gN (boolsA ins) 74 ∧ ¬ own p g b F gN ∧ DS S vv ins ∧ ins.length = 8) (fun u _ => l.length - (intOf u).toNat)
  case atStart => exact ⟨0, _, List.replicate 8 false, Fd, rfl, by omega, U4, R4, no4, DS3, rfl⟩
  case round =>
    clear U4 R4 no4 DS3
    obtain ⟨i, S, ins, F, rfl, hi, U, R, no, DSS, hil8⟩ := hrel
    by_cases hil : i < l.length
    · have hil' : (i : Int) < (l.length : Int) := by omega
      obtain ⟨x, rfl, hx⟩ := HP.out (by omega)
      have hx0 := cell_below U.above.below (hx i hil) (Nat.le_refl _)
      clear hx
      obtain ⟨nn, hnn, hn256⟩ : ∃ nn : Nat, (l.getD i 0).toNat = nn ∧ nn < 256 := ⟨_, rfl, UInt8.toNat_lt _⟩
      rw [hnn] at hx0
      clear hnn
      obtain ⟨ka, hka, ha8⟩ : ∃ ka : Nat, (nn : Int) % 8 = (ka : Int) ∧ ka < 8 := ⟨nn % 8, by omega, by omega⟩
      obtain ⟨S1, e1, DS1⟩ := DSS.put U.pool.inv hil8 ha8
      have hg1 := good_any ka (by omega) vv
      have HU : Hid (Up w wr i p g b q F S ∧ Row wr gN (boolsA ins) 74 ∧ ¬ own p g b F gN) := ⟨U, R, no⟩
      have hcl1 : (ins.set ka true).length = 8 := by rw [List.length_set]; exact hil8
      have HE1 : Hid (S.put (ka : Int) (goodL ka vv) = (0, S1)) := e1
      have HLB : Hid (L (bs (goodL ka vv)) = goodL ka vv) := L_bs _
      generalize goodL ka vv = t1 at hg1 HE1 HLB
      clear U R no DSS e1
      go_wp2_with fail
      refine (hg1 _).mono ?_
      rintro _ w2 ⟨rfl, n2⟩
      have U2 := HU.out.1.new n2
      have hc := put_any' U2.pool (by have := hi; omega) (ka : Int) (by omega) (by omega) (bs t1)
      rw [HLB.out, HE1.out] at hc
      dsimp only at hc
      clear hg1
      go_wp2_with fail
      refine hc.mono ?_
      rintro _ w3 ⟨rfl, F3, P3, s3⟩
      obtain ⟨R3, no3⟩ := row_beside (HU.out.2.1.after n2) s3 HU.out.2.2
      have U3 : Up w w3 (i + 1) p g b q F3 S1 := ⟨P3, U2.above.step s3⟩
      have hr1 := R3.flag (i := ka) (by omega)
      have hr2 := R3.frozen ka
      have U4 := U3.setOther no3 hgw hg0 ka (.bool true)
      have R4 := R3.setFlag ka
      clear hc P3 s3 U2 HU n2 U3 R3 hx0
      have HF : Hid (Up w (w3.setCell ⟨gN, ka, none⟩ (.bool true)) (i + 1) p g b q F3 S1 ∧ Row (w3.setCell ⟨gN, ka, none⟩ (.bool true)) gN (boolsA (ins.set ka true)) 74 ∧ ¬ own p g b F3 gN ∧ DS S1 vv (ins.set ka true)) := ⟨U4, R4, no3, DS1⟩
      clear U4 R4 no3 DS1
      go_wp2_with fail
      obtain ⟨x1, x2, x3, x4⟩ := HF.out
      exact ⟨⟨i + 1, S1, ins.set ka true, F3, by simp, by omega, x1, x2, x3, x4, hcl1⟩, by simp [intOf]; omega⟩
    · obtain rfl : l.length = i := by omega
      have HU : Hid (Up w wr l.length p g b q F S ∧ Row wr gN (boolsA ins) 74 ∧ ¬ own p g b F gN ∧ DS S vv ins ∧ ins.length = 8) := ⟨U, R, no, DSS, hil8⟩
      have hll : l.length ≤ 20 := by omega
      obtain ⟨wB, hwB⟩ : ∃ wB, wB = wr := ⟨_, rfl⟩
      rw [← hwB] at HU
      have NB : New wB wr := by rw [hwB]; exact New.refl _
      clear U R no DSS hil8 hwB
      go_wp2_with fail
      go_loopw [12, 13] (fun v u wr => ∃ k : Nat, u = .int .i64 (k : Int) ∧ k ≤ 8 ∧ Hid (Pl wr (Fresh wB) 3 1 v (intsL ((List.range k).filter (fun a => ins.getD a false))) ∧ New wB wr)) (fun _ u _ => 8 - (intOf u).toNat)
      case atStart => exact ⟨0, rfl, by omega, Pl.nil _ _ _ _, NB⟩
      case round =>
        clear NB
        obtain ⟨k, rfl, hk, HI⟩ := hrel
        rename World => wr2
        by_cases hk8 : k < 8
        · have hk8' : (k : Int) < 8 := by omega
          have kf := (HU.out.2.1.after HI.out.2).flag (i := k) (by rw [HU.out.2.2.2.2]; exact hk8)
          have HX : Hid ((List.range (k + 1)).filter (fun a => ins.getD a false) = (List.range k).filter (fun a => ins.getD a false) ++ (if ins.getD k false then [k] else [])) := insL_take ins k
          have HLe : Hid ((intsL ((List.range k).filter (fun a => ins.getD a false))).length ≤ 1000000) := by
            show (intsL ((List.range k).filter (fun a => ins.getD a false))).length ≤ 1000000
            rw [intsL_length]
            have := List.length_filter_le (fun a => ins.getD a false) (List.range k)
            rw [List.length_range] at this; omega
          generalize (List.range k).filter (fun a => ins.getD a false) = lk at HI HX HLe
          generalize ins.getD k false = fl at kf HX
          cases fl
          · go_wp2_with fail
            refine ⟨⟨k + 1, by simp, by omega, ?_⟩, by simp [intOf]; omega⟩
            rw [HX.out, if_neg (by decide), List.append_nil]
            exact HI.out
          · go_wp2_with (first
              | (refine wpList_append_pl (HI.out.1.after ((New.refl wr2).alloc _)) (by rfl) _ _ 56 (by rfl) Tryd.underlying56 _ _ info3 rfl (by decide) wr2.heap.size [.int .i64 (k : Int)] 3 (Row.new wr2 _ 3) rfl (fun u hu => by obtain rfl : u = .int .i64 (k : Int) := (by simpa using hu); rfl) HLe.out (by decide) (by rfl) (by rfl) ?_; intro g3 cap3 W4 Q4 G4))
            have hsz := HI.out.2.size
            refine ⟨⟨k + 1, by simp, by omega, ?_⟩, by simp [intOf]; omega⟩
            rw [HX.out, if_pos rfl]
            refine ⟨?_, ?_⟩
            · unfold intsL at Q4 ⊢
              rw [List.map_append]
              refine Q4.mono fun b hb _ => ?_
              rcases hb with hb | hb
              · exact hb
              · rw [World.size_alloc] at hb
                show wB.heap.size ≤ b
                omega
            · exact (HI.out.2.trans ((New.refl wr2).alloc _)).grown G4 fun k hk => HI.out.1.foot k hk
        · obtain rfl : k = 8 := by omega
          obtain ⟨aw, cw, hvw, _⟩ := HI.out.1.form
          rw [intsL_length] at hvw
          change _ = Value.slice aw (insL ins).length cw at hvw
          subst hvw
          obtain ⟨U0, R0, no0, DS0, hil8⟩ := HU.out
          have U := U0.new HI.out.2
          have hB := U0.pool.bits.own_lt
          have Qw : Pl wr2 (fun x => ¬ own p g b F x) 3 1 (.slice aw (insL ins).length cw) (intsL (insL ins)) := HI.out.1.mono fun x hx _ h2 => by have h3 := hB x h2; have h4 : wB.heap.size ≤ x := hx; omega
          have hd := dirty_any U.pool
          rw [DS0.dirties U.pool.inv hil8] at hd
          obtain ⟨ef, ed, ews, eps, edn, efu, erg⟩ := DS0.flush U.pool.inv hil8
          have hws0 := DS0.ws
          have hll8 := insL_le ins
          have HM : Hid (∀ i, i < (insL ins).length → (insL ins).getD i 0 < 8) := fun i h => insL_mem h
          clear U0 R0 no0 DS0 hil8 hB HI HU
          generalize insL ins = ws at *
          have HE : Hid (S.flush.1 = 0 ∧ dirties S.flush.2.fs = [] ∧ S.flush.2.d.ws = ws.map (fun a => (a, goodL a vv)) ∧ S.flush.2.d.ps.length = 8 ∧ S.flush.2.d.down = false ∧ S.flush.2.d.fuse = -1 ∧ ∀ a, a < 8 → rightB (S.flush.2.lat a) = true) := ⟨ef, ed, ews, eps, edn, efu, erg⟩
          have HW0 : Hid (S.d.ws = []) := hws0
          clear ef ed ews eps edn efu erg hws0
          go_wp2_with fail
          refine hd.mono ?_
          rintro _ w3 ⟨v3, rfl, Q3, n3⟩
          have hci := ints_any Q3 (Qw.after n3) (by omega)
          have U3 := U.new n3
          have Qw3 := Qw.after n3
          clear hd Q3 n3 U Qw
          go_wp2_with fail
          refine hci.mono ?_
          rintro _ w4 ⟨rfl, n4⟩
          have U4 := U3.new n4
          have Qw4 := Qw3.after n4
          have hwt := waiting_any U4.pool.bits.disk
          rw [HW0.out] at hwt
          clear hci n4 U3 Qw3
          go_wp2_with fail
          refine hwt.mono ?_
          rintro _ w5 ⟨v5, rfl, Q5, n5⟩
          obtain ⟨a5, c5, rfl, _⟩ := Q5.form
          rw [show (([] : List (Nat × List UInt8)).map tellL).length = 0 from rfl]
          have U5 := U4.new n5
          have Qw5 := Qw4.after n5
          have hfl := flush_any U5.pool (by omega)
          rw [HE.out.1] at hfl
          clear hwt Q5 n5 U4 Qw4
          go_wp2_with fail
          refine hfl.mono ?_
          rintro _ w6 ⟨rfl, F6, P6, s6⟩
          have U6 : Up w w6 l.length p g b q F6 S.flush.2 := ⟨P6, U5.above.step s6⟩
          have Qw6 := pl_beside Qw5 s6
          have hd := dirty_any U6.pool
          rw [HE.out.2.1, show sorted ([] : List Nat) = [] by unfold sorted; simp] at hd
          clear hfl P6 s6 U5 Qw5
          go_wp2_with fail
          refine hd.mono ?_
          rintro _ w7 ⟨v7, rfl, Q7, n7⟩
          obtain ⟨a7, c7, rfl, _⟩ := Q7.form
          rw [show (intsL ([] : List Nat)).length = 0 from rfl]
          have U7 := U6.new n7
          have Qw7 := Qw6.after n7
          have hwt := waiting_any U7.pool.bits.disk
          rw [HE.out.2.2.1] at hwt
          clear hd Q7 n7 U6 Qw6
          go_wp2_with fail
          refine hwt.mono ?_
          rintro _ w8 ⟨v8, rfl, Q8, n8⟩
          obtain ⟨a8, c8, hv8, _⟩ := Q8.form
          rw [List.length_map, List.length_map] at hv8
          subst hv8
          have U8 := U7.new n8
          have Qw8 := Qw7.after n8
          have HQ : Hid (Up w w8 l.length p g b q F6 S.flush.2 ∧ Pl w8 (fun x => ¬ own p g b F6 x) 3 1 (.slice aw ws.length cw) (intsL ws) ∧ Pl w8 (Fresh w7) 76 2 (.slice a8 ws.length c8) ((ws.map (fun a => (a, goodL a vv))).map tellL)) := ⟨U8, Qw8, Q8⟩
          obtain ⟨nw, hnw⟩ : ∃ nw, ws.length = nw := ⟨_, rfl⟩
          have HN : Hid (ws.length = nw) := hnw
          rw [hnw] at HQ hll8 ⊢
          clear hwt Q8 n8 U7 Qw7 U8 Qw8 hnw
          go_wp2_with fail
          go_loopw [15] (fun u wr3 => ∃ k : Nat, u = .int .i64 (k : Int) ∧ k ≤ nw ∧ Hid (Up w wr3 l.length p g b q F6 S.flush.2 ∧ Pl wr3 (fun x => ¬ own p g b F6 x) 3 1 (.slice aw nw cw) (intsL ws) ∧ Pl wr3 (Fresh w7) 76 2 (.slice a8 nw c8) ((ws.map (fun a => (a, goodL a vv))).map tellL))) (fun u _ => nw - (intOf u).toNat)
          case atStart => exact ⟨0, rfl, by omega, HQ.out⟩
          case round =>
            clear HQ
            obtain ⟨k, rfl, hk, HQ⟩ := hrel
            rename World => wr4
            by_cases hkn : k < nw
            · have hkn' : (k : Int) < (nw : Int) := by omega
              have hkl : k < ws.length := by rw [HN.out]; exact hkn
              obtain ⟨U9, Qa, Qb⟩ := HQ.out
              obtain ⟨ga, ca, ea, _⟩ := Qa.full (by rw [intsL_length]; omega)
              rw [intsL_length, HN.out] at ea
              cases ea
              obtain ⟨gb, cb, eb, _⟩ := Qb.full (by rw [List.length_map, List.length_map]; omega)
              rw [List.length_map, List.length_map, HN.out] at eb
              cases eb
              have ka := Qa.num hkl
              obtain ⟨kb0, kb1⟩ := Qb.tell (i := k) (by rw [List.length_map]; exact hkl)
              have hxk : (ws.map (fun a => (a, goodL a vv))).getD k (0, []) = (ws.getD k 0, goodL (ws.getD k 0) vv) := by
                rw [List.getD_eq_getElem?_getD, List.getElem?_map, List.getElem?_eq_getElem hkl, List.getD_eq_getElem?_getD, List.getElem?_eq_getElem hkl]; rfl
              rw [hxk] at kb0 kb1
              have hx8 := HM.out k hkl
              simp only at kb0 kb1
              generalize ws.getD k 0 = x at ka kb0 kb1 hx8
              have hg := good_any x (by omega) vv
              generalize goodL x vv = t at kb1 hg
              have q0 : ∀ q' : NewW wr4, q'.v.cell? ⟨ga, k, none⟩ = some (.int .i64 (x : Int)) := fun q' => NewW.cell ka q'
              have q1 : ∀ q' : NewW wr4, q'.v.cell? ⟨gb, k * 2, none⟩ = some (.int .i64 (x : Int)) := fun q' => NewW.cell kb0 q'
              have q2 : ∀ q' : NewW wr4, q'.v.cell? ⟨gb, k * 2 + 1, none⟩ = some (.string (bs t)) := fun q' => NewW.cell kb1 q'
              have hne := NewW.ne wr4
              clear U9 Qa Qb ka kb0 kb1 hxk hkl hx8
              go_wp2_with fail
              refine region_first 25 0 wr4 (New.refl wr4) (by kernel_rfl) (by kernel_rfl) ?_
              simp only [List.take_succ_cons, List.drop_succ_cons, List.drop_zero, List.take_nil]
              iterate 25 (go_big_quiet_step (first | (go_at_call 19; exact Calls.neww (hg _))))
              refine wpQuiet_nil ?_
              rintro w5 ⟨⟨_, hk5⟩, rfl⟩
              clear q0 q1 q2 hne hg
              go_wp2_with fail
              exact ⟨⟨k + 1, by simp, by omega, HQ.out.1.new hk5, HQ.out.2.1.after hk5, HQ.out.2.2.after hk5⟩, by simp [intOf]; omega⟩
            · obtain rfl : nw = k := by omega
              obtain ⟨U9, _, _⟩ := HQ.out
              obtain ⟨S1, S2, e1, e1d, ⟨u2, e2⟩, e2w, e2h⟩ := one_frame HE.out.2.2.2.2.1 HE.out.2.2.2.2.2.1 HE.out.2.2.2.1 HE.out.2.2.2.2.2.2 (goodL_length 3 77)
              have hnp := newpool_any U9.pool.bits.disk U9.pool.bits.tab U9.pool.bits.n0 1 (by decide) (by decide)
              have hFF : ∀ x, F6 x → w.heap.size ≤ x := fun x hx => U9.above.foot x (.inr (.inr (.inr hx)))
              have NN := U9.above.toNew
              have hgd : ∀ w, Calls Tryd.prog 19 #[.int .i64 3, .int .u8 77] w fun e w' => e = .returned (.string (bs (goodL 3 77))) ∧ New w w' := good_any 3 (by decide) 77
              have HLB : Hid (L (bs (goodL 3 77)) = goodL 3 77) := L_bs _
              have hwl : S.flush.2.d.ws.length = nw := by rw [HE.out.2.2.1, List.length_map]; exact HN.out
              rw [← e1d] at e2w
              generalize goodL 3 77 = t3 at e1 e2w hgd HLB
              have HE1 : Hid ((startP S.flush.2.d 1).put 3 t3 = (0, S1) ∧ S1.d.ws.length = nw ∧ S1.fetch 4 = ⟨0, u2, S2⟩ ∧ S2.d.ws.length = nw + 1 ∧ sorted (held S2.fs) = [4]) := ⟨e1, by rw [e1d]; exact hwl, e2, by rw [e2w, List.length_append, e1d, hwl]; rfl, e2h⟩
              have hw10 : S.flush.2.d.ws.length ≤ 10 := by omega
              clear e1 e1d e2 e2w e2h U9 HQ hwl
              go_wp2_with fail
              refine hnp.mono ?_
              intro e w3 hm3
              obtain ⟨p2, g2, b2, rfl, hU⟩ := hm3.up hFF NN
              have U3 := hU 10 hw10
              clear hm3 hnp hU hFF NN
              go_wp2_with fail
              refine (hgd _).mono ?_
              rintro _ w4 ⟨rfl, n4⟩
              have U4 := U3.new n4
              have hc := put_any' U4.pool (by decide) 3 (by decide) (by decide) (bs t3)
              rw [HLB.out, HE1.out.1] at hc
              dsimp only at hc
              clear n4 U3 hgd
              go_wp2_with fail
              refine hc.mono ?_
              rintro _ w5 ⟨rfl, l5⟩
              obtain ⟨F5, U5⟩ := U4.left l5
              have hwt := waiting_any U5.pool.bits.disk
              clear hc l5 U4
              go_wp2_with fail
              refine hwt.mono ?_
              rintro _ w7 ⟨v7, rfl, Q7, n7⟩
              obtain ⟨a7, c7, rfl, _⟩ := Q7.form
              rw [List.length_map, HE1.out.2.1]
              have U7 := U5.new n7
              have hc := fetch_any U7.pool (by decide) 4 (by decide) (by decide)
              rw [HE1.out.2.2.1] at hc
              dsimp only at hc
              clear hwt Q7 n7 U5
              go_wp2_with fail
              refine hc.mono ?_
              rintro _ w8 ⟨rfl, l8⟩
              obtain ⟨F8, U8⟩ := U7.left l8
              have hwt := waiting_any U8.pool.bits.disk
              clear hc l8 U7
              go_wp2_with fail
              refine hwt.mono ?_
              rintro _ w9 ⟨v9, rfl, Q9, n9⟩
              obtain ⟨a9, c9, rfl, _⟩ := Q9.form
              rw [List.length_map, HE1.out.2.2.2.1]
              have U9 := U8.new n9
              have hh := held_any U9.pool (by decide)
              rw [HE1.out.2.2.2.2] at hh
              clear hwt Q9 n9 U8
              go_wp2_with fail
              refine hh.mono ?_
              rintro _ w10 ⟨v10, rfl, Q10, n10⟩
              have U10 := U9.new n10
              have n11 : New w10 (w10.alloc (.cells #[.int .i64 4] 3)) := (New.refl w10).alloc _
              have hci := ints_any (Q10.after n11) (lit4' w10) (by decide)
              clear hh U9 n10
              go_wp2_with fail
              refine hci.mono ?_
              rintro _ w12 ⟨rfl, n12⟩
              have U12 := (U10.new n11).new n12
              clear hci n11 n12 U10 Q10
              go_wp2_with fail
              refine (wakes8 w12 U12.pool.bits.tab).mono ?_
              rintro _ w13 ⟨rfl, n13⟩
              go_wp2_with fail
              go_ret
              exact ⟨rfl, (U12.above.new n13).toNew⟩
end Go.Proofs.YtkcoclpbkealgaaDoor
