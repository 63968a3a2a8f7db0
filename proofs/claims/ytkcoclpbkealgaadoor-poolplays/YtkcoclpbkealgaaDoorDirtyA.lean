/-
  PoolDirty, walked.
-/
import Derived.Test.YtkcoclpbkealgaaDoorPinsA
namespace Go.Proofs.YtkcoclpbkealgaaDoor
open Go.RowKit
set_option maxRecDepth 40000

/-- What each page is: v where it was put, else nought. -/
def gD (v : UInt8) (ins : List Bool) (a : Nat) : List UInt8 := if ins.getD a false then goodL a v else goodL a 0
/-- A pool of eight frames over eight pages, into which was put. -/
structure DS (S : PS) (v : UInt8) (ins : List Bool) : Prop where
  cur : Cur S (gD v ins)
  eight : S.d.ps.length = 8
  ws : S.d.ws = []
  len : S.fs.length = 8
  zero : ∀ j, (S.fm j).pins = 0
  has : ∀ a : Nat, (∃ j : Nat, (keys S.fs)[j]? = some (some a)) ↔ ins.getD a false = true
  dirty : ∀ j, j < 8 → (S.fm j).data ≠ [] → (S.fm j).dirty = true
theorem gD_right (v : UInt8) (ins : List Bool) (a : Nat) : rightB (gD v ins a) = true := by unfold gD; split <;> exact goodL_right _ _
theorem gD_length (v : UInt8) (ins : List Bool) (a : Nat) : (gD v ins a).length = 256 := by unfold gD; split <;> exact goodL_length _ _
theorem DS.start {d : St} {v : UInt8} (hd : d = ⟨8, pagesL (List.replicate 8 0), [], -1, false⟩) : DS (startP d 8) v (List.replicate 8 false) := by
  subst hd
  have hno : ∀ j, (startP ⟨8, pagesL (List.replicate 8 0), [], -1, false⟩ 8).fm j = noFm := fun j => by
    show (List.replicate 8 noFm).getD j noFm = noFm
    rw [List.getD_eq_getElem?_getD, List.getElem?_replicate]
    split <;> rfl
  have hin : ∀ a, (List.replicate 8 false).getD a false = false := fun a => by rw [List.getD_eq_getElem?_getD, List.getElem?_replicate]; split <;> rfl
  refine ⟨⟨rfl, rfl, fun j _ hd => absurd (by rw [hno j]; rfl) hd, fun j _ hd => absurd (by rw [hno j]; rfl) hd, fun a ha _ => ?_⟩, by show (pagesL (List.replicate 8 0)).length = 8; rw [pagesL_length]; rfl, rfl, List.length_replicate, fun j => by rw [hno j]; rfl, fun a => ?_, fun j _ hd => absurd (by rw [hno j]; rfl) hd⟩
  · have ha9 : a < 8 := by have : a < (pagesL (List.replicate 8 0)).length := ha; rw [pagesL_length] at this; exact this
    show (latest (pagesL (List.replicate 8 0)) []).getD a [] = _
    have : latest (pagesL (List.replicate 8 0)) [] = pagesL (List.replicate 8 0) := rfl
    rw [this, pagesL_get (by exact ha9)]
    have h0 : (List.replicate 8 (0 : UInt8)).getD a 0 = 0 := by rw [List.getD_eq_getElem?_getD, List.getElem?_replicate]; split <;> rfl
    rw [h0]
    unfold pgL gD
    rw [if_pos (by decide), hin, if_neg (by decide)]
  · rw [hin]
    constructor
    · rintro ⟨j, hj⟩
      have : (keys (List.replicate 8 noFm))[j]? = some (some a) := hj
      rw [keys_start] at this
      exact absurd (List.mem_replicate.1 (List.mem_of_getElem? this)).2 (by simp)
    · intro h; cases h
theorem few_below : ∀ (n : Nat) (l : List Nat), l.Nodup → (∀ x ∈ l, x < n) → l.length ≤ n
  | 0, [], _, _ => Nat.le_refl _
  | 0, a :: _, _, h => absurd (h a (by simp)) (by omega)
  | n + 1, l, hn, h => by
    by_cases hm : n ∈ l
    · have ih := few_below n (l.erase n) (hn.erase n) (fun x hx => by
        have h1 := h x (List.mem_of_mem_erase hx)
        have h2 : x ≠ n := fun e => by subst e; exact hn.not_mem_erase hx
        omega)
      rw [List.length_erase_of_mem hm] at ih
      omega
    · have ih := few_below n l hn (fun x hx => by
        have h1 := h x hx
        have h2 : x ≠ n := fun e => hm (e ▸ hx)
        omega)
      omega
/-- Eight frames have room for eight pages. -/
theorem DS.free {S : PS} {v : UInt8} {ins : List Bool} (h : DS S v ins) (hI : Inv S) {a : Nat} (ha : a < 8) (hix : idx (a : Int) (keys S.fs) = none) : ∃ i, freeAt (keys S.fs) = some i := by
  cases hf : freeAt (keys S.fs) with
  | some i => exact ⟨i, rfl⟩
  | none =>
    exfalso
    -- all eight frames are full: eight pages below eight, a not among them
    have hfull : ∀ j, j < 8 → ∃ x, (keys S.fs)[j]? = some (some x) ∧ x < 8 := fun j hj => by
      have hjl : j < S.fs.length := by rw [h.len]; exact hj
      have h1 := freeAt_none hf j
      rw [keys_at hjl] at h1 ⊢
      cases hk : (S.fs.getD j noFm).key with
      | none => rw [hk] at h1; exact absurd rfl h1
      | some x =>
        obtain ⟨h2, h3⟩ := key_some hk
        have h4 := hI.in_ _ (getD_mem hjl) h2
        rw [h.eight] at h4
        exact ⟨x, rfl, by omega⟩
    have hnd := nodup_some hI.apart
    have hlen : ((keys S.fs).filterMap id).length = 8 := by
      have hall : ∀ o ∈ keys S.fs, (id o : Option Nat).isSome = true := fun o ho => by
        obtain ⟨j, hj⟩ := List.mem_iff_getElem?.1 ho
        obtain ⟨x, hx, _⟩ := hfull j (by have := (List.getElem?_eq_some_iff.1 hj).1; rw [keys_length, h.len] at this; exact this)
        rw [hx] at hj
        have : o = some x := by injection hj with e; exact e.symm
        rw [this]; rfl
      rw [List.length_filterMap_eq_countP, List.countP_eq_length.2 hall, keys_length, h.len]
    have := few_below 8 (a :: (keys S.fs).filterMap id) (List.nodup_cons.2 ⟨fun hm => by
        obtain ⟨j, hj⟩ := mem_held.1 (show a ∈ held S.fs from hm)
        exact idx_none hix j a hj rfl, hnd⟩) fun x hx => by
      rcases List.mem_cons.1 hx with rfl | hx
      · exact ha
      · obtain ⟨j, hj⟩ := mem_held.1 (show x ∈ held S.fs from hx)
        obtain ⟨y, hy, hy8⟩ := hfull j (by have := (List.getElem?_eq_some_iff.1 hj).1; rw [keys_length, h.len] at this; exact this)
        rw [hy] at hj
        have : y = x := by injection hj with e; injection e
        omega
    rw [List.length_cons, hlen] at this
    omega
theorem getD_set_bool {l : List Bool} {a : Nat} (ha : a < l.length) (b : Nat) : (l.set a true).getD b false = (decide (b = a) || l.getD b false) := by
  by_cases e : b = a
  · subst e; rw [List.getD_eq_getElem?_getD, List.getElem?_set_self ha, decide_eq_true rfl]; rfl
  · rw [List.getD_eq_getElem?_getD, List.getElem?_set_ne (fun h => e h.symm), decide_eq_false e, List.getD_eq_getElem?_getD]; rfl
theorem DS.put {S : PS} {v : UInt8} {ins : List Bool} (h : DS S v ins) (hI : Inv S) (hl : ins.length = 8) {a : Nat} (ha : a < 8) : ∃ S1, S.put (a : Int) (goodL a v) = (0, S1) ∧ DS S1 v (ins.set a true) := by
  have hne : goodL a v ≠ [] := goodL_ne a v
  have hb : ¬ ((goodL a v).length ≠ 256 ∨ (a : Int) < 0 ∨ (S.d.ps.length : Int) ≤ (a : Int)) := by rw [goodL_length, h.eight]; omega
  have pg := put_good hI h.cur (a := a) (by rw [h.eight]; exact ha) (goodL_length a v) (fun _ => ⟨0, by rw [h.len]; omega, h.zero 0⟩)
  have hG : upd (gD v ins) a (goodL a v) = gD v (ins.set a true) := by
    funext b
    unfold upd gD
    rw [getD_set_bool (by omega)]
    by_cases e : b = a
    · subst e; rw [if_pos rfl, decide_eq_true rfl]; rfl
    · rw [if_neg e, decide_eq_false e]; rfl
  -- one frame is laid
  obtain ⟨i, hi8, e, hk⟩ : ∃ i, i < 8 ∧ S.put (a : Int) (goodL a v) = (0, S.setF i (laid (S.fm i) a (goodL a v))) ∧ ((keys S.fs)[i]? = some none ∨ (keys S.fs)[i]? = some (some a)) := by
    cases hix : idx (a : Int) (keys S.fs) with
    | some i =>
      obtain ⟨h1, h2, h3⟩ := idx_full hix
      obtain ⟨x, h4, h5⟩ := idx_at hix
      have hx : x = a := by omega
      subst hx
      exact ⟨i, by rw [h.len] at h1; exact h1, by rw [PS.put_hit hb hix, lay_eq], .inr h4⟩
    | none =>
      obtain ⟨i, hi⟩ := h.free hI ha hix
      have hf := PS.find_free hi
      obtain ⟨h1, h2⟩ := freeAt_some hi
      rw [keys_length, h.len] at h1
      exact ⟨i, h1, by rw [PS.put_new hb hix (by rw [hf]), hf, lay_eq], .inl h2⟩
  have hil : i < S.fs.length := by rw [h.len]; exact hi8
  refine ⟨_, e, ?_⟩
  have hcur := pg.cur
  rw [e, hG] at hcur
  have hkk : keys (S.setF i (laid (S.fm i) a (goodL a v))).fs = (keys S.fs).set i (some a) := by
    show keys (S.fs.set _ _) = _; rw [keys_set, key_of (f := laid (S.fm i) a (goodL a v)) hne]; rfl
  refine ⟨hcur, h.eight, h.ws, (setF_len _ _ _).trans h.len, fun j => ?_, fun b => ?_, fun j hj hd => ?_⟩
  · by_cases ej : i = j
    · subst ej; rw [setF_fm_same hil]; exact h.zero i
    · rw [setF_fm_other ej]; exact h.zero j
  · rw [hkk, getD_set_bool (by omega), Bool.or_eq_true, decide_eq_true_eq, ← h.has b]
    constructor
    · rintro ⟨j, hj⟩
      by_cases ej : i = j
      · subst ej; rw [List.getElem?_set_self (by rw [keys_length]; exact hil)] at hj
        injection hj with e1; injection e1 with e1; exact .inl e1.symm
      · rw [List.getElem?_set_ne ej] at hj; exact .inr ⟨j, hj⟩
    · rintro (rfl | ⟨j, hj⟩)
      · exact ⟨i, List.getElem?_set_self (by rw [keys_length]; exact hil)⟩
      · by_cases ej : i = j
        · subst ej
          rcases hk with hk | hk
          · rw [hk] at hj; cases hj
          · rw [hk] at hj
            injection hj with e1; injection e1 with e1
            exact ⟨i, by rw [List.getElem?_set_self (by rw [keys_length]; exact hil), e1]⟩
        · exact ⟨j, by rw [List.getElem?_set_ne ej]; exact hj⟩
  · by_cases ej : i = j
    · subst ej; rw [setF_fm_same hil]; rfl
    · rw [setF_fm_other ej] at hd ⊢; exact h.dirty j hj hd
/-- The pages that were put, rising. -/
def insL (ins : List Bool) : List Nat := (List.range 8).filter (fun a => ins.getD a false)
theorem insL_take (ins : List Bool) (k : Nat) : ((List.range (k + 1)).filter (fun a => ins.getD a false)) = ((List.range k).filter (fun a => ins.getD a false)) ++ (if ins.getD k false then [k] else []) := by
  rw [List.range_succ, List.filter_append]
  congr 1
  cases h : ins.getD k false
  · rw [List.filter_cons, h]; rfl
  · rw [List.filter_cons, h]; rfl
theorem sorted_of {l m : List Nat} (hp : l.Perm m) (hm : m.Pairwise (fun a b => a ≤ b)) : sorted l = m := by
  unfold sorted
  refine List.Perm.eq_of_pairwise (fun _ _ _ _ x y => Nat.le_antisymm x y) ?_ hm ((List.mergeSort_perm _ _).trans hp)
  have h := List.pairwise_mergeSort (le := fun (x y : Nat) => decide (x ≤ y)) (fun a b c => by simp; omega) (fun a b => by simp; omega) l
  exact h.imp fun h => of_decide_eq_true h
theorem DS.dirties {S : PS} {v : UInt8} {ins : List Bool} (h : DS S v ins) (hI : Inv S) (hl : ins.length = 8) : sorted (YtkcoclpbkealgaaDoor.dirties S.fs) = insL ins := by
  refine sorted_of ?_ ?_
  · refine (List.perm_ext_iff_of_nodup ((nodup_some hI.apart).sublist (dirties_sub hI.dirty_full)) ((List.nodup_range).filter _)).2 fun a => ?_
    rw [List.mem_filter, List.mem_range, ← h.has a]
    constructor
    · intro hm
      have := (dirties_sub hI.dirty_full).subset hm
      obtain ⟨j, hj⟩ := mem_held.1 this
      refine ⟨?_, j, hj⟩
      have h2 := (h.has a).1 ⟨j, hj⟩
      by_cases ha : a < 8
      · exact ha
      · rw [List.getD_eq_getElem?_getD, List.getElem?_eq_none (by omega)] at h2; cases h2
    · rintro ⟨_, j, hj⟩
      have hjl : j < S.fs.length := by have := (List.getElem?_eq_some_iff.1 hj).1; rw [keys_length] at this; exact this
      rw [keys_at hjl] at hj
      obtain ⟨h2, h3⟩ := key_some (by injection hj : (S.fs.getD j noFm).key = some a)
      unfold YtkcoclpbkealgaaDoor.dirties
      exact List.mem_map.2 ⟨S.fm j, List.mem_filter.2 ⟨S.fm_mem hjl, h.dirty j (by rw [← h.len]; exact hjl) h2⟩, h3⟩
  · unfold insL
    exact List.Pairwise.filter _ ((List.pairwise_lt_range).imp fun h => Nat.le_of_lt h)
/-- Behind FlushAll. -/
theorem DS.flush {S : PS} {v : UInt8} {ins : List Bool} (h : DS S v ins) (hI : Inv S) (hl : ins.length = 8) : S.flush.1 = 0 ∧ YtkcoclpbkealgaaDoor.dirties S.flush.2.fs = [] ∧ S.flush.2.d.ws = (insL ins).map (fun a => (a, goodL a v)) ∧ S.flush.2.d.ps.length = 8 ∧ S.flush.2.d.down = false ∧ S.flush.2.d.fuse = -1 ∧ ∀ a, a < 8 → rightB (S.flush.2.lat a) = true := by
  have fg := flush_good hI h.cur
  have hd := h.dirties hI hl
  refine ⟨fg.e, dirties_none fun j hj => fg.none j (by rw [← fg.len]; exact hj), ?_, by rw [show S.flush.2.d.ps = S.d.ps from fg.ps]; exact h.eight, fg.cur.up, fg.cur.fuse, fun a ha => ?_⟩
  · have := fg.ws
    rw [h.ws, List.nil_append, hd] at this
    refine (show S.flush.2.d.ws = (insL ins).map (fun a => (a, gD v ins a)) from (by unfold PS.flush; rw [hd]; exact this)).trans ?_
    refine List.map_congr_left fun a ha => ?_
    unfold insL at ha
    have h2 := (List.mem_filter.1 ha).2
    unfold gD
    rw [if_pos h2]
  · have h1 := fg.cur.all (fun j hj => fg.none j (by rw [← fg.len]; exact hj)) (a := a) (by show a < S.flush.2.d.ps.length; rw [show S.flush.2.d.ps = S.d.ps from fg.ps, h.eight]; exact ha)
    have h2 : S.flush.2.lat a = gD v ins a := h1
    rw [h2]; exact gD_right v ins a
/-- One frame: what was put goes out as another page comes. -/
theorem one_frame {d : St} (h1 : d.down = false) (h2 : d.fuse = -1) (h3 : d.ps.length = 8) (hr : ∀ a, a < 8 → rightB ((latest d.ps d.ws).getD a []) = true) {t : List UInt8} (ht : t.length = 256) :
    ∃ S1 S2, (startP d 1).put 3 t = (0, S1) ∧ S1.d = d ∧ (∃ u, S1.fetch 4 = ⟨0, u, S2⟩) ∧ S2.d.ws = d.ws ++ [(3, t)] ∧ sorted (held S2.fs) = [4] := by
  have hne : t ≠ [] := fun h => by rw [h] at ht; cases ht
  have e1 : (startP d 1).put 3 t = (0, ⟨d, [⟨3, t, 0, true, true⟩], 0⟩) := by
    simp [PS.put, PS.find, PS.lay, PS.setF, PS.fm, startP, keys, Fm.key, idx, isAt, freeAt, noFm, ht, h3, List.findIdx?_cons]
  have hw := write_good h1 h2 (a := 3) ht (by omega)
  have hl4 : (latest d.ps (d.ws ++ [(3, t)])).getD 4 [] = (latest d.ps d.ws).getD 4 [] := by
    rw [latest_snoc, List.getD_eq_getElem?_getD, List.getElem?_set_ne (by show 3 ≠ 4; decide), List.getD_eq_getElem?_getD]
  have hrd : (St.read { d with ws := d.ws ++ [(3, t)] } 4) = (0, (latest d.ps d.ws).getD 4 []) := by
    have := read_good (S := { d with ws := d.ws ++ [(3, t)] }) h1 (a := 4) (by show 4 < d.ps.length; omega)
    rw [← hl4]; exact this
  have hr4 := hr 4 (by decide)
  generalize (latest d.ps d.ws).getD 4 [] = x at hrd hr4
  have hx : x ≠ [] := fun h => by rw [h] at hr4; exact absurd hr4 (by decide)
  have hw' : d.write 3 t = (0, { d with ws := d.ws ++ [(3, t)] }) := hw
  have e2 : PS.fetch ⟨d, [⟨3, t, 0, true, true⟩], 0⟩ 4 = ⟨0, x, ⟨{ d with ws := d.ws ++ [(3, t)] }, [⟨4, x, 1, false, true⟩], 0⟩⟩ := by
    simp [PS.fetch, PS.readIn, PS.find, chooseN, PS.vacate, PS.write, PS.bump, PS.setF, PS.fm, keys, Fm.key, idx, isAt, freeAt, hne, hw', hrd, hr4, List.findIdx?_cons]
  exact ⟨_, _, e1, rfl, ⟨x, e2⟩, rfl, by simp [held, keys, Fm.key, hx, sorted]⟩
end Go.Proofs.YtkcoclpbkealgaaDoor
