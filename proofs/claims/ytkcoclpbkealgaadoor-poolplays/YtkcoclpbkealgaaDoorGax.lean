/-
  PoolDirty, walked. The document's own pages of a pool: all, or the dirty ones. The document's own FlushAll. The document's own disk out of pages; its own pool, made. The program's pool and the document's own, side by side: what each call tells of both. The program's pool and the document's own in memory, apart, all of it made since w0.
-/
import Derived.Test.YtkcoclpbkealgaaDoorGaw
import Derived.Test.YtkcoclpbkealgaaDoorGav
namespace Go.Proofs.YtkcoclpbkealgaaDoor
open Go.RowKit
set_option maxRecDepth 40000

/-- What each page is: v where it was put, else nought. -/
def gD (v : UInt8) (ins : List Bool) (a : Nat) : List UInt8 := if ins.getD a false then goodL a v else goodL a 0
/-- A pool of eight frames over eight pages, into which was put. -/
structure DS (S : PS) (v : UInt8) (ins : List Bool) : Prop where
  cur : Cur S (gD v ins)
  eight : S.d.ps.length = 8
  ws : S.d.ws = []
  len : S.fs.length = 8
  zero : ∀ j, (S.fm j).pins = 0
  has : ∀ a : Nat, (∃ j : Nat, (keys S.fs)[j]? = some (some a)) ↔ ins.getD a false = true
  dirty : ∀ j, j < 8 → (S.fm j).data ≠ [] → (S.fm j).dirty = true
theorem gD_right (v : UInt8) (ins : List Bool) (a : Nat) : rightB (gD v ins a) = true := by unfold gD; split <;> exact goodL_right _ _
theorem gD_length (v : UInt8) (ins : List Bool) (a : Nat) : (gD v ins a).length = 256 := by unfold gD; split <;> exact goodL_length _ _
theorem DS.start {d : St} {v : UInt8} (hd : d = ⟨8, pagesL (List.replicate 8 0), [], -1, false⟩) : DS (startP d 8) v (List.replicate 8 false) := by
  subst hd
  have hno : ∀ j, (startP ⟨8, pagesL (List.replicate 8 0), [], -1, false⟩ 8).fm j = noFm := fun j => by
    show (List.replicate 8 noFm).getD j noFm = noFm
    rw [List.getD_eq_getElem?_getD, List.getElem?_replicate]
    split <;> rfl
  have hin : ∀ a, (List.replicate 8 false).getD a false = false := fun a => by rw [List.getD_eq_getElem?_getD, List.getElem?_replicate]; split <;> rfl
  refine ⟨⟨rfl, rfl, fun j _ hd => absurd (by rw [hno j]; rfl) hd, fun j _ hd => absurd (by rw [hno j]; rfl) hd, fun a ha _ => ?_⟩, by show (pagesL (List.replicate 8 0)).length = 8; rw [pagesL_length]; rfl, rfl, List.length_replicate, fun j => by rw [hno j]; rfl, fun a => ?_, fun j _ hd => absurd (by rw [hno j]; rfl) hd⟩
  · have ha9 : a < 8 := by have : a < (pagesL (List.replicate 8 0)).length := ha; rw [pagesL_length] at this; exact this
    show (latest (pagesL (List.replicate 8 0)) []).getD a [] = _
    have : latest (pagesL (List.replicate 8 0)) [] = pagesL (List.replicate 8 0) := rfl
    rw [this, pagesL_get (by exact ha9)]
    have h0 : (List.replicate 8 (0 : UInt8)).getD a 0 = 0 := by rw [List.getD_eq_getElem?_getD, List.getElem?_replicate]; split <;> rfl
    rw [h0]
    unfold pgL gD
    rw [if_pos (by decide), hin, if_neg (by decide)]
  · rw [hin]
    constructor
    · rintro ⟨j, hj⟩
      have : (keys (List.replicate 8 noFm))[j]? = some (some a) := hj
      rw [keys_start] at this
      exact absurd (List.mem_replicate.1 (List.mem_of_getElem? this)).2 (by simp)
    · intro h; cases h
theorem few_below : ∀ (n : Nat) (l : List Nat), l.Nodup → (∀ x ∈ l, x < n) → l.length ≤ n
  | 0, [], _, _ => Nat.le_refl _
  | 0, a :: _, _, h => absurd (h a (by simp)) (by omega)
  | n + 1, l, hn, h => by
    by_cases hm : n ∈ l
    · have ih := few_below n (l.erase n) (hn.erase n) (fun x hx => by
        have h1 := h x (List.mem_of_mem_erase hx)
        have h2 : x ≠ n := fun e => by subst e; exact hn.not_mem_erase hx
        omega)
      rw [List.length_erase_of_mem hm] at ih
      omega
    · have ih := few_below n l hn (fun x hx => by
        have h1 := h x hx
        have h2 : x ≠ n := fun e => hm (e ▸ hx)
        omega)
      omega
/-- Eight frames have room for eight pages. -/
theorem DS.free {S : PS} {v : UInt8} {ins : List Bool} (h : DS S v ins) (hI : Inv S) {a : Nat} (ha : a < 8) (hix : idx (a : Int) (keys S.fs) = none) : ∃ i, freeAt (keys S.fs) = some i := by
  cases hf : freeAt (keys S.fs) with
  | some i => exact ⟨i, rfl⟩
  | none =>
    exfalso
    -- all eight frames are full: eight pages below eight, a not among them
    have hfull : ∀ j, j < 8 → ∃ x, (keys S.fs)[j]? = some (some x) ∧ x < 8 := fun j hj => by
      have hjl : j < S.fs.length := by rw [h.len]; exact hj
      have h1 := freeAt_none hf j
      rw [keys_at hjl] at h1 ⊢
      cases hk : (S.fs.getD j noFm).key with
      | none => rw [hk] at h1; exact absurd rfl h1
      | some x =>
        obtain ⟨h2, h3⟩ := key_some hk
        have h4 := hI.in_ _ (getD_mem hjl) h2
        rw [h.eight] at h4
        exact ⟨x, rfl, by omega⟩
    have hnd := nodup_some hI.apart
    have hlen : ((keys S.fs).filterMap id).length = 8 := by
      have hall : ∀ o ∈ keys S.fs, (id o : Option Nat).isSome = true := fun o ho => by
        obtain ⟨j, hj⟩ := List.mem_iff_getElem?.1 ho
        obtain ⟨x, hx, _⟩ := hfull j (by have := (List.getElem?_eq_some_iff.1 hj).1; rw [keys_length, h.len] at this; exact this)
        rw [hx] at hj
        have : o = some x := by injection hj with e; exact e.symm
        rw [this]; rfl
      rw [List.length_filterMap_eq_countP, List.countP_eq_length.2 hall, keys_length, h.len]
    have := few_below 8 (a :: (keys S.fs).filterMap id) (List.nodup_cons.2 ⟨fun hm => by
        obtain ⟨j, hj⟩ := mem_held.1 (show a ∈ held S.fs from hm)
        exact idx_none hix j a hj rfl, hnd⟩) fun x hx => by
      rcases List.mem_cons.1 hx with rfl | hx
      · exact ha
      · obtain ⟨j, hj⟩ := mem_held.1 (show x ∈ held S.fs from hx)
        obtain ⟨y, hy, hy8⟩ := hfull j (by have := (List.getElem?_eq_some_iff.1 hj).1; rw [keys_length, h.len] at this; exact this)
        rw [hy] at hj
        have : y = x := by injection hj with e; injection e
        omega
    rw [List.length_cons, hlen] at this
    omega
theorem getD_set_bool {l : List Bool} {a : Nat} (ha : a < l.length) (b : Nat) : (l.set a true).getD b false = (decide (b = a) || l.getD b false) := by
  by_cases e : b = a
  · subst e; rw [List.getD_eq_getElem?_getD, List.getElem?_set_self ha, decide_eq_true rfl]; rfl
  · rw [List.getD_eq_getElem?_getD, List.getElem?_set_ne (fun h => e h.symm), decide_eq_false e, List.getD_eq_getElem?_getD]; rfl
theorem DS.put {S : PS} {v : UInt8} {ins : List Bool} (h : DS S v ins) (hI : Inv S) (hl : ins.length = 8) {a : Nat} (ha : a < 8) : ∃ S1, S.put (a : Int) (goodL a v) = (0, S1) ∧ DS S1 v (ins.set a true) := by
  have hne : goodL a v ≠ [] := goodL_ne a v
  have hb : ¬ ((goodL a v).length ≠ 256 ∨ (a : Int) < 0 ∨ (S.d.ps.length : Int) ≤ (a : Int)) := by rw [goodL_length, h.eight]; omega
  have pg := put_good hI h.cur (a := a) (by rw [h.eight]; exact ha) (goodL_length a v) (fun _ => ⟨0, by rw [h.len]; omega, h.zero 0⟩)
  have hG : upd (gD v ins) a (goodL a v) = gD v (ins.set a true) := by
    funext b
    unfold upd gD
    rw [getD_set_bool (by omega)]
    by_cases e : b = a
    · subst e; rw [if_pos rfl, decide_eq_true rfl]; rfl
    · rw [if_neg e, decide_eq_false e]; rfl
  -- one frame is laid
  obtain ⟨i, hi8, e, hk⟩ : ∃ i, i < 8 ∧ S.put (a : Int) (goodL a v) = (0, S.setF i (laid (S.fm i) a (goodL a v))) ∧ ((keys S.fs)[i]? = some none ∨ (keys S.fs)[i]? = some (some a)) := by
    cases hix : idx (a : Int) (keys S.fs) with
    | some i =>
      obtain ⟨h1, h2, h3⟩ := idx_full hix
      obtain ⟨x, h4, h5⟩ := idx_at hix
      have hx : x = a := by omega
      subst hx
      exact ⟨i, by rw [h.len] at h1; exact h1, by rw [PS.put_hit hb hix, lay_eq], .inr h4⟩
    | none =>
      obtain ⟨i, hi⟩ := h.free hI ha hix
      have hf := PS.find_free hi
      obtain ⟨h1, h2⟩ := freeAt_some hi
      rw [keys_length, h.len] at h1
      exact ⟨i, h1, by rw [PS.put_new hb hix (by rw [hf]), hf, lay_eq], .inl h2⟩
  have hil : i < S.fs.length := by rw [h.len]; exact hi8
  refine ⟨_, e, ?_⟩
  have hcur := pg.cur
  rw [e, hG] at hcur
  have hkk : keys (S.setF i (laid (S.fm i) a (goodL a v))).fs = (keys S.fs).set i (some a) := by
    show keys (S.fs.set _ _) = _; rw [keys_set, key_of (f := laid (S.fm i) a (goodL a v)) hne]; rfl
  refine ⟨hcur, h.eight, h.ws, (setF_len _ _ _).trans h.len, fun j => ?_, fun b => ?_, fun j hj hd => ?_⟩
  · by_cases ej : i = j
    · subst ej; rw [setF_fm_same hil]; exact h.zero i
    · rw [setF_fm_other ej]; exact h.zero j
  · rw [hkk, getD_set_bool (by omega), Bool.or_eq_true, decide_eq_true_eq, ← h.has b]
    constructor
    · rintro ⟨j, hj⟩
      by_cases ej : i = j
      · subst ej; rw [List.getElem?_set_self (by rw [keys_length]; exact hil)] at hj
        injection hj with e1; injection e1 with e1; exact .inl e1.symm
      · rw [List.getElem?_set_ne ej] at hj; exact .inr ⟨j, hj⟩
    · rintro (rfl | ⟨j, hj⟩)
      · exact ⟨i, List.getElem?_set_self (by rw [keys_length]; exact hil)⟩
      · by_cases ej : i = j
        · subst ej
          rcases hk with hk | hk
          · rw [hk] at hj; cases hj
          · rw [hk] at hj
            injection hj with e1; injection e1 with e1
            exact ⟨i, by rw [List.getElem?_set_self (by rw [keys_length]; exact hil), e1]⟩
        · exact ⟨j, by rw [List.getElem?_set_ne ej]; exact hj⟩
  · by_cases ej : i = j
    · subst ej; rw [setF_fm_same hil]; rfl
    · rw [setF_fm_other ej] at hd ⊢; exact h.dirty j hj hd
/-- The pages that were put, rising. -/
def insL (ins : List Bool) : List Nat := (List.range 8).filter (fun a => ins.getD a false)
theorem insL_take (ins : List Bool) (k : Nat) : ((List.range (k + 1)).filter (fun a => ins.getD a false)) = ((List.range k).filter (fun a => ins.getD a false)) ++ (if ins.getD k false then [k] else []) := by
  rw [List.range_succ, List.filter_append]
  congr 1
  cases h : ins.getD k false
  · rw [List.filter_cons, h]; rfl
  · rw [List.filter_cons, h]; rfl
theorem sorted_of {l m : List Nat} (hp : l.Perm m) (hm : m.Pairwise (fun a b => a ≤ b)) : sorted l = m := by
  unfold sorted
  refine List.Perm.eq_of_pairwise (fun _ _ _ _ x y => Nat.le_antisymm x y) ?_ hm ((List.mergeSort_perm _ _).trans hp)
  have h := List.pairwise_mergeSort (le := fun (x y : Nat) => decide (x ≤ y)) (fun a b c => by simp; omega) (fun a b => by simp; omega) l
  exact h.imp fun h => of_decide_eq_true h
theorem DS.dirties {S : PS} {v : UInt8} {ins : List Bool} (h : DS S v ins) (hI : Inv S) (hl : ins.length = 8) : sorted (YtkcoclpbkealgaaDoor.dirties S.fs) = insL ins := by
  refine sorted_of ?_ ?_
  · refine (List.perm_ext_iff_of_nodup ((nodup_some hI.apart).sublist (dirties_sub hI.dirty_full)) ((List.nodup_range).filter _)).2 fun a => ?_
    rw [List.mem_filter, List.mem_range, ← h.has a]
    constructor
    · intro hm
      have := (dirties_sub hI.dirty_full).subset hm
      obtain ⟨j, hj⟩ := mem_held.1 this
      refine ⟨?_, j, hj⟩
      have h2 := (h.has a).1 ⟨j, hj⟩
      by_cases ha : a < 8
      · exact ha
      · rw [List.getD_eq_getElem?_getD, List.getElem?_eq_none (by omega)] at h2; cases h2
    · rintro ⟨_, j, hj⟩
      have hjl : j < S.fs.length := by have := (List.getElem?_eq_some_iff.1 hj).1; rw [keys_length] at this; exact this
      rw [keys_at hjl] at hj
      obtain ⟨h2, h3⟩ := key_some (by injection hj : (S.fs.getD j noFm).key = some a)
      unfold YtkcoclpbkealgaaDoor.dirties
      exact List.mem_map.2 ⟨S.fm j, List.mem_filter.2 ⟨S.fm_mem hjl, h.dirty j (by rw [← h.len]; exact hjl) h2⟩, h3⟩
  · unfold insL
    exact List.Pairwise.filter _ ((List.pairwise_lt_range).imp fun h => Nat.le_of_lt h)
/-- Behind FlushAll. -/
theorem DS.flush {S : PS} {v : UInt8} {ins : List Bool} (h : DS S v ins) (hI : Inv S) (hl : ins.length = 8) : S.flush.1 = 0 ∧ YtkcoclpbkealgaaDoor.dirties S.flush.2.fs = [] ∧ S.flush.2.d.ws = (insL ins).map (fun a => (a, goodL a v)) ∧ S.flush.2.d.ps.length = 8 ∧ S.flush.2.d.down = false ∧ S.flush.2.d.fuse = -1 ∧ ∀ a, a < 8 → rightB (S.flush.2.lat a) = true := by
  have fg := flush_good hI h.cur
  have hd := h.dirties hI hl
  refine ⟨fg.e, dirties_none fun j hj => fg.none j (by rw [← fg.len]; exact hj), ?_, by rw [show S.flush.2.d.ps = S.d.ps from fg.ps]; exact h.eight, fg.cur.up, fg.cur.fuse, fun a ha => ?_⟩
  · have := fg.ws
    rw [h.ws, List.nil_append, hd] at this
    refine (show S.flush.2.d.ws = (insL ins).map (fun a => (a, gD v ins a)) from (by unfold PS.flush; rw [hd]; exact this)).trans ?_
    refine List.map_congr_left fun a ha => ?_
    unfold insL at ha
    have h2 := (List.mem_filter.1 ha).2
    unfold gD
    rw [if_pos h2]
  · have h1 := fg.cur.all (fun j hj => fg.none j (by rw [← fg.len]; exact hj)) (a := a) (by show a < S.flush.2.d.ps.length; rw [show S.flush.2.d.ps = S.d.ps from fg.ps, h.eight]; exact ha)
    have h2 : S.flush.2.lat a = gD v ins a := h1
    rw [h2]; exact gD_right v ins a
/-- One frame: what was put goes out as another page comes. -/
theorem one_frame {d : St} (h1 : d.down = false) (h2 : d.fuse = -1) (h3 : d.ps.length = 8) (hr : ∀ a, a < 8 → rightB ((latest d.ps d.ws).getD a []) = true) {t : List UInt8} (ht : t.length = 256) :
    ∃ S1 S2, (startP d 1).put 3 t = (0, S1) ∧ S1.d = d ∧ (∃ u, S1.fetch 4 = ⟨0, u, S2⟩) ∧ S2.d.ws = d.ws ++ [(3, t)] ∧ sorted (held S2.fs) = [4] := by
  have hne : t ≠ [] := fun h => by rw [h] at ht; cases ht
  have e1 : (startP d 1).put 3 t = (0, ⟨d, [⟨3, t, 0, true, true⟩], 0⟩) := by
    simp [PS.put, PS.find, PS.lay, PS.setF, PS.fm, startP, keys, Fm.key, idx, isAt, freeAt, noFm, ht, h3, List.findIdx?_cons]
  have hw := write_good h1 h2 (a := 3) ht (by omega)
  have hl4 : (latest d.ps (d.ws ++ [(3, t)])).getD 4 [] = (latest d.ps d.ws).getD 4 [] := by
    rw [latest_snoc, List.getD_eq_getElem?_getD, List.getElem?_set_ne (by show 3 ≠ 4; decide), List.getD_eq_getElem?_getD]
  have hrd : (St.read { d with ws := d.ws ++ [(3, t)] } 4) = (0, (latest d.ps d.ws).getD 4 []) := by
    have := read_good (S := { d with ws := d.ws ++ [(3, t)] }) h1 (a := 4) (by show 4 < d.ps.length; omega)
    rw [← hl4]; exact this
  have hr4 := hr 4 (by decide)
  generalize (latest d.ps d.ws).getD 4 [] = x at hrd hr4
  have hx : x ≠ [] := fun h => by rw [h] at hr4; exact absurd hr4 (by decide)
  have hw' : d.write 3 t = (0, { d with ws := d.ws ++ [(3, t)] }) := hw
  have e2 : PS.fetch ⟨d, [⟨3, t, 0, true, true⟩], 0⟩ 4 = ⟨0, x, ⟨{ d with ws := d.ws ++ [(3, t)] }, [⟨4, x, 1, false, true⟩], 0⟩⟩ := by
    simp [PS.fetch, PS.readIn, PS.find, chooseN, PS.vacate, PS.write, PS.bump, PS.setF, PS.fm, keys, Fm.key, idx, isAt, freeAt, hne, hw', hrd, hr4, List.findIdx?_cons]
  exact ⟨_, _, e1, rfl, ⟨x, e2⟩, rfl, by simp [held, keys, Fm.key, hx, sorted]⟩
end Go.Proofs.YtkcoclpbkealgaaDoor
namespace Go.Proofs.YtkcoclpbkealgaaDoor
open Go.RowKit
set_option maxRecDepth 20000

def selB (d : Bool) (T : PS) (a : Nat) : Bool := match idx (a : Int) (keys T.fs) with | some i => (T.fm i).dirty || !d | none => false
def rpL (d : Bool) (T : PS) (n : Nat) : List Nat := (List.range n).filter (selB d T)
theorem rpL_succ (d : Bool) (T : PS) (k : Nat) : rpL d T (k + 1) = rpL d T k ++ (if selB d T k then [k] else []) := by
  unfold rpL
  rw [List.range_succ, List.filter_append]
  congr 1
  cases h : selB d T k
  · rw [List.filter_cons, h]; rfl
  · rw [List.filter_cons, h]; rfl
theorem rpL_le (d : Bool) (T : PS) (k : Nat) : (rpL d T k).length ≤ k := by
  unfold rpL
  exact Nat.le_trans (List.length_filter_le _ _) (by rw [List.length_range]; exact Nat.le_refl _)
theorem idx_some {T : PS} (hI : Inv T) {a j : Nat} (hj : (keys T.fs)[j]? = some (some a)) : idx (a : Int) (keys T.fs) = some j := idx_eq hI.apart hj rfl
theorem pages_held {T : PS} (hI : Inv T) (h : T.d.ps.length ≤ 200) : sorted (held T.fs) = rpL false T 200 := by
  refine sorted_of ?_ ?_
  · refine (List.perm_ext_iff_of_nodup (nodup_some hI.apart) ((List.nodup_range).filter _)).2 fun a => ?_
    rw [List.mem_filter, List.mem_range]
    constructor
    · intro hm
      obtain ⟨j, hj⟩ := mem_held.1 hm
      have hi := idx_some hI hj
      obtain ⟨hjl, hjf, hja⟩ := idx_full hi
      have := hI.in_ _ (T.fm_mem hjl) hjf
      refine ⟨by omega, ?_⟩
      unfold selB
      rw [hi]
      show ((T.fm j).dirty || !false) = true
      cases (T.fm j).dirty <;> rfl
    · rintro ⟨_, hs⟩
      unfold selB at hs
      cases hi : idx (a : Int) (keys T.fs) with
      | none => rw [hi] at hs; cases hs
      | some j =>
        obtain ⟨hjl, hjf, hja⟩ := idx_full hi
        refine mem_held.2 ⟨j, ?_⟩
        rw [keys_at hjl]
        show some (T.fm j).key = _
        rw [key_of hjf]
        exact congrArg (fun n => some (some n)) (by omega)
  · unfold rpL
    exact List.Pairwise.filter _ ((List.pairwise_lt_range).imp fun h => Nat.le_of_lt h)
theorem pages_dirty {T : PS} (hI : Inv T) (h : T.d.ps.length ≤ 200) : sorted (dirties T.fs) = rpL true T 200 := by
  refine sorted_of ?_ ?_
  · refine (List.perm_ext_iff_of_nodup ((nodup_some hI.apart).sublist (dirties_sub hI.dirty_full)) ((List.nodup_range).filter _)).2 fun a => ?_
    rw [List.mem_filter, List.mem_range]
    constructor
    · intro hm
      unfold dirties at hm
      obtain ⟨f, hf, rfl⟩ := List.mem_map.1 hm
      obtain ⟨hf1, hf2⟩ := List.mem_filter.1 hf
      obtain ⟨i, hi, rfl⟩ := mem_getD hf1
      have hne := hI.dirty_full _ hf1 hf2
      have hx : idx (((T.fs.getD i noFm).at_ : Nat) : Int) (keys T.fs) = some i := idx_eq hI.apart (by rw [keys_at hi, key_of hne]) rfl
      have := hI.in_ _ hf1 hne
      refine ⟨by omega, ?_⟩
      unfold selB
      rw [hx]
      show ((T.fs.getD i noFm).dirty || !true) = true
      rw [hf2]; rfl
    · rintro ⟨_, hs⟩
      unfold selB at hs
      cases hi : idx (a : Int) (keys T.fs) with
      | none => rw [hi] at hs; cases hs
      | some j =>
        rw [hi] at hs
        obtain ⟨hjl, hjf, hja⟩ := idx_full hi
        unfold dirties
        exact List.mem_map.2 ⟨T.fm j, List.mem_filter.2 ⟨T.fm_mem hjl, by simpa using hs⟩, by omega⟩
  · unfold rpL
    exact List.Pairwise.filter _ ((List.pairwise_lt_range).imp fun h => Nat.le_of_lt h)

set_option maxHeartbeats 8000000 in
theorem rpages_any {w : World} {m p g c q : Nat} {G : Nat → Prop} {T : PS} (P : RP w m p g c q G T) (d : Bool) :
    Calls Tryd.prog 29 #[.pointer (some ⟨p, 0, none⟩), .bool d] w fun e w' => ∃ v, e = .returned v ∧ Pl w' (Fresh w) 3 1 v (intsL (rpL d T 200)) ∧ New w w' := by
  have HP : Hid (RP w m p g c q G T) := P
  clear P
  go_enter Tryd.func29, Tryd.ntmps29
  go_wp2_with fail
  go_loopw [5, 6] (fun v u wr => ∃ i : Nat, u = .int .i64 (i : Int) ∧ i ≤ 200 ∧ Hid (Pl wr (Fresh w) 3 1 v (intsL (rpL d T i)) ∧ New w wr)) (fun _ u _ => 200 - (intOf u).toNat)
  case atStart => exact ⟨0, rfl, by omega, Pl.nil _ _ _ _, New.refl _⟩
  case round =>
    obtain ⟨i, rfl, hi, HI⟩ := hrel
    by_cases h : i < 200
    · have h' : (i : Int) < 200 := by omega
      have P1 := HP.out.after HI.out.2
      have hh := rhas_any P1 (i : Int)
      have HX : Hid (rpL d T (i + 1) = rpL d T i ++ (if selB d T i then [i] else [])) := rpL_succ d T i
      have HL : Hid ((intsL (rpL d T i)).length ≤ 1000000) := by show (intsL (rpL d T i)).length ≤ 1000000; rw [intsL_length]; have := rpL_le d T i; omega
      cases hx : idx (i : Int) (keys T.fs) with
      | none =>
        have hz : idxZ (i : Int) (keys T.fs) = -1 := by unfold idxZ; rw [hx]
        have HS : Hid (selB d T i = false) := by show selB d T i = false; unfold selB; rw [hx]
        rw [hz] at hh
        clear hz hx P1
        go_wp2_with fail
        refine hh.mono ?_
        rintro _ w2 ⟨rfl, rfl⟩
        clear hh
        go_wp2_with fail
        refine ⟨⟨i + 1, by simp, by omega, ?_⟩, by simp [intOf]; omega⟩
        rw [HX.out, HS.out, if_neg (by decide), List.append_nil]
        exact HI.out
      | some j =>
        have hz : idxZ (i : Int) (keys T.fs) = (j : Int) := by unfold idxZ; rw [hx]
        obtain ⟨hjl, _, _⟩ := idx_full hx
        have HS : Hid (selB d T i = ((T.fm j).dirty || !d)) := by show selB d T i = _; unfold selB; rw [hx]
        have k3 : wr.cell? ⟨g, j * 5 + 3, none⟩ = some (.bool (T.fm j).dirty) := P1.cells hjl 3 _ rfl
        have c1 : wr.cell? ⟨p, 1, none⟩ = some (.slice (some ⟨g, 0, none⟩) T.fs.length c) := P1.row.cell 1
        have h64 := P1.inv.most
        rw [hz] at hh
        generalize T.fs.length = n at hjl c1 h64
        have h0 : (0 : Int) ≤ (j : Int) := by omega
        have hj' : (j : Int) < (n : Int) := by omega
        generalize (T.fm j).dirty = b at HS k3
        clear hz hx P1
        go_wp2_with fail
        refine hh.mono ?_
        rintro _ w2 ⟨rfl, rfl⟩
        clear hh
        cases b <;> cases d
        · go_wp2_with (first
            | (refine wpList_append_pl (HI.out.1.after ((New.refl w2).alloc _)) (by rfl) _ _ 56 (by rfl) Tryd.underlying56 _ _ info3 rfl (by decide) w2.heap.size [.int .i64 (i : Int)] 3 (Row.new w2 _ 3) rfl (fun u hu => by obtain rfl : u = .int .i64 (i : Int) := (by simpa using hu); rfl) HL.out (by decide) (by rfl) (by rfl) ?_; intro g3 cap3 W4 Q4 G4))
          have hsz := HI.out.2.size
          refine ⟨⟨i + 1, by simp, by omega, ?_⟩, by simp [intOf]; omega⟩
          rw [HX.out, HS.out, if_pos (by decide)]
          refine ⟨?_, ?_⟩
          · unfold intsL at Q4 ⊢
            rw [List.map_append]
            refine Q4.mono fun b hb _ => ?_
            rcases hb with hb | hb
            · exact hb
            · rw [World.size_alloc] at hb
              show w.heap.size ≤ b
              omega
          · exact (HI.out.2.trans ((New.refl w2).alloc _)).grown G4 fun k hk => HI.out.1.foot k hk
        · go_wp2_with fail
          refine ⟨⟨i + 1, by simp, by omega, ?_⟩, by simp [intOf]; omega⟩
          rw [HX.out, HS.out, if_neg (by decide), List.append_nil]
          exact HI.out
        · go_wp2_with (first
            | (refine wpList_append_pl (HI.out.1.after ((New.refl w2).alloc _)) (by rfl) _ _ 56 (by rfl) Tryd.underlying56 _ _ info3 rfl (by decide) w2.heap.size [.int .i64 (i : Int)] 3 (Row.new w2 _ 3) rfl (fun u hu => by obtain rfl : u = .int .i64 (i : Int) := (by simpa using hu); rfl) HL.out (by decide) (by rfl) (by rfl) ?_; intro g3 cap3 W4 Q4 G4))
          have hsz := HI.out.2.size
          refine ⟨⟨i + 1, by simp, by omega, ?_⟩, by simp [intOf]; omega⟩
          rw [HX.out, HS.out, if_pos (by decide)]
          refine ⟨?_, ?_⟩
          · unfold intsL at Q4 ⊢
            rw [List.map_append]
            refine Q4.mono fun b hb _ => ?_
            rcases hb with hb | hb
            · exact hb
            · rw [World.size_alloc] at hb
              show w.heap.size ≤ b
              omega
          · exact (HI.out.2.trans ((New.refl w2).alloc _)).grown G4 fun k hk => HI.out.1.foot k hk
        · go_wp2_with (first
            | (refine wpList_append_pl (HI.out.1.after ((New.refl w2).alloc _)) (by rfl) _ _ 56 (by rfl) Tryd.underlying56 _ _ info3 rfl (by decide) w2.heap.size [.int .i64 (i : Int)] 3 (Row.new w2 _ 3) rfl (fun u hu => by obtain rfl : u = .int .i64 (i : Int) := (by simpa using hu); rfl) HL.out (by decide) (by rfl) (by rfl) ?_; intro g3 cap3 W4 Q4 G4))
          have hsz := HI.out.2.size
          refine ⟨⟨i + 1, by simp, by omega, ?_⟩, by simp [intOf]; omega⟩
          rw [HX.out, HS.out, if_pos (by decide)]
          refine ⟨?_, ?_⟩
          · unfold intsL at Q4 ⊢
            rw [List.map_append]
            refine Q4.mono fun b hb _ => ?_
            rcases hb with hb | hb
            · exact hb
            · rw [World.size_alloc] at hb
              show w.heap.size ≤ b
              omega
          · exact (HI.out.2.trans ((New.refl w2).alloc _)).grown G4 fun k hk => HI.out.1.foot k hk
    · obtain rfl : i = 200 := by omega
      go_wp2_with fail
      go_ret
      exact ⟨_, rfl, HI.out.1, HI.out.2⟩
end Go.Proofs.YtkcoclpbkealgaaDoor
namespace Go.Proofs.YtkcoclpbkealgaaDoor
open Go.RowKit
set_option maxRecDepth 20000

theorem rflush_facts {w : World} {m p g c q i : Nat} {G : Nat → Prop} {T : PS} (P : RP w m p g c q G T) (hm : m < 1000) (hi : i < T.fs.length) (hd : (T.fm i).dirty = true) :
    ∃ (n : Nat) (t : ByteArray), w.cell? ⟨p, 0, none⟩ = some (.pointer (some ⟨q, 0, none⟩)) ∧ w.cell? ⟨p, 1, none⟩ = some (.slice (some ⟨g, 0, none⟩) n c) ∧ w.cell? ⟨g, i * 5 + 1, none⟩ = some (.string t) ∧ (i : Int) < (n : Int) ∧ n ≤ 64 ∧
      ∀ w3, New w w3 → Calls Tryd.prog 51 #[.pointer (some ⟨q, 0, none⟩), .int .i64 ((T.fm i).at_ : Int), .string t] w3 fun e w' => e = .returned (.int .i64 (T.write i).1) ∧
        ((T.write i).1 = 0 → w'.cell? ⟨p, 1, none⟩ = some (.slice (some ⟨g, 0, none⟩) n c) ∧ (∃ v3, w'.cell? ⟨g, i * 5 + 3, none⟩ = some v3) ∧ w'.frozen? ⟨g, i * 5 + 3, none⟩ = false ∧ RPL p g c q G m w (T.write i).2 (w'.setCell ⟨g, i * 5 + 3, none⟩ (.bool false))) ∧
        ((T.write i).1 ≠ 0 → RPL p g c q G m w (T.write i).2 w') := by
  have hc := P.cells hi
  have hrm := P.room
  have hfew := write_few T.d ((T.fm i).at_ : Int) (T.fm i).data
  have hps := write_ps T.d ((T.fm i).at_ : Int) (T.fm i).data
  refine ⟨T.fs.length, bs (T.fm i).data, P.row.cell 0, P.row.cell 1, hc 1 _ rfl, by omega, P.inv.most, fun w3 n3 => ?_⟩
  have hk := refwrite_any (P.disk.after n3) ((T.fm i).at_ : Int) (bs (T.fm i).data) (by omega)
  rw [L_bs] at hk
  have e1 : (T.write i).1 = (T.d.write ((T.fm i).at_ : Int) (T.fm i).data).1 := by unfold PS.write; split; rename_i h; exact h.symm; rfl
  refine hk.mono ?_
  rintro _ w' ⟨rfl, l6⟩
  refine ⟨by rw [e1], fun h0 => ?_, fun h0 => ?_⟩
  · rw [e1] at h0
    have hw6 : (T.d.write ((T.fm i).at_ : Int) (T.fm i).data).2.ws.length = T.d.ws.length + 1 := by rcases hfew with h | h; exact h.2; exact absurd h0 h.1
    obtain ⟨G5, P5, s6⟩ := ((P.after n3).mono (Nat.le_succ m)).call l6 hps (by omega)
    have e2 : (T.write i).2 = PS.setF { T with d := (T.d.write ((T.fm i).at_ : Int) (T.fm i).data).2 } i { T.fm i with dirty := false } := by unfold PS.write; rw [if_pos h0]; rfl
    have hI := P.inv.write hi hd
    have hp := PS.write_pins hi P.pins
    have hr := PS.write_room hi hd
    rw [e2] at hI hp hr ⊢
    refine ⟨P5.row.cell 1, ⟨_, P5.cells (i := i) hi 3 _ rfl⟩, P5.frozen _, G5, P5.frame (f := { T.fm i with dirty := false }) (But.setCell' w' g _ _) (P5.fieldPl hi (by decide) rfl) hI hp (Nat.le_trans (Nat.le_of_eq hr) hrm), ((Step.new n3).trans s6).trans ((But.setCell' w' g _ _).step (.inr (.inl rfl)))⟩
  · rw [e1] at h0
    have hw6 : (T.d.write ((T.fm i).at_ : Int) (T.fm i).data).2.ws = T.d.ws := by rcases hfew with h | h; exact absurd h.1 h0; exact h.2
    obtain ⟨G5, P5, s6⟩ := (P.after n3).call l6 hps (by rw [hw6]; exact hrm)
    have e2 : (T.write i).2 = { T with d := (T.d.write ((T.fm i).at_ : Int) (T.fm i).data).2 } := by unfold PS.write; rw [if_neg h0]
    rw [e2]
    exact ⟨G5, P5, (Step.new n3).trans s6⟩
theorem raside_pl {p g : Nat} {F F' : Nat → Prop} {w w' : World} {t : TypeId} {k : Nat} {v : Value} {es : List (List Value)} (h : Pl w (fun x => ¬ rown p g F x) t k v es) (s : Step (rown p g F) (rown p g F') w w') : Pl w' (fun x => ¬ rown p g F' x) t k v es :=
  h.of (fun b hb hlt => s.block b hlt hb) (fun b hb hlt h2 => (s.foot b h2).elim hb (by omega))

set_option maxHeartbeats 8000000 in
theorem rflush_any {w : World} {m p g c q : Nat} {G : Nat → Prop} {T : PS} (P : RP w m p g c q G T) (hm : m < 1000) :
    Calls Tryd.prog 22 #[.pointer (some ⟨p, 0, none⟩)] w fun e w' => e = .returned (.int .i64 T.flush.1) ∧ RPL p g c q G m w T.flush.2 w' := by
  have hdi := rpages_any P true
  rw [← pages_dirty P.inv (Nat.le_trans P.disk.ok.len P.disk.ok.lim)] at hdi
  have HP : Hid (RP w m p g c q G T) := P
  have HD : Hid (Dy T (sorted (dirties T.fs))) := Dy.start P.inv
  obtain ⟨l, hl⟩ : ∃ l, sorted (dirties T.fs) = l := ⟨_, rfl⟩
  have hlen : l.length ≤ 64 := by rw [← hl, sorted_length]; exact Nat.le_trans (dirties_le _) P.inv.most
  rw [hl] at hdi HD
  obtain ⟨r, hr⟩ : ∃ r, T.flush = r := ⟨_, rfl⟩
  have HR : Hid (flushL l T = r) := by show flushL l T = r; rw [← hr, PS.flush, hl]
  rw [hr]
  clear P hl hr
  go_enter Tryd.func22, Tryd.ntmps22
  go_wp2_with fail
  refine hdi.mono ?_
  rintro _ w1 ⟨v, rfl, Q1, N1⟩
  obtain ⟨av, cv, hv, _⟩ := Q1.form
  rw [intsL_length] at hv
  subst hv
  have HQ : Hid (Pl w1 (fun x => ¬ rown p g G x) 3 1 (.slice av l.length cv) (intsL l)) := Q1.mono fun x hx _ h2 => by have := HP.out.own_lt x h2; have h3 : w.heap.size ≤ x := hx; omega
  clear Q1 hdi
  go_wp2_with fail
  go_loopw [4] (fun u wr => ∃ (k : Nat) (S' : PS) (F' : Nat → Prop), u = .int .i64 (k : Int) ∧ k ≤ l.length ∧ Hid (RP wr m p g c q F' S' ∧ Step (rown p g G) (rown p g F') w wr ∧ Dy S' (l.drop k) ∧ flushL (l.drop k) S' = r ∧ Pl wr (fun x => ¬ rown p g F' x) 3 1 (.slice av l.length cv) (intsL l))) (fun u _ => l.length - (intOf u).toNat)
  case atStart => exact ⟨0, T, G, rfl, by omega, HP.out.after N1, Step.new N1, HD.out, HR.out, HQ.out⟩
  case round =>
    obtain ⟨k, S', F', rfl, hk, HI⟩ := hrel
    by_cases h : k < l.length
    · obtain ⟨P', s', D', e', Q'⟩ := HI.out
      rw [List.drop_eq_getElem_cons h] at D' e'
      obtain ⟨i, hi, hd⟩ := D'.dirty _ List.mem_cons_self
      have hla : l.getD k 0 = l[k] := by rw [List.getD_eq_getElem?_getD, List.getElem?_eq_getElem h]; rfl
      obtain ⟨g0, c0, e0, _⟩ := Q'.full (by rw [intsL_length]; omega)
      rw [intsL_length] at e0
      cases e0
      have kk := Q'.num h
      rw [hla] at kk
      rw [flushL_cons hi] at e'
      have D2 := D'.next hi
      obtain ⟨hil, hif, hia⟩ := idx_full hi
      have hh := rhas_any P' (l[k] : Int)
      rw [show idxZ (l[k] : Int) (keys S'.fs) = (i : Int) by unfold idxZ; rw [hi]] at hh
      obtain ⟨n, t, c0', c1, k1, hin, h64, hw⟩ := rflush_facts P' hm hil hd
      rw [hia] at hw
      have HS : Hid (Step (rown p g G) (rown p g F') w wr ∧ Pl wr (fun x => ¬ rown p g F' x) 3 1 (.slice (some ⟨g0, 0, none⟩) l.length cv) (intsL l)) := ⟨s', Q'⟩
      obtain ⟨x, hx⟩ : ∃ x, l[k] = x := ⟨_, rfl⟩
      rw [hx] at kk hh hw
      obtain ⟨y, hy⟩ : ∃ y, S'.write i = y := ⟨_, rfl⟩
      rw [hy] at hw e' D2
      have HD2 : Hid (Dy y.2 (l.drop (k + 1))) := D2
      have HE2 : Hid ((if y.1 = 0 then flushL (l.drop (k + 1)) y.2 else y) = r) := e'
      have HW : Hid _ := hw
      have h' : (k : Int) < (l.length : Int) := by omega
      have hi0 : (0 : Int) ≤ (i : Int) := by omega
      clear P' s' D' e' Q' hi hd hla D2 hil hif hia hx hy HI HQ HD HR HP hw
      go_wp2_with fail
      refine hh.mono ?_
      rintro _ w2 ⟨rfl, rfl⟩
      clear hh
      have hne := NewW.ne w2
      have q0 : ∀ q' : NewW w2, q'.v.cell? ⟨p, 0, none⟩ = some (.pointer (some ⟨q, 0, none⟩)) := fun q' => NewW.cell c0' q'
      have q1 : ∀ q' : NewW w2, q'.v.cell? ⟨p, 1, none⟩ = some (.slice (some ⟨g, 0, none⟩) n c) := fun q' => NewW.cell c1 q'
      have q2 : ∀ q' : NewW w2, q'.v.cell? ⟨g, i * 5 + 1, none⟩ = some (.string t) := fun q' => NewW.cell k1 q'
      have q3 : ∀ q' : NewW w2, q'.v.cell? ⟨g0, k, none⟩ = some (.int .i64 (x : Int)) := fun q' => NewW.cell kk q'
      go_wp2_with fail
      refine region_first 16 2 w2 (New.refl w2) (by kernel_rfl) (by kernel_rfl) ?_
      simp only [List.take_succ_cons, List.take_zero, List.drop_succ_cons, List.drop_zero, List.take_nil]
      iterate 16 (go_big_quiet_step (fail))
      refine wpQuiet_nil ?_
      rintro W5 ⟨⟨_, N5⟩, rfl⟩
      clear q0 q1 q2 q3 hne c0' c1 k1 kk
      go_wp2_with fail
      refine (HW.out W5 N5).mono ?_
      rintro _ w6 ⟨rfl, h60, h61⟩
      clear HW
      by_cases he : y.1 = 0
      · obtain ⟨c1, ⟨v3, k3⟩, z3, F2, P2, s2⟩ := h60 he
        have HG : Hid (RP (w6.setCell ⟨g, i * 5 + 3, none⟩ (.bool false)) m p g c q F2 y.2 ∧ Step (rown p g G) (rown p g F2) w (w6.setCell ⟨g, i * 5 + 3, none⟩ (.bool false)) ∧ Dy y.2 (l.drop (k + 1)) ∧ flushL (l.drop (k + 1)) y.2 = r ∧ Pl (w6.setCell ⟨g, i * 5 + 3, none⟩ (.bool false)) (fun x => ¬ rown p g F2 x) 3 1 (.slice (some ⟨g0, 0, none⟩) l.length cv) (intsL l)) :=
          ⟨P2, HS.out.1.trans s2, HD2.out, by have := HE2.out; rw [if_pos he] at this; exact this, raside_pl HS.out.2 s2⟩
        rw [he]
        clear P2 s2 h60 h61 HE2 HD2 HS
        go_wp2_with fail
        exact ⟨⟨k + 1, y.2, F2, by simp, by omega, HG.out⟩, by simp [intOf]; omega⟩
      · obtain ⟨F2, P2, s2⟩ := h61 he
        have HG : Hid (y = r ∧ RPL p g c q G m w y.2 w6) := ⟨by have := HE2.out; rw [if_neg he] at this; exact this, F2, P2, HS.out.1.trans s2⟩
        obtain ⟨z, hz⟩ : ∃ z, y.1 = z := ⟨_, rfl⟩
        have HZ : Hid (y.1 = z) := hz
        rw [hz] at he ⊢
        clear P2 s2 hz h60 h61 HE2 HD2 HS
        go_wp2_with fail
        go_ret
        obtain ⟨e1, e2⟩ := HG.out
        rw [← e1]
        exact ⟨ret_int HZ.out.symm, e2⟩
    · obtain rfl : k = l.length := by omega
      go_wp2_with fail
      go_ret
      obtain ⟨P', s', _, e', _⟩ := HI.out
      rw [List.drop_length] at e'
      rw [← e']
      exact ⟨rfl, F', P', s'⟩
end Go.Proofs.YtkcoclpbkealgaaDoor
namespace Go.Proofs.YtkcoclpbkealgaaDoor
open Go.RowKit
set_option maxRecDepth 20000

theorem rd_from {W w1 w : World} {lim : Nat} {l : List (List UInt8)} {v : Value} (hP : Pl W (Fresh w1) 9 1 v (l.map textL)) (hN : New w1 W) (R1 : Row w1 w.heap.size #[.int .i64 (lim : Int), .slice none 0 0, .slice none 0 0, .int .i64 (-1), .bool false] 63) (hs : ∀ x ∈ l, x.length = 256) (h2 : lim ≤ 200) (h3 : l.length ≤ lim) :
    Rd (W.setCell ⟨w.heap.size, 1, none⟩ v) (fun b => w.heap.size ≤ b ∧ b < W.heap.size) w.heap.size ⟨lim, l, [], -1, false⟩ := by
  have hlt := R1.lt
  have hs1 := hN.size
  have e : ∀ b, b ≠ w.heap.size → (W.setCell ⟨w.heap.size, 1, none⟩ v).heap[b]? = W.heap[b]? := fun b hb => Below.heap_setCell _ _ _ _ hb
  refine ⟨⟨hs, (fun x hx => by cases hx), h2, h3, Nat.zero_le _, (by show (-9223372036854775808 : Int) ≤ -1; decide), (by show (-1 : Int) ≤ 9223372036854775807; decide)⟩, ⟨Nat.le_refl _, by omega⟩, (fun b hb => by simpa [World.setCell] using hb.2), v, .slice none 0 0, (R1.after hN).set 1 v, ?_, Pl.nil _ _ _ _⟩
  refine hP.of (fun b hb _ => e b (fun h => ?_)) (fun b hb hl => ⟨⟨?_, hl⟩, fun h => ?_⟩)
  · have : w1.heap.size ≤ b := hb; omega
  · have : w1.heap.size ≤ b := hb; omega
  · have : w1.heap.size ≤ b := hb; omega

set_option maxHeartbeats 4000000 in
theorem reffrom_pages {w w0 : World} {v : Value} {l : List (List UInt8)} (h : Pl w (Fresh w0) 9 1 v (l.map textL)) (hs : ∀ x ∈ l, x.length = 256) (lim : Nat) (h1 : 1 ≤ lim) (h2 : lim ≤ 200) (h3 : l.length ≤ lim) :
    Calls Tryd.prog 11 #[v, .int .i64 (lim : Int)] w fun e w' => New w w' ∧ ∃ p F, e = .returned (.tuple #[.pointer (some ⟨p, 0, none⟩), .bool true]) ∧ Rd w' F p ⟨lim, l, [], -1, false⟩ ∧ ∀ b, F b → w.heap.size ≤ b := by
  obtain ⟨a, c, rfl, _⟩ := h.form
  obtain ⟨hT, hn⟩ := texts_of h
  have HT : Hid (Texts w a (l.map bs)) := hT
  have HS : Hid (∀ x ∈ l, x.length = 256) := hs
  have HL : Hid (1 ≤ lim ∧ lim ≤ 200 ∧ l.length ≤ lim) := ⟨h1, h2, h3⟩
  have hnew := refnew_yes w (lim : Int) (by omega) (by omega)
  rw [List.length_map]
  obtain ⟨n, hnn⟩ : ∃ n, l.length = n := ⟨_, rfl⟩
  have HN : Hid (l.length = n) := hnn
  have h3' : (n : Int) ≤ (lim : Int) := by omega
  have h200 : n ≤ 200 := by omega
  rw [hnn]
  clear h hT hn hs h1 h2 h3 hnn
  go_enter Tryd.func11, Tryd.ntmps11
  go_wp2_with fail
  refine hnew.mono ?_
  rintro _ w1 ⟨rfl, N1, R1⟩
  have HR : Hid (New w w1 ∧ Row w1 w.heap.size #[.int .i64 (lim : Int), .slice none 0 0, .slice none 0 0, .int .i64 (-1), .bool false] 63) := ⟨N1, R1⟩
  clear hnew R1
  go_wp2_with fail
  go_loopw [8] (fun u wr => ∃ i : Nat, u = .int .i64 (i : Int) ∧ i ≤ n ∧ wr = w1) (fun u _ => n - (intOf u).toNat)
  case atStart => exact ⟨0, rfl, by omega, by trivial⟩
  case round =>
    obtain ⟨i, rfl, hi, rfl⟩ := hrel
    by_cases hin : i < n
    · have hin' : (i : Int) < (n : Int) := by omega
      obtain ⟨x, rfl, hx⟩ := (HT.out.after N1) (by rw [List.length_map]; have := HN.out; omega)
      have hx0 := hx i (by rw [List.length_map]; have := HN.out; omega)
      have hil : i < l.length := by have := HN.out; omega
      have hg : (l.map bs).getD i ⟨#[]⟩ = bs l[i] := by rw [List.getD_eq_getElem?_getD, List.getElem?_map, List.getElem?_eq_getElem hil]; rfl
      have hz : ((bs l[i]).size : Int) = 256 := by rw [bs_size, HS.out _ (List.getElem_mem hil)]; rfl
      rw [hg] at hx0
      generalize bs l[i] = s at hx0 hz
      clear hx hg hil
      go_wp2_with fail
      exact ⟨⟨i + 1, by go_num, by omega, by trivial⟩, by simp [intOf]; omega⟩
    · obtain rfl : i = n := by omega
      obtain ⟨N1, R1⟩ := HR.out
      obtain ⟨v, W, hr, hP, hN⟩ := run_copied wr 28 9 28 (.string ⟨#[]⟩) 16 Tryd.underlying28 info9 rfl (by decide) a c ((l.map bs).map Value.string) (texts_cells (HT.out.after N1)) (fun u hu => by obtain ⟨t, _, rfl⟩ := List.mem_map.1 hu; rfl) (by rw [List.length_map, List.length_map, HN.out]; omega)
      rw [List.length_map, List.length_map, HN.out] at hr
      have hcell : W.cell? ⟨w.heap.size, 1, none⟩ = some (.slice none 0 0) := (R1.after hN).cell 1
      have hfr := (R1.after hN).frozen 1
      have HW : Hid (New w W) := N1.trans hN
      have hP' : Pl W (Fresh wr) 9 1 v (l.map textL) := by rw [List.map_map, List.map_map] at hP; exact hP
      have HD : Hid (Rd (W.setCell ⟨w.heap.size, 1, none⟩ v) (fun b => w.heap.size ≤ b ∧ b < W.heap.size) w.heap.size ⟨lim, l, [], -1, false⟩) := rd_from hP' hN R1 HS.out HL.out.2.1 HL.out.2.2
      obtain ⟨a', c', hv, _⟩ := hP'.form
      rw [List.length_map] at hv
      subst hv
      clear hP R1 hP'
      go_wp2_with (refine wpList_appends (by rfl) _ _ 28 28 _ _ _ W (by rfl) (by rfl) (by rfl) (by rfl) hr ?_)
      go_ret2
      exact ⟨HW.out.setCell (Nat.le_refl _) _, _, _, rfl, HD.out, fun b hb => hb.1⟩

theorem built95 (q : Addr) : Tryd.prog.built 95 [(0, .pointer (some q))] = some #[.pointer (some q), .slice none 0 0, .int .i64 0] := by kernel_rfl
def MadeR (w : World) (q : Nat) (G : Nat → Prop) (d : St) (n : Nat) (e : Ending) (w' : World) : Prop :=
  ∃ p g c, e = .returned (.tuple #[.pointer (some ⟨p, 0, none⟩), .bool true]) ∧ (∀ m, d.ws.length ≤ m → RP w' m p g c q G (startP d n)) ∧ w.heap.size ≤ p ∧ w.heap.size ≤ g ∧ New w w'
theorem rnew_no {w : World} (q : Nat) (n : Int) (h : n < 1 ∨ 64 < n) :
    Calls Tryd.prog 13 #[.pointer (some ⟨q, 0, none⟩), .int .i64 n] w fun e w' => e = .returned (.tuple #[.pointer none, .bool false]) ∧ w' = w := by
  by_cases h1 : n < 1
  · go_enter Tryd.func13, Tryd.ntmps13
    go_wp2_with fail
    go_ret2
    exact ⟨rfl, rfl⟩
  · have h2 : 64 < n := by omega
    clear h
    go_enter Tryd.func13, Tryd.ntmps13
    go_wp2_with fail
    go_ret2
    exact ⟨rfl, rfl⟩
set_option maxHeartbeats 4000000 in
theorem rnew_any {w : World} {q : Nat} {G : Nat → Prop} {d : St} (D : Rd w G q d) (n : Nat) (h1 : 1 ≤ n) (h64 : n ≤ 64) :
    Calls Tryd.prog 13 #[.pointer (some ⟨q, 0, none⟩), .int .i64 (n : Int)] w fun e w' => MadeR w q G d n e w' := by
  have t1 : ¬ (n : Int) < 1 := by omega
  have t2 : ¬ (64 : Int) < (n : Int) := by omega
  have HD : Hid (Rd w G q d) := D
  have HN : Hid (1 ≤ n ∧ n ≤ 64) := ⟨h1, h64⟩
  clear D
  go_enter Tryd.func13, Tryd.ntmps13
  go_wp2_with (first | (refine wpList_build1 (by rfl) _ _ (by rfl) _ (by rfl) _ (built95 _) ?_) | (refine wpList_box_at (by rfl) 20 (by rfl) 95 _ (by rfl) _ (by rfl) ?_; intro W3 R3 M3))
  have HW : Hid (Row W3 w.heap.size #[.pointer (some ⟨q, 0, none⟩), .slice none 0 0, .int .i64 0] 95 ∧ New w W3) := ⟨R3, M3⟩
  clear R3 M3
  go_loopw [7] (fun u wr => ∃ (i : Nat) (v : Value), u = .int .i64 (i : Int) ∧ i ≤ n ∧ Hid (Row wr w.heap.size #[.pointer (some ⟨q, 0, none⟩), v, .int .i64 0] 95 ∧ Pl wr (fun x => w.heap.size ≤ x ∧ x ≠ w.heap.size) 97 5 v (List.replicate i (rfL noFm)) ∧ New w wr)) (fun u _ => n - (intOf u).toNat)
  case atStart => exact ⟨0, _, rfl, by omega, HW.out.1, Pl.nil _ _ _ _, HW.out.2⟩
  case round =>
    obtain ⟨i, v, rfl, hi, HI⟩ := hrel
    by_cases h : i < n
    · have h' : (i : Int) < (n : Int) := by omega
      obtain ⟨R, Q, N⟩ := HI.out
      obtain ⟨av, cv, hv, _⟩ := Q.form
      rw [List.length_replicate] at hv
      subst hv
      have c1 := R.cell 1
      have hlt := R.lt
      go_wp2_with (first
        | (refine wpList_build1 (by rfl) _ _ (by rfl) _ (by rfl) _ built97 ?_)
        | (refine wpList_build_one (by rfl) 93 _ (by rfl) Tryd.underlying93 _ _ info97 (rfL noFm).toArray (by rfl) rfl (by decide) (by decide) ?_; intro W4 R4 M4; have Q4 := Q.after M4)
        | (refine wpList_append_pl Q4 (by rfl) _ _ 93 (by rfl) Tryd.underlying93 _ _ info97 rfl (by decide) wr.heap.size (rfL noFm) 97 R4 rfl (rfL_one noFm) (by rw [List.length_replicate]; omega) (by decide) (by rfl) (by rfl) ?_; intro g3 cap3 W5 Q5 G5; have R5 : Row W5 w.heap.size _ 95 := (R.after M4).of (G5.block w.heap.size (Nat.lt_of_lt_of_le hlt M4.size) (fun e => (Q4.foot _ e.symm).2 rfl)); have hs2 := R5.cell 1; have hs3 := R5.frozen 1))
      have N5 : New w W5 := (N.trans M4).grown G5 fun k hk => (Q4.foot k hk).1
      have hsz := N.size
      have hm4 := M4.size
      refine ⟨⟨i + 1, _, by simp, by omega, R5.set 1 _, ?_, N5.setCell (Nat.le_refl _) _⟩, by simp [intOf]; omega⟩
      have Q6 : Pl W5 (fun x => w.heap.size ≤ x ∧ x ≠ w.heap.size) 97 5 (.slice (some ⟨g3, 0, none⟩) (i + 1) cap3) (List.replicate (i + 1) (rfL noFm)) := by
        rw [List.length_replicate] at Q5
        rw [List.replicate_succ']
        refine Q5.mono fun b hb _ => ?_
        rcases hb with hb | hb
        · exact hb
        · exact ⟨by omega, by omega⟩
      exact Q6.of (fun b hb _ => Below.heap_setCell W5 ⟨w.heap.size, 1, none⟩ _ b hb.2) (fun _ h _ => h)
    · obtain rfl : i = n := by omega
      go_wp2_with fail
      go_ret2
      obtain ⟨h1, h64⟩ := HN.out
      obtain ⟨R, Q, N⟩ := HI.out
      obtain ⟨g, c, rfl, hg, hgl, _⟩ := Q.full (by rw [List.length_replicate]; exact h1)
      rw [List.length_replicate] at R Q
      have lt : ∀ x, G x → x < w.heap.size := HD.out.inside
      refine ⟨_, g, c, rfl, fun m hm => ?_, Nat.le_refl _, hg.1, N⟩
      exact {
        inv := inv_start h1 h64
        row := by show Row wr w.heap.size #[_, .slice _ (List.replicate i noFm).length c, _] 95; rw [List.length_replicate]; exact R
        pl := by show Pl wr _ 97 5 (.slice _ (List.replicate i noFm).length c) ((List.replicate i noFm).map rfL); rw [List.length_replicate, List.map_replicate]; exact { Q with foot := fun b hb => by cases hb; rfl }
        disk := HD.out.after N
        pg := fun e => hg.2 e.symm
        np := fun h => by have := lt _ h; omega
        ng := fun h => by have := lt _ h; have := hg.1; omega
        pins := fun f hf => by rw [(List.mem_replicate.1 hf).2]; exact Nat.zero_le _
        room := by show d.ws.length + nd (List.replicate i noFm) ≤ m; rw [nd_start]; omega }
end Go.Proofs.YtkcoclpbkealgaaDoor
namespace Go.Proofs.YtkcoclpbkealgaaDoor
open Go.RowKit
set_option maxRecDepth 20000

def refF (n : Int) : Int := if n > -1 then n else -1
structure Like (S R : St) : Prop where
  lim : R.lim = S.lim
  ps : R.ps = S.ps
  ws : R.ws = S.ws
  down : R.down = S.down
  fuse : S.down = false → R.fuse = refF S.fuse
theorem refF_zero (n : Int) : refF n = 0 ↔ n = 0 := by unfold refF; split <;> omega
theorem refF_burn (n : Int) (h : n ≠ 0) : (if 0 < refF n then refF n - 1 else refF n) = refF (if 0 < n then n - 1 else n) := by
  unfold refF
  by_cases h1 : 0 < n
  · simp only [if_pos h1, if_pos (show n > -1 by omega), if_pos (show n - 1 > -1 by omega)]
  · simp only [if_neg h1, if_neg (show ¬ n > -1 by omega)]
    decide
theorem Like.burn {S R : St} (h : Like S R) (hz : S.fuse ≠ 0) : Like S.burn R.burn := by
  refine ⟨h.lim, h.ps, h.ws, h.down, fun hd => ?_⟩
  unfold St.burn
  simp only
  rw [h.fuse hd, refF_burn _ hz]
theorem Like.dead {S R : St} (h : Like S R) : Like S.dead R.dead := ⟨h.lim, h.ps, h.ws, rfl, fun hd => by cases hd⟩
theorem Like.zero {S R : St} (h : Like S R) (hd : S.down = false) : R.fuse = 0 ↔ S.fuse = 0 := by rw [h.fuse hd, refF_zero]
theorem Like.new (lim : Nat) : Like ⟨lim, [], [], -1, false⟩ ⟨lim, [], [], -1, false⟩ := ⟨rfl, rfl, rfl, rfl, fun _ => rfl⟩
theorem Like.read {S R : St} (h : Like S R) (a : Int) : R.read a = S.read a := by unfold St.read; rw [h.down, h.ps, h.ws]
theorem Like.write {S R : St} (h : Like S R) (a : Int) (d : List UInt8) : (R.write a d).1 = (S.write a d).1 ∧ Like (S.write a d).2 (R.write a d).2 ∧ (S.write a d).2.lim = S.lim ∧ (S.write a d).2.ws.length ≤ S.ws.length + 1 := by
  unfold St.write
  rw [h.down, h.ps]
  cases hd : S.down
  · simp only [Bool.false_eq_true, ↓reduceIte]
    split
    · exact ⟨rfl, h, rfl, by show S.ws.length ≤ _; omega⟩
    split
    · exact ⟨rfl, h, rfl, by show S.ws.length ≤ _; omega⟩
    by_cases hz : S.fuse = 0
    · rw [if_pos hz, if_pos ((h.zero hd).2 hz)]
      exact ⟨rfl, h.dead, rfl, by show S.ws.length ≤ _; omega⟩
    · rw [if_neg hz, if_neg (fun h' => hz ((h.zero hd).1 h'))]
      have hb := h.burn hz
      refine ⟨rfl, ⟨hb.lim, hb.ps, ?_, hb.down, hb.fuse⟩, rfl, ?_⟩
      · show R.ws ++ _ = S.ws ++ _
        rw [h.ws]
      · show (S.ws ++ [_]).length ≤ _
        rw [List.length_append, List.length_singleton]; omega
  · exact ⟨rfl, h, rfl, by show S.ws.length ≤ _; omega⟩
theorem Like.setFuse {S R : St} (h : Like S R) (n : Int) : Like (S.setFuse n) (R.refFuse n) ∧ (S.setFuse n).lim = S.lim ∧ (S.setFuse n).ws.length ≤ S.ws.length := by
  unfold St.setFuse St.refFuse
  cases hd : S.down
  · rw [if_neg (by decide)]
    exact ⟨⟨h.lim, h.ps, h.ws, h.down.trans hd, fun _ => rfl⟩, rfl, by show S.ws.length ≤ _; omega⟩
  · rw [if_pos rfl]
    exact ⟨⟨h.lim, h.ps, h.ws, h.down, fun h' => by rw [hd] at h'; cases h'⟩, rfl, by omega⟩
theorem Like.crash {S R : St} (h : Like S R) (cs : List UInt8) : Like (S.crash cs) (R.crash cs) ∧ (S.crash cs).lim = S.lim ∧ (S.crash cs).ws.length ≤ S.ws.length := by
  unfold St.crash
  rw [h.lim, h.ps, h.ws]
  exact ⟨⟨rfl, rfl, rfl, rfl, fun _ => rfl⟩, rfl, Nat.zero_le _⟩


/-- Both pools: the same frames, the same hand, disks alike. -/
structure LikeP (S T : PS) : Prop where
  fs : T.fs = S.fs
  hand : T.hand = S.hand
  d : Like S.d T.d
theorem LikeP.fm {S T : PS} (h : LikeP S T) (i : Nat) : T.fm i = S.fm i := by unfold PS.fm; rw [h.fs]
theorem LikeP.start {d e : St} (h : Like d e) (n : Nat) : LikeP (startP d n) (startP e n) := ⟨rfl, rfl, h⟩
theorem LikeP.write {S T : PS} (h : LikeP S T) (i : Nat) : (T.write i).1 = (S.write i).1 ∧ LikeP (S.write i).2 (T.write i).2 := by
  obtain ⟨h1, h2, _⟩ := h.d.write (S.fm i).at_ (S.fm i).data
  unfold PS.write
  rw [h.fm, h1]
  split
  · exact ⟨rfl, by show T.fs.set i _ = S.fs.set i _; rw [h.fs], h.hand, h2⟩
  · exact ⟨rfl, h.fs, h.hand, h2⟩
theorem LikeP.setF {S T : PS} (h : LikeP S T) (i : Nat) (f : Fm) : LikeP (S.setF i f) (T.setF i f) := ⟨by show T.fs.set i f = S.fs.set i f; rw [h.fs], h.hand, h.d⟩
theorem LikeP.vacate {S T : PS} (h : LikeP S T) (i : Nat) : (T.vacate i).1 = (S.vacate i).1 ∧ LikeP (S.vacate i).2 (T.vacate i).2 := by
  obtain ⟨h1, h2⟩ := h.write i
  unfold PS.vacate
  rw [h.fm, h1]
  split
  · split
    · exact ⟨rfl, h2.setF i noFm⟩
    · exact ⟨h1, h2⟩
  · exact ⟨rfl, h.setF i noFm⟩
theorem LikeP.find {S T : PS} (h : LikeP S T) : T.find.e = S.find.e ∧ T.find.i = S.find.i ∧ LikeP S.find.S T.find.S := by
  unfold PS.find
  rw [h.fs, h.hand]
  cases freeAt (keys S.fs) with
  | some i => exact ⟨rfl, rfl, h⟩
  | none =>
    simp only
    generalize chooseN S.hand S.fs.length (2 * S.fs.length) 0 S.fs = r
    obtain ⟨o, fs⟩ := r
    cases o with
    | none => exact ⟨rfl, rfl, rfl, rfl, h.d⟩
    | some i =>
      have hv := LikeP.vacate (S := ⟨S.d, fs, i⟩) (T := ⟨T.d, fs, i⟩) ⟨rfl, rfl, h.d⟩ i
      obtain ⟨h1, h2⟩ := hv
      simp only [h1]
      split
      · exact ⟨rfl, rfl, h2.fs, rfl, h2.d⟩
      · exact ⟨rfl, rfl, h2⟩
theorem LikeP.readIn {S T : PS} (h : LikeP S T) (a : Int) : (T.readIn a).e = (S.readIn a).e ∧ (T.readIn a).i = (S.readIn a).i ∧ LikeP (S.readIn a).S (T.readIn a).S := by
  obtain ⟨h1, h2, h3⟩ := h.find
  unfold PS.readIn
  rw [h1, h2, h3.d.read]
  split
  · split
    · split
      · exact ⟨rfl, rfl, h3.setF _ _⟩
      · exact ⟨rfl, rfl, h3⟩
    · exact ⟨rfl, rfl, h3⟩
  · exact ⟨rfl, rfl, h3⟩
theorem LikeP.bump {S T : PS} (h : LikeP S T) (i : Nat) : LikeP (S.bump i) (T.bump i) := by
  unfold PS.bump; rw [h.fm]; exact h.setF i _
theorem LikeP.fetch {S T : PS} (h : LikeP S T) (a : Int) : (T.fetch a).e = (S.fetch a).e ∧ (T.fetch a).t = (S.fetch a).t ∧ LikeP (S.fetch a).S (T.fetch a).S := by
  unfold PS.fetch
  rw [h.fs]
  cases idx a (keys S.fs) with
  | some i => exact ⟨rfl, by show (T.fm i).data = _; rw [h.fm], h.bump i⟩
  | none =>
    obtain ⟨h1, h2, h3⟩ := h.readIn a
    simp only [h1, h2]
    split
    · exact ⟨rfl, by show ((T.readIn a).S.fm _).data = _; rw [h3.fm], h3.bump _⟩
    · exact ⟨rfl, rfl, h3⟩
theorem LikeP.unpin {S T : PS} (h : LikeP S T) (a : Int) : (T.unpin a).1 = (S.unpin a).1 ∧ LikeP (S.unpin a).2 (T.unpin a).2 := by
  unfold PS.unpin
  rw [h.fs]
  cases idx a (keys S.fs) with
  | some i =>
    simp only [h.fm]
    split
    · exact ⟨rfl, h⟩
    · exact ⟨rfl, h.setF i _⟩
  | none => exact ⟨rfl, h⟩
theorem LikeP.lay {S T : PS} (h : LikeP S T) (i : Nat) (a : Int) (t : List UInt8) : LikeP (S.lay i a t) (T.lay i a t) := by
  unfold PS.lay; rw [h.fm]; exact h.setF i _
theorem LikeP.put {S T : PS} (h : LikeP S T) (a : Int) (t : List UInt8) : (T.put a t).1 = (S.put a t).1 ∧ LikeP (S.put a t).2 (T.put a t).2 := by
  unfold PS.put
  rw [h.fs, h.d.ps]
  split
  · exact ⟨rfl, h⟩
  · cases idx a (keys S.fs) with
    | some i => exact ⟨rfl, h.lay i a t⟩
    | none =>
      obtain ⟨h1, h2, h3⟩ := h.find
      simp only [h1, h2]
      split
      · exact ⟨rfl, h3.lay _ a t⟩
      · exact ⟨rfl, h3⟩
theorem LikeP.flushL : ∀ (l : List Nat) {S T : PS}, LikeP S T → (flushL l T).1 = (flushL l S).1 ∧ LikeP (YtkcoclpbkealgaaDoor.flushL l S).2 (YtkcoclpbkealgaaDoor.flushL l T).2
  | [], _, _, h => ⟨rfl, h⟩
  | a :: l, S, T, h => by
    unfold YtkcoclpbkealgaaDoor.flushL
    rw [h.fs]
    obtain ⟨h1, h2⟩ := h.write ((idx (a : Int) (keys S.fs)).getD 0)
    rw [h1]
    split
    · exact LikeP.flushL l h2
    · exact ⟨h1, h2⟩
theorem LikeP.flush {S T : PS} (h : LikeP S T) : T.flush.1 = S.flush.1 ∧ LikeP S.flush.2 T.flush.2 := by
  unfold PS.flush
  rw [h.fs]
  exact LikeP.flushL _ h
theorem LikeP.held {S T : PS} (h : LikeP S T) : sorted (held T.fs) = sorted (held S.fs) := by rw [h.fs]
theorem LikeP.dirties {S T : PS} (h : LikeP S T) : sorted (dirties T.fs) = sorted (dirties S.fs) := by rw [h.fs]
/-- The disks' own calls. -/
theorem LikeP.disk {S T : PS} (h : LikeP S T) {d e : St} (k : Like d e) : LikeP { S with d := d } { T with d := e } := ⟨h.fs, h.hand, k⟩
end Go.Proofs.YtkcoclpbkealgaaDoor
namespace Go.Proofs.YtkcoclpbkealgaaDoor
open Go.RowKit
set_option maxRecDepth 20000

theorem Inv.disk {S : PS} (h : Inv S) {d : St} (hl : d.ps.length = S.d.ps.length) : Inv { S with d := d } :=
  ⟨h.few, h.most, h.hand, h.none, h.size, fun f hf hn => by show f.at_ < d.ps.length; rw [hl]; exact h.in_ f hf hn, h.apart⟩
/-- The disk's own call. -/
theorem Pool.disk {w w' : World} {m p g b q : Nat} {F : Nat → Prop} {S : PS} {d : St} (P : Pool w m p g b q F S) (k : Left F q w d w') (hl : d.ps.length = S.d.ps.length) (hr : d.ws.length ≤ S.d.ws.length) : PLeft p g b q F m w { S with d := d } w' := by
  obtain ⟨F', B', s⟩ := P.bits.call k
  exact ⟨F', ⟨P.inv.disk hl, B', P.pins, Nat.le_trans (Nat.add_le_add_right hr _) P.room⟩, s⟩
theorem RP.disk' {w w' : World} {m p g c q : Nat} {G : Nat → Prop} {T : PS} {d : St} (h : RP w m p g c q G T) (k : RLeft G q w d w') (hl : d.ps.length = T.d.ps.length) (hr : d.ws.length ≤ T.d.ws.length) : RPL p g c q G m w { T with d := d } w' := by
  obtain ⟨G', hd, hs⟩ := k
  have ltp := h.row.lt
  have ltg := h.g_lt
  have out : ∀ x, x < w.heap.size → ¬ G x → ¬ G' x := fun x hx hn hf => by rcases hs.foot x hf with h1 | h1; exact hn h1; omega
  refine ⟨G', h.make (T' := { T with d := d }) (h.inv.disk hl) rfl (h.row.of (hs.block p ltp h.np)) (h.pl.of (fun x hx hlt => hs.block x hlt (hx ▸ h.ng)) (fun _ h _ => h)) hd (out p ltp h.np) (out g ltg h.ng) h.pins (Nat.le_trans (Nat.add_le_add_right hr _) h.room), ?_⟩
  refine ⟨hs.os, hs.tape, hs.output, hs.size, fun x hlt hx => hs.block x hlt (fun hg => hx (.inr (.inr hg))), fun x hx => ?_⟩
  rcases hx with rfl | rfl | hx
  · exact .inl (.inl rfl)
  · exact .inl (.inr (.inl rfl))
  · exact (hs.foot x hx).imp (fun h => .inr (.inr h)) id

structure Duo (w0 w : World) (m p g b q p' g' c q' : Nat) (F G : Nat → Prop) (S T : PS) : Prop where
  P : Pool w m p g b q F S
  R : RP w m p' g' c q' G T
  sep : ∀ x, own p g b F x → ¬ rown p' g' G x
  AF : Above w0.heap.size w0 w (own p g b F)
  AG : Above w0.heap.size w0 w (rown p' g' G)
  z : 0 < w0.heap.size
section
variable {w0 w w' : World} {m p g b q p' g' c q' : Nat} {F G : Nat → Prop} {S T : PS}
theorem Duo.new (h : Duo w0 w m p g b q p' g' c q' F G S T) (n : New w w') : Duo w0 w' m p g b q p' g' c q' F G S T := ⟨h.P.after n, h.R.after n, h.sep, h.AF.new n, h.AG.new n, h.z⟩
theorem Duo.mono (h : Duo w0 w m p g b q p' g' c q' F G S T) {n : Nat} (hn : m ≤ n) : Duo w0 w n p g b q p' g' c q' F G S T := ⟨h.P.mono hn, h.R.mono hn, h.sep, h.AF, h.AG, h.z⟩
theorem Duo.left (h : Duo w0 w m p g b q p' g' c q' F G S T) {m' : Nat} (hm : m ≤ m') {S' : PS} (k : PLeft p g b q F m' w S' w') : ∃ F', Duo w0 w' m' p g b q p' g' c q' F' G S' T ∧ Step (own p g b F) (own p g b F') w w' := by
  obtain ⟨F', P', s⟩ := k
  have hA := h.AF.step s
  refine ⟨F', ⟨P', (h.R.of (fun x hx => s.block x (h.R.own_lt x hx) (fun hf => h.sep x hf hx)) s.size).mono hm, fun x hx hg => ?_, hA, ⟨hA.below, h.AG.foot, hA.size⟩, h.z⟩, s⟩
  rcases s.foot x hx with h1 | h1
  · exact h.sep x h1 hg
  · have := h.R.own_lt x hg
    omega
theorem Pool.of (h : Pool w m p g b q F S) {G G' : Nat → Prop} (s : Step G G' w w') (hd : ∀ x, own p g b F x → ¬ G x) (h0 : ¬ G 0) : Pool w' m p g b q F S := by
  have e : ∀ x, own p g b F x → w'.heap[x]? = w.heap[x]? := fun x hx => s.block x (h.bits.own_lt x hx) (hd x hx)
  refine ⟨h.inv, { h.bits with
    tab := h.bits.tab.of (s.block 0 h.bits.tab.1 h0) s.size
    row := h.bits.row.of (e p (.inl rfl))
    pl := h.bits.pl.of (fun x hx _ => e x (.inr (.inl hx))) (fun _ h _ => h)
    map := by obtain ⟨D, h1, h2⟩ := h.bits.map; exact ⟨D, owns_of h1 (e b (.inr (.inr (.inl rfl)))), h2⟩
    disk := h.bits.disk.of (fun x hx => e x (.inr (.inr (.inr hx)))) s.size }, h.pins, h.room⟩
theorem Duo.right (h : Duo w0 w m p g b q p' g' c q' F G S T) {m' : Nat} (hm : m ≤ m') {T' : PS} (k : RPL p' g' c q' G m' w T' w') : ∃ G', Duo w0 w' m' p g b q p' g' c q' F G' S T' ∧ Step (rown p' g' G) (rown p' g' G') w w' := by
  obtain ⟨G', R', s⟩ := k
  have hA := h.AG.step s
  refine ⟨G', ⟨(h.P.of s h.sep (fun h0 => by have := h.AG.foot 0 h0; have := h.z; omega)).mono hm, R', fun x hx hg => ?_, ⟨hA.below, h.AF.foot, hA.size⟩, hA, h.z⟩, s⟩
  rcases s.foot x hg with h1 | h1
  · exact h.sep x hx h1
  · have := h.P.bits.own_lt x hx
    omega
theorem Duo.toNew (h : Duo w0 w m p g b q p' g' c q' F G S T) : New w0 w := h.AF.below
theorem Row.aside {cs : Array Value} {t : TypeId} {k : Nat} {F F' : Nat → Prop} (R : Row w k cs t) (s : Step F F' w w') (hn : ¬ F k) : Row w' k cs t ∧ ¬ F' k :=
  ⟨R.of (s.block k R.lt hn), fun h => (s.foot k h).elim hn (fun h => by have := R.lt; omega)⟩
end
/-- A new pair. -/
theorem Duo.make {w0 w w' w2 : World} {p g b q p' g' c q' n : Nat} {F G : Nat → Prop} {d : St} (hz : 0 < w0.heap.size) (hN : New w0 w) (hF : ∀ x, F x → w0.heap.size ≤ x) (hG : ∀ x, G x → w0.heap.size ≤ x) (hFG : ∀ x, F x → ¬ G x)
    (hp : w.heap.size ≤ p) (hg : w.heap.size ≤ g) (hb : w.heap.size ≤ b) (P : ∀ m, d.ws.length ≤ m → Pool w' m p g b q F (startP d n)) (N1 : New w w') (hGl : ∀ x, G x → x < w.heap.size)
    (hp' : w'.heap.size ≤ p') (hg' : w'.heap.size ≤ g') (R : ∀ m, d.ws.length ≤ m → RP w2 m p' g' c q' G (startP d n)) (N2 : New w' w2) (hd : d.ws = []) : Duo w0 w2 0 p g b q p' g' c q' F G (startP d n) (startP d n) := by
  have P0 := P 0 (by rw [hd]; exact Nat.le_refl _)
  have s0 := hN.size
  have s1 := N1.size
  have NN := (hN.trans N1).trans N2
  refine ⟨P0.after N2, R 0 (by rw [hd]; exact Nat.le_refl _), fun x hx hr => ?_, ⟨NN, fun x hx => ?_, NN.size⟩, ⟨NN, fun x hx => ?_, NN.size⟩, hz⟩
  · have hl := P0.bits.own_lt x hx
    rcases hr with rfl | rfl | hr
    · omega
    · omega
    · have := hGl x hr
      rcases hx with rfl | rfl | rfl | hx
      · omega
      · omega
      · omega
      · exact hFG x hx hr
  · rcases hx with rfl | rfl | rfl | hx
    · omega
    · omega
    · omega
    · exact hF x hx
  · rcases hx with rfl | rfl | hx
    · omega
    · omega
    · exact hG x hx
end Go.Proofs.YtkcoclpbkealgaaDoor
