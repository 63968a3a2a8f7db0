/-
  Fetch, Put and FlushAll over a sound disk.
-/
import Derived.Test.YtkcoclpbkealgaaDoorQMath
namespace Go.Proofs.YtkcoclpbkealgaaDoor

theorem setF_fm_same {S : PS} {i : Nat} (hi : i < S.fs.length) (f : Fm) : (S.setF i f).fm i = f := getD_set_same hi f
theorem setF_fm_other {S : PS} {i j : Nat} (h : i ≠ j) (f : Fm) : (S.setF i f).fm j = S.fm j := getD_set_other h f
theorem setF_len (S : PS) (i : Nat) (f : Fm) : (S.setF i f).fs.length = S.fs.length := List.length_set ..

/-- What Fetch leaves: the page stands in frame i, with a pin more. -/
structure FetchGood (S : PS) (G : Nat → List UInt8) (a i : Nat) : Prop where
  e : (S.fetch (a : Int)).e = 0
  t : (S.fetch (a : Int)).t = G a
  cur : Cur (S.fetch (a : Int)).S G
  lt : i < S.fs.length
  idx : YtkcoclpbkealgaaDoor.idx (a : Int) (keys (S.fetch (a : Int)).S.fs) = some i
  pins : ((S.fetch (a : Int)).S.fm i).pins = (S.fm i).pins + 1
  pins' : ∀ j, j ≠ i → ((S.fetch (a : Int)).S.fm j).pins = (S.fm j).pins
  at_' : ∀ j, j ≠ i → ((S.fetch (a : Int)).S.fm j).at_ = (S.fm j).at_
  data' : ∀ j, j ≠ i → ((S.fetch (a : Int)).S.fm j).data = (S.fm j).data
  len : (S.fetch (a : Int)).S.fs.length = S.fs.length
  ps : (S.fetch (a : Int)).S.d.ps = S.d.ps
  was : YtkcoclpbkealgaaDoor.idx (a : Int) (keys S.fs) = some i ∨ YtkcoclpbkealgaaDoor.idx (a : Int) (keys S.fs) = none ∧ (S.fm i).pins = 0
theorem fetch_good {S : PS} {G : Nat → List UInt8} (hI : Inv S) (hC : Cur S G) {a : Nat} (ha : a < S.d.ps.length) (hr : rightB (G a) = true) (hp : idx (a : Int) (keys S.fs) = none → ∃ j, j < S.fs.length ∧ (S.fm j).pins = 0) : ∃ i, FetchGood S G a i := by
  cases hix : idx (a : Int) (keys S.fs) with
  | some i =>
    obtain ⟨hi, hf, hat⟩ := idx_full hix
    have e := PS.fetch_hit hix
    refine ⟨i, by rw [e], by rw [e, show a = (S.fm i).at_ by omega]; exact hC.frame i hi hf, by rw [e]; exact hC.same hi rfl rfl rfl, hi, ?_, ?_, fun j hj => ?_, fun j hj => ?_, fun j hj => ?_, by rw [e]; exact setF_len _ _ _, by rw [e]; rfl, .inl hix⟩
    · rw [e]; show idx (a : Int) (keys (S.fs.set i _)) = some i
      rw [keys_same hi (f := { S.fm i with pins := (S.fm i).pins + 1, used := true }) rfl rfl]; exact hix
    · rw [e]; show ((S.setF i _).fm i).pins = _; rw [setF_fm_same hi]
    · rw [e]; show ((S.setF i _).fm j).pins = _; rw [setF_fm_other (fun h => hj h.symm)]
    · rw [e]; show ((S.setF i _).fm j).at_ = _; rw [setF_fm_other (fun h => hj h.symm)]
    · rw [e]; show ((S.setF i _).fm j).data = _; rw [setF_fm_other (fun h => hj h.symm)]
  | none =>
    obtain ⟨j0, hj0, hp0⟩ := hp hix
    have fg := find_good hI hC hj0 hp0
    have fo := find_ok hI fg.e
    have hil : S.find.i < S.find.S.fs.length := by rw [fo.len]; exact fo.lt
    have hrd : S.find.S.d.read (a : Int) = (0, G a) := by
      rw [read_good fg.cur.up (by rw [fo.ps]; exact ha)]
      have := fg.cur.out a (by rw [fo.ps]; exact ha) (fo.none _ hix)
      exact congrArg (Prod.mk (0 : Int)) this
    have e1 := PS.readIn_yes (S := S) (a := (a : Int)) fg.e (by rw [hrd]) (by rw [hrd]; exact hr)
    rw [hrd, Int.toNat_natCast] at e1
    have e := PS.fetch_yes hix (by rw [e1])
    rw [e1] at e
    simp only [setF_fm_same hil] at e
    have hb : (S.find.S.setF S.find.i ⟨a, G a, 0, false, false⟩).bump S.find.i = S.find.S.setF S.find.i ⟨a, G a, 1, false, true⟩ := by
      unfold PS.bump
      rw [setF_fm_same hil]
      unfold PS.setF
      simp only [List.set_set, Nat.zero_add]
    rw [hb] at e
    have hne : G a ≠ [] := fun h => by rw [h] at hr; exact absurd hr (by decide)
    have hk : keys (S.find.S.setF S.find.i ⟨a, G a, 1, false, true⟩).fs = (keys S.find.S.fs).set S.find.i (some a) := by
      show keys (S.find.S.fs.set _ _) = _; rw [keys_set, key_of hne]
    have hA : Apart ((keys S.find.S.fs).set S.find.i (some a)) := by
      have h0 : Apart (keys S.find.S.fs) := by
        intro x y z hx hy
        by_cases ex : x = S.find.i
        · subst ex; rw [fo.empty] at hx; cases hx
        · by_cases ey : y = S.find.i
          · subst ey; rw [fo.empty] at hy; cases hy
          · have kx : ∀ x, x ≠ S.find.i → (keys S.find.S.fs)[x]? = some (some z) → (keys S.fs)[x]? = some (some z) := fun x ex hx => by
              have hxl : x < S.find.S.fs.length := by have := (List.getElem?_eq_some_iff.1 hx).1; rw [keys_length] at this; exact this
              rw [keys_at hxl] at hx
              rw [keys_at (by rw [← fo.len]; exact hxl)]
              have h1 := fg.at_ x ex
              have h2 := fg.data x ex
              unfold PS.fm at h1 h2
              unfold Fm.key at hx ⊢
              rw [h1, h2] at hx; exact hx
            exact hI.apart x y z (kx x ex hx) (kx y ey hy)
      exact h0.put (fo.none _ hix)
    refine ⟨S.find.i, by rw [e], by rw [e], ?_, fo.lt, ?_, ?_, fun j hj => ?_, fun j hj => ?_, fun j hj => ?_, by rw [e]; exact (setF_len _ _ _).trans fo.len, by rw [e]; exact fo.ps, .inr ⟨hix, fg.was⟩⟩
    · rw [e]
      refine ⟨fg.cur.up, fg.cur.fuse, fun j hj hd => ?_, fun j hj hd hc => ?_, fun b hb hn => ?_⟩
      · by_cases ej : S.find.i = j
        · subst ej; rw [setF_fm_same hil]
        · rw [setF_fm_other ej] at hd ⊢; exact fg.cur.frame j (by rw [setF_len] at hj; exact hj) hd
      · by_cases ej : S.find.i = j
        · subst ej; rw [setF_fm_same hil]
          exact fg.cur.out a (by rw [fo.ps]; exact ha) (fo.none _ hix)
        · rw [setF_fm_other ej] at hd hc ⊢; exact fg.cur.clean j (by rw [setF_len] at hj; exact hj) hd hc
      · refine fg.cur.out b hb ?_
        rw [hk] at hn
        cases h1 : idx (b : Int) (keys S.find.S.fs) with
        | none => rfl
        | some k =>
          obtain ⟨x, h2, h3⟩ := idx_at h1
          have ek : S.find.i ≠ k := fun ek => by subst ek; rw [fo.empty] at h2; cases h2
          exact absurd h3 (idx_none hn k x (by rw [List.getElem?_set_ne ek]; exact h2))
    · rw [e]; simp only [hk]
      exact idx_eq hA (List.getElem?_set_self (by rw [keys_length]; exact hil)) rfl
    · rw [e]; simp only [setF_fm_same hil, fg.was]
    · rw [e]; simp only [setF_fm_other (fun h => hj h.symm)]; exact fg.pins j hj
    · rw [e]; simp only [setF_fm_other (fun h => hj h.symm)]; exact fg.at_ j hj
    · rw [e]; simp only [setF_fm_other (fun h => hj h.symm)]; exact fg.data j hj

/-- The page a is t now. -/
def upd (G : Nat → List UInt8) (a : Nat) (t : List UInt8) (b : Nat) : List UInt8 := if b = a then t else G b
theorem Cur.lay {S : PS} {G : Nat → List UInt8} (hC : Cur S G) {i a : Nat} (hi : i < S.fs.length) {t : List UInt8} (ht : t ≠ []) (hk : (keys S.fs)[i]? = some none ∨ (keys S.fs)[i]? = some (some a)) (ho : ∀ j, j ≠ i → (keys S.fs)[j]? ≠ some (some a)) :
    Cur (S.setF i (laid (S.fm i) a t)) (upd G a t) := by
  have hat : ∀ j, j < S.fs.length → j ≠ i → (S.fm j).data ≠ [] → (S.fm j).at_ ≠ a := fun j hj hne hd e => ho j hne (by rw [keys_at hj]; exact congrArg some ((key_of hd).trans (congrArg some e)))
  refine ⟨hC.up, hC.fuse, fun j hj hd => ?_, fun j hj hd hc => ?_, fun b hb hn => ?_⟩
  · by_cases ej : i = j
    · subst ej; rw [setF_fm_same hi]; show t = upd G a t a; unfold upd; rw [if_pos rfl]
    · rw [setF_fm_other ej] at hd ⊢
      rw [setF_len] at hj
      unfold upd; rw [if_neg (hat j hj (fun h => ej h.symm) hd)]
      exact hC.frame j hj hd
  · by_cases ej : i = j
    · subst ej; rw [setF_fm_same hi] at hc; cases hc
    · rw [setF_fm_other ej] at hd hc ⊢
      rw [setF_len] at hj
      unfold upd; rw [if_neg (hat j hj (fun h => ej h.symm) hd)]
      exact hC.clean j hj hd hc
  · have hkk : keys (S.setF i (laid (S.fm i) a t)).fs = (keys S.fs).set i (some a) := by
      show keys (S.fs.set _ _) = _; rw [keys_set, key_of (f := laid (S.fm i) a t) ht]; rfl
    rw [hkk] at hn
    have hba : b ≠ a := fun e => idx_none hn i a (List.getElem?_set_self (by rw [keys_length]; exact hi)) (by rw [e])
    unfold upd; rw [if_neg hba]
    refine hC.out b hb ?_
    cases h1 : idx (b : Int) (keys S.fs) with
    | none => rfl
    | some k =>
      obtain ⟨x, h2, h3⟩ := idx_at h1
      have ek : i ≠ k := fun ek => by
        subst ek
        rcases hk with h | h
        · rw [h] at h2; cases h2
        · rw [h] at h2
          simp only [Option.some.injEq] at h2
          omega
      exact absurd h3 (idx_none hn k x (by rw [List.getElem?_set_ne ek]; exact h2))
structure PutGood (S : PS) (G : Nat → List UInt8) (a : Nat) (t : List UInt8) : Prop where
  e : (S.put (a : Int) t).1 = 0
  cur : Cur (S.put (a : Int) t).2 (upd G a t)
  pins : ∀ j, ((S.put (a : Int) t).2.fm j).pins = (S.fm j).pins
  len : (S.put (a : Int) t).2.fs.length = S.fs.length
  ps : (S.put (a : Int) t).2.d.ps = S.d.ps
theorem put_good {S : PS} {G : Nat → List UInt8} (hI : Inv S) (hC : Cur S G) {a : Nat} (ha : a < S.d.ps.length) {t : List UInt8} (ht : t.length = 256) (hp : idx (a : Int) (keys S.fs) = none → ∃ j, j < S.fs.length ∧ (S.fm j).pins = 0) : PutGood S G a t := by
  have hne : t ≠ [] := fun h => by rw [h] at ht; cases ht
  have hb : ¬ (t.length ≠ 256 ∨ (a : Int) < 0 ∨ (S.d.ps.length : Int) ≤ (a : Int)) := by omega
  cases hix : idx (a : Int) (keys S.fs) with
  | some i =>
    obtain ⟨hi, hf, hat⟩ := idx_full hix
    have e := PS.put_hit hb hix
    rw [lay_eq] at e
    obtain ⟨x, hx, hxa⟩ := idx_at hix
    have hxe : x = a := by omega
    subst hxe
    refine ⟨by rw [e], by rw [e]; exact hC.lay hi hne (.inr hx) (fun j hj h => hj (hI.apart j i x h hx)), fun j => ?_, by rw [e]; exact setF_len _ _ _, by rw [e]; rfl⟩
    rw [e]
    by_cases ej : i = j
    · subst ej; simp only [setF_fm_same hi]; rfl
    · simp only [setF_fm_other ej]
  | none =>
    obtain ⟨j0, hj0, hp0⟩ := hp hix
    have fg := find_good hI hC hj0 hp0
    have fo := find_ok hI fg.e
    have hil : S.find.i < S.find.S.fs.length := by rw [fo.len]; exact fo.lt
    have e := PS.put_new hb hix fg.e
    rw [lay_eq] at e
    refine ⟨by rw [e], by rw [e]; exact fg.cur.lay hil hne (.inl fo.empty) (fun j _ h => idx_none (fo.none _ hix) j a h rfl), fun j => ?_, by rw [e]; exact (setF_len _ _ _).trans fo.len, by rw [e]; exact fo.ps⟩
    rw [e]
    by_cases ej : S.find.i = j
    · subst ej; simp only [setF_fm_same hil]; show (S.find.S.fm S.find.i).pins = _; rw [fg.now, fg.was]; rfl
    · simp only [setF_fm_other ej]; exact fg.pins j (fun h => ej h.symm)

/-- One page goes to the disk. -/
structure WriteGood (S : PS) (G : Nat → List UInt8) (i : Nat) : Prop where
  e : (S.write i).1 = 0
  cur : Cur (S.write i).2 G
  ws : (S.write i).2.d.ws = S.d.ws ++ [((S.fm i).at_, G (S.fm i).at_)]
  now : ((S.write i).2.fm i).dirty = false
  other : ∀ j, j ≠ i → (S.write i).2.fm j = S.fm j
theorem write_good' {S : PS} {G : Nat → List UInt8} (hI : Inv S) (hC : Cur S G) {i : Nat} (hi : i < S.fs.length) (hd : (S.fm i).dirty = true) : WriteGood S G i := by
  have hf := hI.full hi hd
  have hsz := hI.size _ (S.fm_mem hi) hf
  have hin := hI.in_ _ (S.fm_mem hi) hf
  have hfr := hC.frame i hi hf
  have hw := write_good hC.up hC.fuse hsz hin
  have e : S.write i = (0, ⟨{ S.d with ws := S.d.ws ++ [((S.fm i).at_, (S.fm i).data)] }, S.fs.set i { S.fm i with dirty := false }, S.hand⟩) := by unfold PS.write; rw [hw, if_pos rfl]
  have hlat : ∀ b, (S.write i).2.lat b = if b = (S.fm i).at_ then G b else S.lat b := fun b => by
    rw [e]
    unfold PS.lat
    simp only [latest_snoc]
    split
    · rename_i hb
      subst hb
      rw [List.getD_eq_getElem?_getD, List.getElem?_set_self (by rw [latest_length]; exact hin)]
      exact hfr
    · rename_i hb
      rw [List.getD_eq_getElem?_getD, List.getElem?_set_ne (fun h => hb h.symm), List.getD_eq_getElem?_getD]
  have hfm1 : (S.write i).2.fm i = { S.fm i with dirty := false } := by rw [e]; exact getD_set_same hi _
  have hfm2 : ∀ j, j ≠ i → (S.write i).2.fm j = S.fm j := fun j hj => by rw [e]; exact getD_set_other (fun h => hj h.symm) _
  have hlen : (S.write i).2.fs.length = S.fs.length := PS.write_len S i
  refine ⟨by rw [e], ⟨by rw [e]; exact hC.up, by rw [e]; exact hC.fuse, fun j hj hdj => ?_, fun j hj hdj hc => ?_, fun b hb hn => ?_⟩, by rw [e, ← hfr], by rw [hfm1], hfm2⟩
  · by_cases ej : j = i
    · subst ej; rw [hfm1]; exact hfr
    · rw [hfm2 j ej] at hdj ⊢; exact hC.frame j (by omega) hdj
  · rw [hlat]
    split
    · rfl
    · rename_i hne
      by_cases ej : j = i
      · subst ej; rw [hfm1] at hne; exact absurd rfl hne
      · rw [hfm2 j ej] at hdj hc ⊢; exact hC.clean j (by omega) hdj hc
  · rw [hlat]
    split
    · rfl
    · rw [PS.write_ps] at hb
      rw [PS.write_keys hi] at hn
      exact hC.out b hb hn
structure FlushGood (S : PS) (G : Nat → List UInt8) (l : List Nat) : Prop where
  e : (flushL l S).1 = 0
  cur : Cur (flushL l S).2 G
  ws : (flushL l S).2.d.ws = S.d.ws ++ l.map (fun a => (a, G a))
  none : ∀ j, j < S.fs.length → ((flushL l S).2.fm j).dirty = false
  len : (flushL l S).2.fs.length = S.fs.length
  ps : (flushL l S).2.d.ps = S.d.ps
theorem flushL_good {G : Nat → List UInt8} : ∀ (l : List Nat) (S : PS), Inv S → Cur S G → Dy S l → (∀ j, j < S.fs.length → (S.fm j).dirty = true → (S.fm j).at_ ∈ l) → FlushGood S G l
  | [], S, _, hC, _, hall => ⟨rfl, hC, by simp [flushL], fun j hj => by
      cases h : (S.fm j).dirty with
      | false => exact h
      | true => exact absurd (hall j hj h) (by simp), rfl, rfl⟩
  | a :: l, S, hI, hC, hD, hall => by
    obtain ⟨i, hix, hd⟩ := hD.dirty a (by simp)
    obtain ⟨hi, hf, hat⟩ := idx_full hix
    have wg := write_good' hI hC hi hd
    have hata : (S.fm i).at_ = a := by omega
    have hlen : (S.write i).2.fs.length = S.fs.length := PS.write_len S i
    have ih := flushL_good l (S.write i).2 (hI.write hi hd) wg.cur (hD.next hix) (fun j hj hdj => by
      by_cases ej : j = i
      · subst ej; rw [wg.now] at hdj; cases hdj
      · rw [wg.other j ej] at hdj ⊢
        rcases List.mem_cons.1 (hall j (by omega) hdj) with h | h
        · exfalso
          have hdf := hI.full (by omega) hdj
          exact ej (hI.apart j i a (by rw [keys_at (by omega : j < S.fs.length)]; exact congrArg some ((key_of hdf).trans (congrArg some h))) (by rw [keys_at hi]; exact congrArg some ((key_of hf).trans (congrArg some hata))))
        · exact h)
    have e : flushL (a :: l) S = flushL l (S.write i).2 := by rw [flushL_cons hix, if_pos wg.e]
    refine ⟨by rw [e]; exact ih.e, by rw [e]; exact ih.cur, ?_, fun j hj => by rw [e]; exact ih.none j (by omega), by rw [e]; exact ih.len.trans hlen, by rw [e]; exact ih.ps.trans (PS.write_ps S i)⟩
    rw [e, ih.ws, wg.ws, hata]
    simp
theorem flush_good {S : PS} {G : Nat → List UInt8} (hI : Inv S) (hC : Cur S G) : FlushGood S G (sorted (dirties S.fs)) :=
  flushL_good _ S hI hC (Dy.start hI) fun j hj hd => by
    have hp : (sorted (dirties S.fs)).Perm (dirties S.fs) := List.mergeSort_perm _ _
    refine hp.mem_iff.2 ?_
    unfold dirties
    exact List.mem_map.2 ⟨S.fm j, List.mem_filter.2 ⟨S.fm_mem hj, hd⟩, rfl⟩
theorem dirties_none {fs : List Fm} (h : ∀ j, j < fs.length → (fs.getD j noFm).dirty = false) : dirties fs = [] := by
  unfold dirties
  rw [List.filter_eq_nil_iff.2 fun f hf => ?_]
  · rfl
  · obtain ⟨j, hj, rfl⟩ := mem_getD hf
    rw [h j hj]; decide
/-- All that a pool with nothing dirty has, the disk has. -/
theorem Cur.all {S : PS} {G : Nat → List UInt8} (hC : Cur S G) (hd : ∀ j, j < S.fs.length → (S.fm j).dirty = false) {a : Nat} (ha : a < S.d.ps.length) : S.lat a = G a := by
  cases h : idx (a : Int) (keys S.fs) with
  | none => exact hC.out a ha h
  | some i =>
    obtain ⟨hi, hf, hat⟩ := idx_full h
    have := hC.clean i hi hf (hd i hi)
    rwa [show (S.fm i).at_ = a by omega] at this
end Go.Proofs.YtkcoclpbkealgaaDoor
