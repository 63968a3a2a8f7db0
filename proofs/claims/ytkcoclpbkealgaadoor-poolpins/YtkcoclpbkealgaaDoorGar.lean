/-
  What a pool over a sound disk does: the hand finds a frame; what is fetched is what was put last. Fetch, Put and FlushAll over a sound disk.
-/
import Derived.Test.YtkcoclpbkealgaaDoorGan
namespace Go.Proofs.YtkcoclpbkealgaaDoor

/-! The hand. -/
theorem chooseN_pins (hand n : Nat) (hn : 0 < n) : ∀ (k s : Nat) (fs : List Fm) (i : Nat), fs.length = n → (chooseN hand n k s fs).1 = some i → (fs.getD i noFm).pins = 0
  | 0, _, _, _, _, h => by cases h
  | k + 1, s, fs, i, hl, h => by
    have hj : (hand + s) % n < fs.length := by rw [hl]; exact Nat.mod_lt _ hn
    unfold chooseN at h
    split at h
    · exact chooseN_pins hand n hn k (s + 1) fs i hl h
    · rename_i hp
      split at h
      · have := chooseN_pins hand n hn k (s + 1) _ i (by rw [List.length_set]; exact hl) h
        rwa [(Calm.set fs hj false).pins] at this
      · simp only [Option.some.injEq] at h
        subst h; omega
theorem chooseN_all (hand n : Nat) (hn : 0 < n) (fs : List Fm) (hl : fs.length = n) (hp : ∀ i, i < n → 0 < (fs.getD i noFm).pins) : ∀ (k s : Nat), chooseN hand n k s fs = (none, fs)
  | 0, _ => rfl
  | k + 1, s => by
    unfold chooseN
    rw [if_pos (hp _ (Nat.mod_lt _ hn))]
    exact chooseN_all hand n hn fs hl hp k (s + 1)
theorem chooseN_hits (hand n : Nat) (hn : 0 < n) : ∀ (k s : Nat) (fs : List Fm) (i t : Nat), fs.length = n → s ≤ t → t < s + k → (hand + t) % n = i → (fs.getD i noFm).pins = 0 → (fs.getD i noFm).used = false → (chooseN hand n k s fs).1 ≠ none
  | 0, s, _, _, t, _, h1, h2, _, _, _ => by omega
  | k + 1, s, fs, i, t, hl, h1, h2, hi, hp, hu => by
    have hj : (hand + s) % n < fs.length := by rw [hl]; exact Nat.mod_lt _ hn
    by_cases e : (hand + s) % n = i
    · unfold chooseN
      rw [e, if_neg (by omega), if_neg (by rw [hu]; decide)]
      simp
    · have hts : s + 1 ≤ t := by
        by_cases e2 : s = t
        · subst e2; exact absurd hi e
        · omega
      unfold chooseN
      split
      · exact chooseN_hits hand n hn k (s + 1) fs i t hl hts (by omega) hi hp hu
      · split
        · exact chooseN_hits hand n hn k (s + 1) _ i t (by rw [List.length_set]; exact hl) hts (by omega) hi (by rw [getD_set_other e]; exact hp) (by rw [getD_set_other e]; exact hu)
        · simp
theorem chooseN_mono (hand n : Nat) (hn : 0 < n) : ∀ (k s : Nat) (fs : List Fm) (i : Nat), fs.length = n → (fs.getD i noFm).used = false → ((chooseN hand n k s fs).2.getD i noFm).used = false
  | 0, _, _, _, _, h => h
  | k + 1, s, fs, i, hl, h => by
    have hj : (hand + s) % n < fs.length := by rw [hl]; exact Nat.mod_lt _ hn
    unfold chooseN
    split
    · exact chooseN_mono hand n hn k (s + 1) fs i hl h
    · split
      · refine chooseN_mono hand n hn k (s + 1) _ i (by rw [List.length_set]; exact hl) ?_
        by_cases e : (hand + s) % n = i
        · subst e; rw [getD_set_same hj]
        · rw [getD_set_other e]; exact h
      · exact h
theorem chooseN_clears (hand n : Nat) (hn : 0 < n) : ∀ (k s : Nat) (fs : List Fm) (i t : Nat), fs.length = n → s ≤ t → t < s + k → (hand + t) % n = i → (fs.getD i noFm).pins = 0 → (chooseN hand n k s fs).1 = none → ((chooseN hand n k s fs).2.getD i noFm).used = false
  | 0, s, _, _, t, _, h1, h2, _, _, _ => by omega
  | k + 1, s, fs, i, t, hl, h1, h2, hi, hp, hz => by
    have hj : (hand + s) % n < fs.length := by rw [hl]; exact Nat.mod_lt _ hn
    unfold chooseN at hz ⊢
    by_cases e : (hand + s) % n = i
    · rw [e] at hz ⊢
      rw [if_neg (by omega)] at hz ⊢
      split
      · rename_i hu
        rw [if_pos hu] at hz
        refine chooseN_mono hand n hn k (s + 1) _ i (by rw [List.length_set]; exact hl) ?_
        rw [getD_set_same (by rw [← e]; exact hj)]
      · rename_i hu
        rw [if_neg hu] at hz
        cases hz
    · have hts : s + 1 ≤ t := by
        by_cases e2 : s = t
        · subst e2; exact absurd hi e
        · omega
      split
      · rename_i h
        rw [if_pos h] at hz
        exact chooseN_clears hand n hn k (s + 1) fs i t hl hts (by omega) hi hp hz
      · rename_i h
        rw [if_neg h] at hz
        split
        · rename_i h'
          rw [if_pos h'] at hz
          exact chooseN_clears hand n hn k (s + 1) _ i t (by rw [List.length_set]; exact hl) hts (by omega) hi (by rw [getD_set_other e]; exact hp) hz
        · rename_i h'
          rw [if_neg h'] at hz
          cases hz
theorem chooseN_succ (hand n k s : Nat) (fs : List Fm) : chooseN hand n (k + 1) s fs = if 0 < (fs.getD ((hand + s) % n) noFm).pins then chooseN hand n k (s + 1) fs
    else if (fs.getD ((hand + s) % n) noFm).used then chooseN hand n k (s + 1) (fs.set ((hand + s) % n) { fs.getD ((hand + s) % n) noFm with used := false })
    else (some ((hand + s) % n), fs) := rfl
theorem chooseN_add (hand n : Nat) : ∀ (k k2 s : Nat) (fs : List Fm), (chooseN hand n k s fs).1 = none → chooseN hand n (k + k2) s fs = chooseN hand n k2 (s + k) (chooseN hand n k s fs).2
  | 0, k2, s, fs, _ => by rw [Nat.zero_add]; rfl
  | k + 1, k2, s, fs, h => by
    rw [show k + 1 + k2 = (k + k2) + 1 by omega]
    rw [chooseN_succ] at h
    rw [chooseN_succ hand n (k + k2) s fs, chooseN_succ hand n k s fs]
    by_cases hp : 0 < (fs.getD ((hand + s) % n) noFm).pins
    · rw [if_pos hp] at h
      rw [if_pos hp, if_pos hp, chooseN_add hand n k k2 (s + 1) fs h, show s + 1 + k = s + (k + 1) by omega]
    · rw [if_neg hp] at h
      rw [if_neg hp, if_neg hp]
      by_cases hu : (fs.getD ((hand + s) % n) noFm).used
      · rw [if_pos hu] at h
        rw [if_pos hu, if_pos hu, chooseN_add hand n k k2 (s + 1) _ h, show s + 1 + k = s + (k + 1) by omega]
      · rw [if_neg hu] at h
        cases h
theorem chooseN_stays (hand n : Nat) : ∀ (k k2 s : Nat) (fs : List Fm), (chooseN hand n k s fs).1 ≠ none → chooseN hand n (k + k2) s fs = chooseN hand n k s fs
  | 0, _, _, _, h => absurd rfl h
  | k + 1, k2, s, fs, h => by
    rw [show k + 1 + k2 = (k + k2) + 1 by omega]
    unfold chooseN at h ⊢
    split
    · rename_i hp
      rw [if_pos hp] at h
      exact chooseN_stays hand n k k2 (s + 1) fs h
    · rename_i hp
      rw [if_neg hp] at h
      split
      · rename_i hu
        rw [if_pos hu] at h
        exact chooseN_stays hand n k k2 (s + 1) _ h
      · rfl
theorem turn_to (hand n j : Nat) (hj : j < n) : ∃ t, t < n ∧ (hand + t) % n = j := by
  have hn : 0 < n := by omega
  have hm := Nat.mod_lt hand hn
  by_cases h : hand % n ≤ j
  · refine ⟨j - hand % n, by omega, ?_⟩
    rw [← Nat.mod_add_mod, show hand % n + (j - hand % n) = j by omega, Nat.mod_eq_of_lt hj]
  · refine ⟨n + j - hand % n, by omega, ?_⟩
    rw [← Nat.mod_add_mod, show hand % n + (n + j - hand % n) = j + n by omega, Nat.add_mod_right, Nat.mod_eq_of_lt hj]
/-- Where a frame has no pins, two rounds find one. -/
theorem choose_some {hand n : Nat} {fs : List Fm} (hl : fs.length = n) {j : Nat} (hj : j < n) (hp : (fs.getD j noFm).pins = 0) : ∃ i fs', chooseN hand n (2 * n) 0 fs = (some i, fs') ∧ i < n ∧ (fs.getD i noFm).pins = 0 ∧ Calm fs fs' := by
  have hn : 0 < n := by omega
  obtain ⟨t, ht, htj⟩ := turn_to hand n j hj
  have hne : (chooseN hand n (2 * n) 0 fs).1 ≠ none := by
    rw [show 2 * n = n + n by omega]
    by_cases h1 : (chooseN hand n n 0 fs).1 = none
    · rw [chooseN_add hand n n n 0 fs h1]
      have hc := chooseN_calm hand n hn n 0 fs hl
      refine chooseN_hits hand n hn n (0 + n) _ j (t + n) (hc.len.trans hl) (by omega) (by omega) (by rw [← Nat.add_assoc, Nat.add_mod_right]; exact htj) (by rw [hc.pins]; exact hp) ?_
      exact chooseN_clears hand n hn n 0 fs j t hl (by omega) (by omega) htj hp h1
    · rw [chooseN_stays hand n n n 0 fs h1]; exact h1
  obtain ⟨i, hi⟩ := Option.ne_none_iff_exists'.1 hne
  exact ⟨i, _, Prod.ext hi rfl, chooseN_lt hand n hn _ _ _ i hi, chooseN_pins hand n hn _ _ _ i hl hi, chooseN_calm hand n hn _ _ fs hl⟩

/-! A sound disk. -/
def PS.lat (S : PS) (a : Nat) : List UInt8 := (latest S.d.ps S.d.ws).getD a []
theorem latest_snoc (ps : List (List UInt8)) (ws : List (Nat × List UInt8)) (x : Nat × List UInt8) : latest ps (ws ++ [x]) = (latest ps ws).set x.1 x.2 := by
  have h : ∀ n, n ≤ ws.length → latestN ps (ws ++ [x]) n = latestN ps ws n := fun n => by
    induction n with
    | zero => intro _; rfl
    | succ n ih =>
      intro hn
      rw [latestN, latestN, ih (by omega), List.getD_eq_getElem?_getD, List.getElem?_append_left (by omega), List.getD_eq_getElem?_getD]
  unfold latest
  rw [List.length_append, List.length_singleton, latestN, h _ (Nat.le_refl _), List.getD_eq_getElem?_getD, List.getElem?_append_right (Nat.le_refl _), Nat.sub_self]
  rfl
theorem write_good {S : St} (h : S.down = false) (hf : S.fuse = -1) {a : Nat} {t : List UInt8} (ht : t.length = 256) (ha : a < S.ps.length) : S.write (a : Int) t = (0, { S with ws := S.ws ++ [(a, t)] }) := by
  obtain ⟨lim, ps, ws, fuse, down⟩ := S
  simp only at h hf ha
  subst h hf
  unfold St.write St.burn
  simp only
  rw [if_neg (by decide), if_neg (by omega), if_neg (by omega), if_neg (by decide), if_neg (by decide), Int.toNat_natCast]
theorem read_good {S : St} (h : S.down = false) {a : Nat} (ha : a < S.ps.length) : S.read (a : Int) = (0, (latest S.ps S.ws).getD a []) := by
  unfold St.read
  rw [h, if_neg (by decide), if_neg (by omega), Int.toNat_natCast]

/-- G: what each page is. -/
structure Cur (S : PS) (G : Nat → List UInt8) : Prop where
  up : S.d.down = false
  fuse : S.d.fuse = -1
  frame : ∀ i, i < S.fs.length → (S.fm i).data ≠ [] → (S.fm i).data = G (S.fm i).at_
  clean : ∀ i, i < S.fs.length → (S.fm i).data ≠ [] → (S.fm i).dirty = false → S.lat (S.fm i).at_ = G (S.fm i).at_
  out : ∀ a, a < S.d.ps.length → idx (a : Int) (keys S.fs) = none → S.lat a = G a
/-- A frame is changed, not what it holds. -/
theorem Cur.same {S : PS} {G : Nat → List UInt8} (h : Cur S G) {i : Nat} (hi : i < S.fs.length) {f : Fm} (h1 : f.at_ = (S.fm i).at_) (h2 : f.data = (S.fm i).data) (h3 : f.dirty = (S.fm i).dirty) : Cur (S.setF i f) G := by
  have hl : (S.setF i f).fs.length = S.fs.length := List.length_set ..
  have hk : keys (S.setF i f).fs = keys S.fs := keys_same hi h1 h2
  have hfm : ∀ j, ((S.setF i f).fm j).at_ = (S.fm j).at_ ∧ ((S.setF i f).fm j).data = (S.fm j).data ∧ ((S.setF i f).fm j).dirty = (S.fm j).dirty := fun j => by
    by_cases e : i = j
    · subst e
      have : (S.setF i f).fm i = f := getD_set_same hi f
      rw [this]; exact ⟨h1, h2, h3⟩
    · have : (S.setF i f).fm j = S.fm j := getD_set_other e f
      rw [this]; exact ⟨rfl, rfl, rfl⟩
  refine ⟨h.up, h.fuse, fun j hj hd => ?_, fun j hj hd hc => ?_, fun a ha hn => ?_⟩
  · obtain ⟨e1, e2, _⟩ := hfm j
    rw [e1, e2]; rw [e2] at hd; exact h.frame j (by omega) hd
  · obtain ⟨e1, e2, e3⟩ := hfm j
    rw [e1]; rw [e2] at hd; rw [e3] at hc; exact h.clean j (by omega) hd hc
  · rw [hk] at hn; exact h.out a ha hn
/-- What find does over a sound disk. -/
structure FoundGood (S : PS) (G : Nat → List UInt8) : Prop where
  e : S.find.e = 0
  cur : Cur S.find.S G
  was : (S.fm S.find.i).pins = 0
  now : S.find.S.fm S.find.i = noFm
  at_ : ∀ i, i ≠ S.find.i → (S.find.S.fm i).at_ = (S.fm i).at_
  data : ∀ i, i ≠ S.find.i → (S.find.S.fm i).data = (S.fm i).data
  pins : ∀ i, i ≠ S.find.i → (S.find.S.fm i).pins = (S.fm i).pins
theorem find_good {S : PS} {G : Nat → List UInt8} (hI : Inv S) (hC : Cur S G) {j : Nat} (hj : j < S.fs.length) (hp : (S.fm j).pins = 0) : FoundGood S G := by
  cases hfree : freeAt (keys S.fs) with
  | some i =>
    have e := PS.find_free hfree
    obtain ⟨h1, h2⟩ := freeAt_some hfree
    rw [keys_length] at h1
    have hno : S.fm i = noFm := hI.none _ (S.fm_mem h1) (key_none (by rw [keys_at h1] at h2; injection h2))
    exact ⟨by rw [e], by rw [e]; exact hC, by rw [e, hno]; rfl, by rw [e]; exact hno, fun _ _ => by rw [e], fun _ _ => by rw [e], fun _ _ => by rw [e]⟩
  | none =>
    obtain ⟨i, fs, hr, hi, hpi, hc⟩ := choose_some (hand := S.hand) (n := S.fs.length) (fs := S.fs) rfl hj hp
    have e := PS.find_some hfree hr
    have hfull : (fs.getD i noFm).data ≠ [] := full_at hfree hc hi
    have hI1 : Inv ⟨S.d, fs, i⟩ := hc.inv hI hfree hi
    have hil : i < fs.length := by rw [hc.len]; exact hi
    have hsz := hI1.size _ (getD_mem hil) hfull
    have hin := hI1.in_ _ (getD_mem hil) hfull
    have hwr : S.d.write ((fs.getD i noFm).at_ : Int) (fs.getD i noFm).data = (0, { S.d with ws := S.d.ws ++ [((fs.getD i noFm).at_, (fs.getD i noFm).data)] }) := write_good hC.up hC.fuse hsz hin
    have hfr : (fs.getD i noFm).data = G (fs.getD i noFm).at_ := by rw [hc.data, hc.at_]; exact hC.frame i hi (by have := hfull; rw [hc.data] at this; exact this)
    -- the disk behind it
    obtain ⟨d', hv, hd1, hd2, hd3, hlat⟩ : ∃ d', PS.vacate ⟨S.d, fs, i⟩ i = (0, ⟨d', fs.set i noFm, i⟩) ∧ d'.down = false ∧ d'.fuse = -1 ∧ d'.ps = S.d.ps ∧ ∀ a, (latest d'.ps d'.ws).getD a [] = if a = (fs.getD i noFm).at_ then G a else S.lat a := by
      unfold PS.vacate
      cases hdt : (fs.getD i noFm).dirty
      · have h1 : (PS.fm ⟨S.d, fs, i⟩ i).dirty = false := hdt
        rw [h1]
        refine ⟨S.d, rfl, hC.up, hC.fuse, rfl, fun a => ?_⟩
        split
        · rename_i ha
          have h2 := hC.clean i hi (by have := hfull; rw [hc.data] at this; exact this) (by rw [hc.dirty] at hdt; exact hdt)
          have h3 : (S.fm i).at_ = a := by rw [ha]; exact (hc.at_ i).symm
          rw [h3] at h2
          exact h2
        · rfl
      · have h1 : (PS.fm ⟨S.d, fs, i⟩ i).dirty = true := hdt
        have h2 : PS.write ⟨S.d, fs, i⟩ i = (0, ⟨{ S.d with ws := S.d.ws ++ [((fs.getD i noFm).at_, (fs.getD i noFm).data)] }, fs.set i { fs.getD i noFm with dirty := false }, i⟩) := by
          unfold PS.write
          have : PS.fm ⟨S.d, fs, i⟩ i = fs.getD i noFm := rfl
          rw [this, hwr, if_pos rfl]
        rw [h1, if_pos rfl, h2, if_pos rfl]
        refine ⟨{ S.d with ws := S.d.ws ++ [((fs.getD i noFm).at_, (fs.getD i noFm).data)] }, ?_, hC.up, hC.fuse, rfl, fun a => ?_⟩
        · show (0, _) = (0, _)
          unfold PS.setF
          simp only [List.set_set]
        · rw [latest_snoc]
          split
          · rename_i ha
            subst ha
            rw [List.getD_eq_getElem?_getD, List.getElem?_set_self (by rw [latest_length]; exact hin)]
            exact hfr
          · rename_i ha
            rw [List.getD_eq_getElem?_getD, List.getElem?_set_ne (fun h => ha h.symm)]
            exact (List.getD_eq_getElem?_getD ..).symm
    rw [hv, if_pos rfl] at e
    have hfm : ∀ k, S.find.S.fm k = (fs.set i noFm).getD k noFm := fun k => by rw [e]; rfl
    have hfi : S.find.i = i := by rw [e]
    have hk : keys (fs.set i noFm) = (keys S.fs).set i none := by rw [keys_set, hc.keys]; rfl
    refine ⟨by rw [e], ⟨by rw [e]; exact hd1, by rw [e]; exact hd2, ?_, ?_, ?_⟩, by rw [hfi]; exact hpi, by rw [hfm, hfi]; exact getD_set_same hil _, fun k hk2 => ?_, fun k hk2 => ?_, fun k hk2 => ?_⟩
    · intro k hk2 hd
      rw [hfm] at hd ⊢
      by_cases e2 : i = k
      · subst e2; rw [getD_set_same hil] at hd; exact absurd rfl hd
      · rw [getD_set_other e2] at hd ⊢
        have hkl : k < S.fs.length := by rw [e] at hk2; simp only [List.length_set, hc.len] at hk2; exact hk2
        rw [hc.data] at hd
        rw [hc.data, hc.at_]; exact hC.frame k hkl hd
    · intro k hk2 hd hcl
      rw [hfm] at hd hcl ⊢
      by_cases e2 : i = k
      · subst e2; rw [getD_set_same hil] at hd; exact absurd rfl hd
      · rw [getD_set_other e2] at hd hcl ⊢
        have hkl : k < S.fs.length := by rw [e] at hk2; simp only [List.length_set, hc.len] at hk2; exact hk2
        rw [hc.data] at hd
        rw [hc.dirty] at hcl
        have : S.find.S.lat (fs.getD k noFm).at_ = (latest d'.ps d'.ws).getD (fs.getD k noFm).at_ [] := by rw [e]; rfl
        rw [this, hlat]
        split
        · rfl
        · rw [hc.at_]; exact hC.clean k hkl hd hcl
    · intro a ha hn
      have hps : S.find.S.d.ps = S.d.ps := by rw [e]; exact hd3
      rw [hps] at ha
      have : S.find.S.lat a = (latest d'.ps d'.ws).getD a [] := by rw [e]; rfl
      rw [this, hlat]
      split
      · rfl
      · rename_i hne
        refine hC.out a ha ?_
        have hkk : keys S.find.S.fs = (keys S.fs).set i none := by rw [e]; exact hk
        rw [hkk] at hn
        cases h1 : idx (a : Int) (keys S.fs) with
        | none => rfl
        | some k =>
          obtain ⟨x, h2, h3⟩ := idx_at h1
          have hx : x = a := by omega
          subst hx
          by_cases e2 : i = k
          · subst e2
            rw [keys_at hi] at h2
            have h4 := key_some (by injection h2 : (S.fs.getD i noFm).key = some x)
            exact absurd (by rw [hc.at_]; exact h4.2.symm) hne
          · exact absurd rfl (idx_none hn k x (by rw [List.getElem?_set_ne e2]; exact h2))
    · rw [hfm, getD_set_other (fun h => hk2 (by rw [hfi]; exact h.symm))]; exact hc.at_ k
    · rw [hfm, getD_set_other (fun h => hk2 (by rw [hfi]; exact h.symm))]; exact hc.data k
    · rw [hfm, getD_set_other (fun h => hk2 (by rw [hfi]; exact h.symm))]; exact hc.pins k
end Go.Proofs.YtkcoclpbkealgaaDoor
namespace Go.Proofs.YtkcoclpbkealgaaDoor

theorem setF_fm_same {S : PS} {i : Nat} (hi : i < S.fs.length) (f : Fm) : (S.setF i f).fm i = f := getD_set_same hi f
theorem setF_fm_other {S : PS} {i j : Nat} (h : i ≠ j) (f : Fm) : (S.setF i f).fm j = S.fm j := getD_set_other h f
theorem setF_len (S : PS) (i : Nat) (f : Fm) : (S.setF i f).fs.length = S.fs.length := List.length_set ..

/-- What Fetch leaves: the page stands in frame i, with a pin more. -/
structure FetchGood (S : PS) (G : Nat → List UInt8) (a i : Nat) : Prop where
  e : (S.fetch (a : Int)).e = 0
  t : (S.fetch (a : Int)).t = G a
  cur : Cur (S.fetch (a : Int)).S G
  lt : i < S.fs.length
  idx : YtkcoclpbkealgaaDoor.idx (a : Int) (keys (S.fetch (a : Int)).S.fs) = some i
  pins : ((S.fetch (a : Int)).S.fm i).pins = (S.fm i).pins + 1
  pins' : ∀ j, j ≠ i → ((S.fetch (a : Int)).S.fm j).pins = (S.fm j).pins
  at_' : ∀ j, j ≠ i → ((S.fetch (a : Int)).S.fm j).at_ = (S.fm j).at_
  data' : ∀ j, j ≠ i → ((S.fetch (a : Int)).S.fm j).data = (S.fm j).data
  len : (S.fetch (a : Int)).S.fs.length = S.fs.length
  ps : (S.fetch (a : Int)).S.d.ps = S.d.ps
  was : YtkcoclpbkealgaaDoor.idx (a : Int) (keys S.fs) = some i ∨ YtkcoclpbkealgaaDoor.idx (a : Int) (keys S.fs) = none ∧ (S.fm i).pins = 0
theorem fetch_good {S : PS} {G : Nat → List UInt8} (hI : Inv S) (hC : Cur S G) {a : Nat} (ha : a < S.d.ps.length) (hr : rightB (G a) = true) (hp : idx (a : Int) (keys S.fs) = none → ∃ j, j < S.fs.length ∧ (S.fm j).pins = 0) : ∃ i, FetchGood S G a i := by
  cases hix : idx (a : Int) (keys S.fs) with
  | some i =>
    obtain ⟨hi, hf, hat⟩ := idx_full hix
    have e := PS.fetch_hit hix
    refine ⟨i, by rw [e], by rw [e, show a = (S.fm i).at_ by omega]; exact hC.frame i hi hf, by rw [e]; exact hC.same hi rfl rfl rfl, hi, ?_, ?_, fun j hj => ?_, fun j hj => ?_, fun j hj => ?_, by rw [e]; exact setF_len _ _ _, by rw [e]; rfl, .inl hix⟩
    · rw [e]; show idx (a : Int) (keys (S.fs.set i _)) = some i
      rw [keys_same hi (f := { S.fm i with pins := (S.fm i).pins + 1, used := true }) rfl rfl]; exact hix
    · rw [e]; show ((S.setF i _).fm i).pins = _; rw [setF_fm_same hi]
    · rw [e]; show ((S.setF i _).fm j).pins = _; rw [setF_fm_other (fun h => hj h.symm)]
    · rw [e]; show ((S.setF i _).fm j).at_ = _; rw [setF_fm_other (fun h => hj h.symm)]
    · rw [e]; show ((S.setF i _).fm j).data = _; rw [setF_fm_other (fun h => hj h.symm)]
  | none =>
    obtain ⟨j0, hj0, hp0⟩ := hp hix
    have fg := find_good hI hC hj0 hp0
    have fo := find_ok hI fg.e
    have hil : S.find.i < S.find.S.fs.length := by rw [fo.len]; exact fo.lt
    have hrd : S.find.S.d.read (a : Int) = (0, G a) := by
      rw [read_good fg.cur.up (by rw [fo.ps]; exact ha)]
      have := fg.cur.out a (by rw [fo.ps]; exact ha) (fo.none _ hix)
      exact congrArg (Prod.mk (0 : Int)) this
    have e1 := PS.readIn_yes (S := S) (a := (a : Int)) fg.e (by rw [hrd]) (by rw [hrd]; exact hr)
    rw [hrd, Int.toNat_natCast] at e1
    have e := PS.fetch_yes hix (by rw [e1])
    rw [e1] at e
    simp only [setF_fm_same hil] at e
    have hb : (S.find.S.setF S.find.i ⟨a, G a, 0, false, false⟩).bump S.find.i = S.find.S.setF S.find.i ⟨a, G a, 1, false, true⟩ := by
      unfold PS.bump
      rw [setF_fm_same hil]
      unfold PS.setF
      simp only [List.set_set, Nat.zero_add]
    rw [hb] at e
    have hne : G a ≠ [] := fun h => by rw [h] at hr; exact absurd hr (by decide)
    have hk : keys (S.find.S.setF S.find.i ⟨a, G a, 1, false, true⟩).fs = (keys S.find.S.fs).set S.find.i (some a) := by
      show keys (S.find.S.fs.set _ _) = _; rw [keys_set, key_of hne]
    have hA : Apart ((keys S.find.S.fs).set S.find.i (some a)) := by
      have h0 : Apart (keys S.find.S.fs) := by
        intro x y z hx hy
        by_cases ex : x = S.find.i
        · subst ex; rw [fo.empty] at hx; cases hx
        · by_cases ey : y = S.find.i
          · subst ey; rw [fo.empty] at hy; cases hy
          · have kx : ∀ x, x ≠ S.find.i → (keys S.find.S.fs)[x]? = some (some z) → (keys S.fs)[x]? = some (some z) := fun x ex hx => by
              have hxl : x < S.find.S.fs.length := by have := (List.getElem?_eq_some_iff.1 hx).1; rw [keys_length] at this; exact this
              rw [keys_at hxl] at hx
              rw [keys_at (by rw [← fo.len]; exact hxl)]
              have h1 := fg.at_ x ex
              have h2 := fg.data x ex
              unfold PS.fm at h1 h2
              unfold Fm.key at hx ⊢
              rw [h1, h2] at hx; exact hx
            exact hI.apart x y z (kx x ex hx) (kx y ey hy)
      exact h0.put (fo.none _ hix)
    refine ⟨S.find.i, by rw [e], by rw [e], ?_, fo.lt, ?_, ?_, fun j hj => ?_, fun j hj => ?_, fun j hj => ?_, by rw [e]; exact (setF_len _ _ _).trans fo.len, by rw [e]; exact fo.ps, .inr ⟨hix, fg.was⟩⟩
    · rw [e]
      refine ⟨fg.cur.up, fg.cur.fuse, fun j hj hd => ?_, fun j hj hd hc => ?_, fun b hb hn => ?_⟩
      · by_cases ej : S.find.i = j
        · subst ej; rw [setF_fm_same hil]
        · rw [setF_fm_other ej] at hd ⊢; exact fg.cur.frame j (by rw [setF_len] at hj; exact hj) hd
      · by_cases ej : S.find.i = j
        · subst ej; rw [setF_fm_same hil]
          exact fg.cur.out a (by rw [fo.ps]; exact ha) (fo.none _ hix)
        · rw [setF_fm_other ej] at hd hc ⊢; exact fg.cur.clean j (by rw [setF_len] at hj; exact hj) hd hc
      · refine fg.cur.out b hb ?_
        rw [hk] at hn
        cases h1 : idx (b : Int) (keys S.find.S.fs) with
        | none => rfl
        | some k =>
          obtain ⟨x, h2, h3⟩ := idx_at h1
          have ek : S.find.i ≠ k := fun ek => by subst ek; rw [fo.empty] at h2; cases h2
          exact absurd h3 (idx_none hn k x (by rw [List.getElem?_set_ne ek]; exact h2))
    · rw [e]; simp only [hk]
      exact idx_eq hA (List.getElem?_set_self (by rw [keys_length]; exact hil)) rfl
    · rw [e]; simp only [setF_fm_same hil, fg.was]
    · rw [e]; simp only [setF_fm_other (fun h => hj h.symm)]; exact fg.pins j hj
    · rw [e]; simp only [setF_fm_other (fun h => hj h.symm)]; exact fg.at_ j hj
    · rw [e]; simp only [setF_fm_other (fun h => hj h.symm)]; exact fg.data j hj

/-- The page a is t now. -/
def upd (G : Nat → List UInt8) (a : Nat) (t : List UInt8) (b : Nat) : List UInt8 := if b = a then t else G b
theorem Cur.lay {S : PS} {G : Nat → List UInt8} (hC : Cur S G) {i a : Nat} (hi : i < S.fs.length) {t : List UInt8} (ht : t ≠ []) (hk : (keys S.fs)[i]? = some none ∨ (keys S.fs)[i]? = some (some a)) (ho : ∀ j, j ≠ i → (keys S.fs)[j]? ≠ some (some a)) :
    Cur (S.setF i (laid (S.fm i) a t)) (upd G a t) := by
  have hat : ∀ j, j < S.fs.length → j ≠ i → (S.fm j).data ≠ [] → (S.fm j).at_ ≠ a := fun j hj hne hd e => ho j hne (by rw [keys_at hj]; exact congrArg some ((key_of hd).trans (congrArg some e)))
  refine ⟨hC.up, hC.fuse, fun j hj hd => ?_, fun j hj hd hc => ?_, fun b hb hn => ?_⟩
  · by_cases ej : i = j
    · subst ej; rw [setF_fm_same hi]; show t = upd G a t a; unfold upd; rw [if_pos rfl]
    · rw [setF_fm_other ej] at hd ⊢
      rw [setF_len] at hj
      unfold upd; rw [if_neg (hat j hj (fun h => ej h.symm) hd)]
      exact hC.frame j hj hd
  · by_cases ej : i = j
    · subst ej; rw [setF_fm_same hi] at hc; cases hc
    · rw [setF_fm_other ej] at hd hc ⊢
      rw [setF_len] at hj
      unfold upd; rw [if_neg (hat j hj (fun h => ej h.symm) hd)]
      exact hC.clean j hj hd hc
  · have hkk : keys (S.setF i (laid (S.fm i) a t)).fs = (keys S.fs).set i (some a) := by
      show keys (S.fs.set _ _) = _; rw [keys_set, key_of (f := laid (S.fm i) a t) ht]; rfl
    rw [hkk] at hn
    have hba : b ≠ a := fun e => idx_none hn i a (List.getElem?_set_self (by rw [keys_length]; exact hi)) (by rw [e])
    unfold upd; rw [if_neg hba]
    refine hC.out b hb ?_
    cases h1 : idx (b : Int) (keys S.fs) with
    | none => rfl
    | some k =>
      obtain ⟨x, h2, h3⟩ := idx_at h1
      have ek : i ≠ k := fun ek => by
        subst ek
        rcases hk with h | h
        · rw [h] at h2; cases h2
        · rw [h] at h2
          simp only [Option.some.injEq] at h2
          omega
      exact absurd h3 (idx_none hn k x (by rw [List.getElem?_set_ne ek]; exact h2))
structure PutGood (S : PS) (G : Nat → List UInt8) (a : Nat) (t : List UInt8) : Prop where
  e : (S.put (a : Int) t).1 = 0
  cur : Cur (S.put (a : Int) t).2 (upd G a t)
  pins : ∀ j, ((S.put (a : Int) t).2.fm j).pins = (S.fm j).pins
  len : (S.put (a : Int) t).2.fs.length = S.fs.length
  ps : (S.put (a : Int) t).2.d.ps = S.d.ps
theorem put_good {S : PS} {G : Nat → List UInt8} (hI : Inv S) (hC : Cur S G) {a : Nat} (ha : a < S.d.ps.length) {t : List UInt8} (ht : t.length = 256) (hp : idx (a : Int) (keys S.fs) = none → ∃ j, j < S.fs.length ∧ (S.fm j).pins = 0) : PutGood S G a t := by
  have hne : t ≠ [] := fun h => by rw [h] at ht; cases ht
  have hb : ¬ (t.length ≠ 256 ∨ (a : Int) < 0 ∨ (S.d.ps.length : Int) ≤ (a : Int)) := by omega
  cases hix : idx (a : Int) (keys S.fs) with
  | some i =>
    obtain ⟨hi, hf, hat⟩ := idx_full hix
    have e := PS.put_hit hb hix
    rw [lay_eq] at e
    obtain ⟨x, hx, hxa⟩ := idx_at hix
    have hxe : x = a := by omega
    subst hxe
    refine ⟨by rw [e], by rw [e]; exact hC.lay hi hne (.inr hx) (fun j hj h => hj (hI.apart j i x h hx)), fun j => ?_, by rw [e]; exact setF_len _ _ _, by rw [e]; rfl⟩
    rw [e]
    by_cases ej : i = j
    · subst ej; simp only [setF_fm_same hi]; rfl
    · simp only [setF_fm_other ej]
  | none =>
    obtain ⟨j0, hj0, hp0⟩ := hp hix
    have fg := find_good hI hC hj0 hp0
    have fo := find_ok hI fg.e
    have hil : S.find.i < S.find.S.fs.length := by rw [fo.len]; exact fo.lt
    have e := PS.put_new hb hix fg.e
    rw [lay_eq] at e
    refine ⟨by rw [e], by rw [e]; exact fg.cur.lay hil hne (.inl fo.empty) (fun j _ h => idx_none (fo.none _ hix) j a h rfl), fun j => ?_, by rw [e]; exact (setF_len _ _ _).trans fo.len, by rw [e]; exact fo.ps⟩
    rw [e]
    by_cases ej : S.find.i = j
    · subst ej; simp only [setF_fm_same hil]; show (S.find.S.fm S.find.i).pins = _; rw [fg.now, fg.was]; rfl
    · simp only [setF_fm_other ej]; exact fg.pins j (fun h => ej h.symm)

/-- One page goes to the disk. -/
structure WriteGood (S : PS) (G : Nat → List UInt8) (i : Nat) : Prop where
  e : (S.write i).1 = 0
  cur : Cur (S.write i).2 G
  ws : (S.write i).2.d.ws = S.d.ws ++ [((S.fm i).at_, G (S.fm i).at_)]
  now : ((S.write i).2.fm i).dirty = false
  other : ∀ j, j ≠ i → (S.write i).2.fm j = S.fm j
theorem write_good' {S : PS} {G : Nat → List UInt8} (hI : Inv S) (hC : Cur S G) {i : Nat} (hi : i < S.fs.length) (hd : (S.fm i).dirty = true) : WriteGood S G i := by
  have hf := hI.full hi hd
  have hsz := hI.size _ (S.fm_mem hi) hf
  have hin := hI.in_ _ (S.fm_mem hi) hf
  have hfr := hC.frame i hi hf
  have hw := write_good hC.up hC.fuse hsz hin
  have e : S.write i = (0, ⟨{ S.d with ws := S.d.ws ++ [((S.fm i).at_, (S.fm i).data)] }, S.fs.set i { S.fm i with dirty := false }, S.hand⟩) := by unfold PS.write; rw [hw, if_pos rfl]
  have hlat : ∀ b, (S.write i).2.lat b = if b = (S.fm i).at_ then G b else S.lat b := fun b => by
    rw [e]
    unfold PS.lat
    simp only [latest_snoc]
    split
    · rename_i hb
      subst hb
      rw [List.getD_eq_getElem?_getD, List.getElem?_set_self (by rw [latest_length]; exact hin)]
      exact hfr
    · rename_i hb
      rw [List.getD_eq_getElem?_getD, List.getElem?_set_ne (fun h => hb h.symm), List.getD_eq_getElem?_getD]
  have hfm1 : (S.write i).2.fm i = { S.fm i with dirty := false } := by rw [e]; exact getD_set_same hi _
  have hfm2 : ∀ j, j ≠ i → (S.write i).2.fm j = S.fm j := fun j hj => by rw [e]; exact getD_set_other (fun h => hj h.symm) _
  have hlen : (S.write i).2.fs.length = S.fs.length := PS.write_len S i
  refine ⟨by rw [e], ⟨by rw [e]; exact hC.up, by rw [e]; exact hC.fuse, fun j hj hdj => ?_, fun j hj hdj hc => ?_, fun b hb hn => ?_⟩, by rw [e, ← hfr], by rw [hfm1], hfm2⟩
  · by_cases ej : j = i
    · subst ej; rw [hfm1]; exact hfr
    · rw [hfm2 j ej] at hdj ⊢; exact hC.frame j (by omega) hdj
  · rw [hlat]
    split
    · rfl
    · rename_i hne
      by_cases ej : j = i
      · subst ej; rw [hfm1] at hne; exact absurd rfl hne
      · rw [hfm2 j ej] at hdj hc ⊢; exact hC.clean j (by omega) hdj hc
  · rw [hlat]
    split
    · rfl
    · rw [PS.write_ps] at hb
      rw [PS.write_keys hi] at hn
      exact hC.out b hb hn
structure FlushGood (S : PS) (G : Nat → List UInt8) (l : List Nat) : Prop where
  e : (flushL l S).1 = 0
  cur : Cur (flushL l S).2 G
  ws : (flushL l S).2.d.ws = S.d.ws ++ l.map (fun a => (a, G a))
  none : ∀ j, j < S.fs.length → ((flushL l S).2.fm j).dirty = false
  len : (flushL l S).2.fs.length = S.fs.length
  ps : (flushL l S).2.d.ps = S.d.ps
theorem flushL_good {G : Nat → List UInt8} : ∀ (l : List Nat) (S : PS), Inv S → Cur S G → Dy S l → (∀ j, j < S.fs.length → (S.fm j).dirty = true → (S.fm j).at_ ∈ l) → FlushGood S G l
  | [], S, _, hC, _, hall => ⟨rfl, hC, by simp [flushL], fun j hj => by
      cases h : (S.fm j).dirty with
      | false => exact h
      | true => exact absurd (hall j hj h) (by simp), rfl, rfl⟩
  | a :: l, S, hI, hC, hD, hall => by
    obtain ⟨i, hix, hd⟩ := hD.dirty a (by simp)
    obtain ⟨hi, hf, hat⟩ := idx_full hix
    have wg := write_good' hI hC hi hd
    have hata : (S.fm i).at_ = a := by omega
    have hlen : (S.write i).2.fs.length = S.fs.length := PS.write_len S i
    have ih := flushL_good l (S.write i).2 (hI.write hi hd) wg.cur (hD.next hix) (fun j hj hdj => by
      by_cases ej : j = i
      · subst ej; rw [wg.now] at hdj; cases hdj
      · rw [wg.other j ej] at hdj ⊢
        rcases List.mem_cons.1 (hall j (by omega) hdj) with h | h
        · exfalso
          have hdf := hI.full (by omega) hdj
          exact ej (hI.apart j i a (by rw [keys_at (by omega : j < S.fs.length)]; exact congrArg some ((key_of hdf).trans (congrArg some h))) (by rw [keys_at hi]; exact congrArg some ((key_of hf).trans (congrArg some hata))))
        · exact h)
    have e : flushL (a :: l) S = flushL l (S.write i).2 := by rw [flushL_cons hix, if_pos wg.e]
    refine ⟨by rw [e]; exact ih.e, by rw [e]; exact ih.cur, ?_, fun j hj => by rw [e]; exact ih.none j (by omega), by rw [e]; exact ih.len.trans hlen, by rw [e]; exact ih.ps.trans (PS.write_ps S i)⟩
    rw [e, ih.ws, wg.ws, hata]
    simp
theorem flush_good {S : PS} {G : Nat → List UInt8} (hI : Inv S) (hC : Cur S G) : FlushGood S G (sorted (dirties S.fs)) :=
  flushL_good _ S hI hC (Dy.start hI) fun j hj hd => by
    have hp : (sorted (dirties S.fs)).Perm (dirties S.fs) := List.mergeSort_perm _ _
    refine hp.mem_iff.2 ?_
    unfold dirties
    exact List.mem_map.2 ⟨S.fm j, List.mem_filter.2 ⟨S.fm_mem hj, hd⟩, rfl⟩
theorem dirties_none {fs : List Fm} (h : ∀ j, j < fs.length → (fs.getD j noFm).dirty = false) : dirties fs = [] := by
  unfold dirties
  rw [List.filter_eq_nil_iff.2 fun f hf => ?_]
  · rfl
  · obtain ⟨j, hj, rfl⟩ := mem_getD hf
    rw [h j hj]; decide
/-- All that a pool with nothing dirty has, the disk has. -/
theorem Cur.all {S : PS} {G : Nat → List UInt8} (hC : Cur S G) (hd : ∀ j, j < S.fs.length → (S.fm j).dirty = false) {a : Nat} (ha : a < S.d.ps.length) : S.lat a = G a := by
  cases h : idx (a : Int) (keys S.fs) with
  | none => exact hC.out a ha h
  | some i =>
    obtain ⟨hi, hf, hat⟩ := idx_full h
    have := hC.clean i hi hf (hd i hi)
    rwa [show (S.fm i).at_ = a by omega] at this
end Go.Proofs.YtkcoclpbkealgaaDoor
