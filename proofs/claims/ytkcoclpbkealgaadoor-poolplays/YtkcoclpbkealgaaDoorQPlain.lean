/-
  The pool as the document says it: frames, the hand, what each call does; no memory.
-/
import Derived.Test.YtkcoclpbkealgaaDoorPlain
import Derived.Test.YtkcoclpbkealgaaDoorPgLay
namespace Go.Proofs.YtkcoclpbkealgaaDoor

structure Fm where
  at_ : Nat
  data : List UInt8
  pins : Nat
  dirty : Bool
  used : Bool
def noFm : Fm := ⟨0, [], 0, false, false⟩
/-- The page that a frame has. -/
def Fm.key (f : Fm) : Option Nat := if f.data = [] then none else some f.at_
def keys (fs : List Fm) : List (Option Nat) := fs.map Fm.key
/-- Is that the page? -/
def isAt (a : Int) : Option Nat → Bool
  | some x => decide ((x : Int) = a)
  | none => false
/-- Which frame has the page? -/
def idx (a : Int) (ks : List (Option Nat)) : Option Nat := ks.findIdx? (isAt a)
/-- The first empty one. -/
def freeAt (ks : List (Option Nat)) : Option Nat := ks.findIdx? (· == none)

structure PS where
  d : St
  fs : List Fm
  hand : Nat
def PS.fm (S : PS) (i : Nat) : Fm := S.fs.getD i noFm
def PS.setF (S : PS) (i : Nat) (f : Fm) : PS := { S with fs := S.fs.set i f }

/-- From the hand on, round and round. -/
def chooseN (hand n : Nat) : Nat → Nat → List Fm → Option Nat × List Fm
  | 0, _, fs => (none, fs)
  | k + 1, s, fs =>
    if 0 < (fs.getD ((hand + s) % n) noFm).pins then chooseN hand n k (s + 1) fs
    else if (fs.getD ((hand + s) % n) noFm).used then chooseN hand n k (s + 1) (fs.set ((hand + s) % n) { fs.getD ((hand + s) % n) noFm with used := false })
    else (some ((hand + s) % n), fs)
def PS.write (S : PS) (i : Nat) : Int × PS :=
  if (S.d.write (S.fm i).at_ (S.fm i).data).1 = 0 then (0, { S with d := (S.d.write (S.fm i).at_ (S.fm i).data).2, fs := S.fs.set i { S.fm i with dirty := false } })
  else ((S.d.write (S.fm i).at_ (S.fm i).data).1, { S with d := (S.d.write (S.fm i).at_ (S.fm i).data).2 })
def PS.vacate (S : PS) (i : Nat) : Int × PS :=
  if (S.fm i).dirty then (if (S.write i).1 = 0 then (0, (S.write i).2.setF i noFm) else S.write i) else (0, S.setF i noFm)
structure Found where
  e : Int
  i : Nat
  S : PS
def PS.find (S : PS) : Found :=
  match freeAt (keys S.fs) with
  | some i => ⟨0, i, S⟩
  | none =>
    match chooseN S.hand S.fs.length (2 * S.fs.length) 0 S.fs with
    | (none, fs) => ⟨5, 0, { S with fs := fs }⟩
    | (some i, fs) =>
      if (PS.vacate ⟨S.d, fs, i⟩ i).1 = 0 then ⟨0, i, { (PS.vacate ⟨S.d, fs, i⟩ i).2 with hand := (i + 1) % S.fs.length }⟩
      else ⟨(PS.vacate ⟨S.d, fs, i⟩ i).1, 0, (PS.vacate ⟨S.d, fs, i⟩ i).2⟩
def PS.readIn (S : PS) (a : Int) : Found :=
  if S.find.e = 0 then
    (if (S.find.S.d.read a).1 = 0 then
      (if rightB (S.find.S.d.read a).2 then ⟨0, S.find.i, S.find.S.setF S.find.i ⟨a.toNat, (S.find.S.d.read a).2, 0, false, false⟩⟩ else ⟨6, 0, S.find.S⟩)
    else ⟨(S.find.S.d.read a).1, 0, S.find.S⟩)
  else ⟨S.find.e, 0, S.find.S⟩
def PS.bump (S : PS) (i : Nat) : PS := S.setF i { S.fm i with pins := (S.fm i).pins + 1, used := true }
structure Got where
  e : Int
  t : List UInt8
  S : PS
def PS.fetch (S : PS) (a : Int) : Got :=
  match idx a (keys S.fs) with
  | some i => ⟨0, (S.fm i).data, S.bump i⟩
  | none => if (S.readIn a).e = 0 then ⟨0, ((S.readIn a).S.fm (S.readIn a).i).data, (S.readIn a).S.bump (S.readIn a).i⟩ else ⟨(S.readIn a).e, [], (S.readIn a).S⟩
def PS.unpin (S : PS) (a : Int) : Int × PS :=
  match idx a (keys S.fs) with
  | some i => if (S.fm i).pins = 0 then (1, S) else (0, S.setF i { S.fm i with pins := (S.fm i).pins - 1 })
  | none => (1, S)
def PS.lay (S : PS) (i : Nat) (a : Int) (t : List UInt8) : PS := S.setF i { S.fm i with at_ := a.toNat, data := t, dirty := true, used := true }
def PS.put (S : PS) (a : Int) (t : List UInt8) : Int × PS :=
  if t.length ≠ 256 ∨ a < 0 ∨ (S.d.ps.length : Int) ≤ a then (1, S) else
  match idx a (keys S.fs) with
  | some i => (0, S.lay i a t)
  | none => if S.find.e = 0 then (0, S.find.S.lay S.find.i a t) else (S.find.e, S.find.S)
/-- The pages of frames, as they stand; those that are dirty. -/
def dirties (fs : List Fm) : List Nat := (fs.filter (·.dirty)).map (·.at_)
def held (fs : List Fm) : List Nat := (keys fs).filterMap id
def flushL : List Nat → PS → Int × PS
  | [], S => (0, S)
  | a :: l, S => if (S.write ((idx (a : Int) (keys S.fs)).getD 0)).1 = 0 then flushL l (S.write ((idx (a : Int) (keys S.fs)).getD 0)).2 else S.write ((idx (a : Int) (keys S.fs)).getD 0)
def sorted (l : List Nat) : List Nat := l.mergeSort (fun x y => decide (x ≤ y))
def PS.flush (S : PS) : Int × PS := flushL (sorted (dirties S.fs)) S

/-- What holds of each pool. -/
structure Inv (S : PS) : Prop where
  few : 1 ≤ S.fs.length
  most : S.fs.length ≤ 64
  hand : S.hand < S.fs.length
  none : ∀ f ∈ S.fs, f.data = [] → f = noFm
  size : ∀ f ∈ S.fs, f.data ≠ [] → f.data.length = 256
  in_ : ∀ f ∈ S.fs, f.data ≠ [] → f.at_ < S.d.ps.length
  apart : ∀ i j x : Nat, (keys S.fs)[i]? = some (some x) → (keys S.fs)[j]? = some (some x) → i = j

theorem keys_length (fs : List Fm) : (keys fs).length = fs.length := by unfold keys; rw [List.length_map]
theorem keys_set (fs : List Fm) (i : Nat) (f : Fm) : keys (fs.set i f) = (keys fs).set i f.key := by unfold keys; rw [List.map_set]
theorem keys_at {fs : List Fm} {i : Nat} (h : i < fs.length) : (keys fs)[i]? = some (fs.getD i noFm).key := by
  unfold keys; rw [List.getElem?_map, List.getD_eq_getElem?_getD, List.getElem?_eq_getElem h]; rfl
theorem getD_mem {fs : List Fm} {i : Nat} (h : i < fs.length) : fs.getD i noFm ∈ fs := by
  rw [List.getD_eq_getElem?_getD, List.getElem?_eq_getElem h]; exact List.getElem_mem h
theorem PS.fm_mem {S : PS} {i : Nat} (h : i < S.fs.length) : S.fm i ∈ S.fs := getD_mem h
theorem getD_set_same {fs : List Fm} {i : Nat} (h : i < fs.length) (f : Fm) : (fs.set i f).getD i noFm = f := by
  rw [List.getD_eq_getElem?_getD, List.getElem?_set_self h]; rfl
theorem getD_set_other {fs : List Fm} {i j : Nat} (h : i ≠ j) (f : Fm) : (fs.set i f).getD j noFm = fs.getD j noFm := by
  rw [List.getD_eq_getElem?_getD, List.getElem?_set_ne h, List.getD_eq_getElem?_getD]
theorem idx_lt {a : Int} {ks : List (Option Nat)} {i : Nat} (h : idx a ks = some i) : i < ks.length := by
  unfold idx at h; exact (List.findIdx?_eq_some_iff_getElem.1 h).1
theorem idx_at {a : Int} {ks : List (Option Nat)} {i : Nat} (h : idx a ks = some i) : ∃ x : Nat, ks[i]? = some (some x) ∧ (x : Int) = a := by
  unfold idx at h
  obtain ⟨h1, h2, _⟩ := List.findIdx?_eq_some_iff_getElem.1 h
  rw [List.getElem?_eq_getElem h1]
  cases hk : ks[i] with
  | none => rw [hk] at h2; cases h2
  | some x => rw [hk] at h2; exact ⟨x, rfl, of_decide_eq_true h2⟩
theorem idx_none {a : Int} {ks : List (Option Nat)} (h : idx a ks = none) (i x : Nat) (hi : ks[i]? = some (some x)) : (x : Int) ≠ a := by
  unfold idx at h
  intro e
  have := (List.findIdx?_eq_none_iff.1 h) (some x) (List.mem_of_getElem? hi)
  rw [isAt, e] at this
  simp at this
/-- Where no page stands twice, a page that stands there is found there. -/
theorem idx_eq {a : Int} {ks : List (Option Nat)} {i x : Nat} (hA : ∀ i j x : Nat, ks[i]? = some (some x) → ks[j]? = some (some x) → i = j) (hi : ks[i]? = some (some x)) (hx : (x : Int) = a) : idx a ks = some i := by
  cases h : idx a ks with
  | none => exact absurd hx (idx_none h i x hi)
  | some j =>
    obtain ⟨y, hy, hya⟩ := idx_at h
    have : y = x := by omega
    subst this
    rw [hA j i _ hy hi]
theorem freeAt_some {ks : List (Option Nat)} {i : Nat} (h : freeAt ks = some i) : i < ks.length ∧ ks[i]? = some none := by
  unfold freeAt at h
  obtain ⟨h1, h2, _⟩ := List.findIdx?_eq_some_iff_getElem.1 h
  exact ⟨h1, by rw [List.getElem?_eq_getElem h1]; simpa using h2⟩
theorem freeAt_none {ks : List (Option Nat)} (h : freeAt ks = none) (i : Nat) : ks[i]? ≠ some none := by
  unfold freeAt at h
  intro e
  have := (List.findIdx?_eq_none_iff.1 h) none (List.mem_of_getElem? e)
  simp at this

/-- A frame's page in other bytes' words. -/
theorem key_none {f : Fm} (h : f.key = none) : f.data = [] := by unfold Fm.key at h; split at h; assumption; cases h
theorem key_some {f : Fm} {x : Nat} (h : f.key = some x) : f.data ≠ [] ∧ f.at_ = x := by
  unfold Fm.key at h; split at h
  · cases h
  · exact ⟨by assumption, by simpa using h⟩
theorem key_of {f : Fm} (h : f.data ≠ []) : f.key = some f.at_ := by unfold Fm.key; rw [if_neg h]
theorem noFm_key : noFm.key = none := rfl

/-- The disk stays as long as it is. -/
theorem write_ps (S : St) (a : Int) (t : List UInt8) : (S.write a t).2.ps = S.ps := by
  unfold St.write St.dead St.burn; repeat (first | split | rfl)

theorem set_mem {fs : List Fm} {i : Nat} {f g : Fm} (h : g ∈ fs.set i f) : g ∈ fs ∨ g = f := List.mem_or_eq_of_mem_set h
/-- A frame is changed, not its page. -/
theorem Inv.same {S S' : PS} (h : Inv S) {i : Nat} (hi : i < S.fs.length) {f : Fm} (h1 : f.at_ = (S.fm i).at_) (h2 : f.data = (S.fm i).data) (h3 : (S.fm i).data ≠ []) (hfs : S'.fs = S.fs.set i f) (hps : S'.d.ps = S.d.ps) (hh : S'.hand < S.fs.length) : Inv S' := by
  have hm := S.fm_mem hi
  have hk : keys S'.fs = keys S.fs := by
    rw [hfs, keys_set]
    apply List.ext_getElem?
    intro j
    by_cases e : i = j
    · subst e
      rw [List.getElem?_set_self (by rw [keys_length]; exact hi), keys_at hi]
      unfold Fm.key; rw [h1, h2]; rfl
    · rw [List.getElem?_set_ne e]
  refine ⟨by rw [hfs, List.length_set]; exact h.few, by rw [hfs, List.length_set]; exact h.most, by rw [hfs, List.length_set]; exact hh, ?_, ?_, ?_, by rw [hk]; exact h.apart⟩
  all_goals intro g hg; rw [hfs] at hg
  · rcases set_mem hg with hg | rfl
    · exact h.none g hg
    · intro h4; exact absurd (h2 ▸ h4) h3
  · rcases set_mem hg with hg | rfl
    · exact h.size g hg
    · intro h4; rw [h2]; exact h.size _ hm h3
  · rw [hps]
    rcases set_mem hg with hg | rfl
    · exact h.in_ g hg
    · intro h4; rw [h1]; exact h.in_ _ hm h3
/-- A frame is emptied. -/
theorem Inv.drop {S S' : PS} (h : Inv S) {i : Nat} (hi : i < S.fs.length) (hfs : S'.fs = S.fs.set i noFm) (hps : S'.d.ps = S.d.ps) (hh : S'.hand < S.fs.length) : Inv S' := by
  refine ⟨by rw [hfs, List.length_set]; exact h.few, by rw [hfs, List.length_set]; exact h.most, by rw [hfs, List.length_set]; exact hh, ?_, ?_, ?_, ?_⟩
  · intro g hg; rw [hfs] at hg
    rcases set_mem hg with hg | rfl
    · exact h.none g hg
    · intro _; rfl
  · intro g hg; rw [hfs] at hg
    rcases set_mem hg with hg | rfl
    · exact h.size g hg
    · intro h4; exact absurd rfl h4
  · intro g hg; rw [hfs] at hg; rw [hps]
    rcases set_mem hg with hg | rfl
    · exact h.in_ g hg
    · intro h4; exact absurd rfl h4
  · intro a b x ha hb
    rw [hfs, keys_set] at ha hb
    have key : ∀ a : Nat, ((keys S.fs).set i noFm.key)[a]? = some (some x) → (keys S.fs)[a]? = some (some x) := fun a ha => by
      by_cases e : i = a
      · subst e; rw [List.getElem?_set_self (by rw [keys_length]; exact hi)] at ha; cases ha
      · rwa [List.getElem?_set_ne e] at ha
    exact h.apart a b x (key a ha) (key b hb)
/-- A page comes into an empty frame. -/
theorem Inv.come {S S' : PS} (h : Inv S) {i : Nat} (hi : i < S.fs.length) {f : Fm} (hf : f.data.length = 256) (hat : f.at_ < S.d.ps.length) (hn : idx (f.at_ : Int) (keys S.fs) = Option.none) (hfs : S'.fs = S.fs.set i f) (hps : S'.d.ps = S.d.ps) (hh : S'.hand < S.fs.length) : Inv S' := by
  have hne : f.data ≠ [] := fun e => by rw [e] at hf; cases hf
  refine ⟨by rw [hfs, List.length_set]; exact h.few, by rw [hfs, List.length_set]; exact h.most, by rw [hfs, List.length_set]; exact hh, ?_, ?_, ?_, ?_⟩
  · intro g hg; rw [hfs] at hg
    rcases set_mem hg with hg | rfl
    · exact h.none g hg
    · intro e; exact absurd e hne
  · intro g hg; rw [hfs] at hg
    rcases set_mem hg with hg | rfl
    · exact h.size g hg
    · intro _; exact hf
  · intro g hg; rw [hfs] at hg; rw [hps]
    rcases set_mem hg with hg | rfl
    · exact h.in_ g hg
    · intro _; exact hat
  · intro a b x ha hb
    rw [hfs, keys_set, key_of hne] at ha hb
    have key : ∀ a : Nat, ((keys S.fs).set i (some f.at_))[a]? = some (some x) → (i = a ∧ x = f.at_) ∨ (i ≠ a ∧ (keys S.fs)[a]? = some (some x) ∧ x ≠ f.at_) := fun a ha => by
      by_cases e : i = a
      · subst e; rw [List.getElem?_set_self (by rw [keys_length]; exact hi)] at ha; simp at ha; exact .inl ⟨rfl, ha.symm⟩
      · rw [List.getElem?_set_ne e] at ha; exact .inr ⟨e, ha, fun e2 => idx_none hn a x ha (by rw [e2])⟩
    rcases key a ha with ⟨h1, h2⟩ | ⟨h1, h2, h3⟩ <;> rcases key b hb with ⟨k1, k2⟩ | ⟨k1, k2, k3⟩
    · omega
    · exact absurd h2 k3
    · exact absurd k2 h3
    · exact h.apart a b x h2 k2
end Go.Proofs.YtkcoclpbkealgaaDoor
