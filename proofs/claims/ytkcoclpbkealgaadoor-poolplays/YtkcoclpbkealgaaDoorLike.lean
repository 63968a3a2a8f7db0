/-
  The program's pool and the document's own, side by side: what each call tells of both.
-/
import Derived.Test.YtkcoclpbkealgaaDoorRNew
namespace Go.Proofs.YtkcoclpbkealgaaDoor
open Go.RowKit
set_option maxRecDepth 20000

def refF (n : Int) : Int := if n > -1 then n else -1
structure Like (S R : St) : Prop where
  lim : R.lim = S.lim
  ps : R.ps = S.ps
  ws : R.ws = S.ws
  down : R.down = S.down
  fuse : S.down = false → R.fuse = refF S.fuse
theorem refF_zero (n : Int) : refF n = 0 ↔ n = 0 := by unfold refF; split <;> omega
theorem refF_burn (n : Int) (h : n ≠ 0) : (if 0 < refF n then refF n - 1 else refF n) = refF (if 0 < n then n - 1 else n) := by
  unfold refF
  by_cases h1 : 0 < n
  · simp only [if_pos h1, if_pos (show n > -1 by omega), if_pos (show n - 1 > -1 by omega)]
  · simp only [if_neg h1, if_neg (show ¬ n > -1 by omega)]
    decide
theorem Like.burn {S R : St} (h : Like S R) (hz : S.fuse ≠ 0) : Like S.burn R.burn := by
  refine ⟨h.lim, h.ps, h.ws, h.down, fun hd => ?_⟩
  unfold St.burn
  simp only
  rw [h.fuse hd, refF_burn _ hz]
theorem Like.dead {S R : St} (h : Like S R) : Like S.dead R.dead := ⟨h.lim, h.ps, h.ws, rfl, fun hd => by cases hd⟩
theorem Like.zero {S R : St} (h : Like S R) (hd : S.down = false) : R.fuse = 0 ↔ S.fuse = 0 := by rw [h.fuse hd, refF_zero]
theorem Like.new (lim : Nat) : Like ⟨lim, [], [], -1, false⟩ ⟨lim, [], [], -1, false⟩ := ⟨rfl, rfl, rfl, rfl, fun _ => rfl⟩
theorem Like.read {S R : St} (h : Like S R) (a : Int) : R.read a = S.read a := by unfold St.read; rw [h.down, h.ps, h.ws]
theorem Like.write {S R : St} (h : Like S R) (a : Int) (d : List UInt8) : (R.write a d).1 = (S.write a d).1 ∧ Like (S.write a d).2 (R.write a d).2 ∧ (S.write a d).2.lim = S.lim ∧ (S.write a d).2.ws.length ≤ S.ws.length + 1 := by
  unfold St.write
  rw [h.down, h.ps]
  cases hd : S.down
  · simp only [Bool.false_eq_true, ↓reduceIte]
    split
    · exact ⟨rfl, h, rfl, by show S.ws.length ≤ _; omega⟩
    split
    · exact ⟨rfl, h, rfl, by show S.ws.length ≤ _; omega⟩
    by_cases hz : S.fuse = 0
    · rw [if_pos hz, if_pos ((h.zero hd).2 hz)]
      exact ⟨rfl, h.dead, rfl, by show S.ws.length ≤ _; omega⟩
    · rw [if_neg hz, if_neg (fun h' => hz ((h.zero hd).1 h'))]
      have hb := h.burn hz
      refine ⟨rfl, ⟨hb.lim, hb.ps, ?_, hb.down, hb.fuse⟩, rfl, ?_⟩
      · show R.ws ++ _ = S.ws ++ _
        rw [h.ws]
      · show (S.ws ++ [_]).length ≤ _
        rw [List.length_append, List.length_singleton]; omega
  · exact ⟨rfl, h, rfl, by show S.ws.length ≤ _; omega⟩
theorem Like.setFuse {S R : St} (h : Like S R) (n : Int) : Like (S.setFuse n) (R.refFuse n) ∧ (S.setFuse n).lim = S.lim ∧ (S.setFuse n).ws.length ≤ S.ws.length := by
  unfold St.setFuse St.refFuse
  cases hd : S.down
  · rw [if_neg (by decide)]
    exact ⟨⟨h.lim, h.ps, h.ws, h.down.trans hd, fun _ => rfl⟩, rfl, by show S.ws.length ≤ _; omega⟩
  · rw [if_pos rfl]
    exact ⟨⟨h.lim, h.ps, h.ws, h.down, fun h' => by rw [hd] at h'; cases h'⟩, rfl, by omega⟩
theorem Like.crash {S R : St} (h : Like S R) (cs : List UInt8) : Like (S.crash cs) (R.crash cs) ∧ (S.crash cs).lim = S.lim ∧ (S.crash cs).ws.length ≤ S.ws.length := by
  unfold St.crash
  rw [h.lim, h.ps, h.ws]
  exact ⟨⟨rfl, rfl, rfl, rfl, fun _ => rfl⟩, rfl, Nat.zero_le _⟩


/-- Both pools: the same frames, the same hand, disks alike. -/
structure LikeP (S T : PS) : Prop where
  fs : T.fs = S.fs
  hand : T.hand = S.hand
  d : Like S.d T.d
theorem LikeP.fm {S T : PS} (h : LikeP S T) (i : Nat) : T.fm i = S.fm i := by unfold PS.fm; rw [h.fs]
theorem LikeP.start {d e : St} (h : Like d e) (n : Nat) : LikeP (startP d n) (startP e n) := ⟨rfl, rfl, h⟩
theorem LikeP.write {S T : PS} (h : LikeP S T) (i : Nat) : (T.write i).1 = (S.write i).1 ∧ LikeP (S.write i).2 (T.write i).2 := by
  obtain ⟨h1, h2, _⟩ := h.d.write (S.fm i).at_ (S.fm i).data
  unfold PS.write
  rw [h.fm, h1]
  split
  · exact ⟨rfl, by show T.fs.set i _ = S.fs.set i _; rw [h.fs], h.hand, h2⟩
  · exact ⟨rfl, h.fs, h.hand, h2⟩
theorem LikeP.setF {S T : PS} (h : LikeP S T) (i : Nat) (f : Fm) : LikeP (S.setF i f) (T.setF i f) := ⟨by show T.fs.set i f = S.fs.set i f; rw [h.fs], h.hand, h.d⟩
theorem LikeP.vacate {S T : PS} (h : LikeP S T) (i : Nat) : (T.vacate i).1 = (S.vacate i).1 ∧ LikeP (S.vacate i).2 (T.vacate i).2 := by
  obtain ⟨h1, h2⟩ := h.write i
  unfold PS.vacate
  rw [h.fm, h1]
  split
  · split
    · exact ⟨rfl, h2.setF i noFm⟩
    · exact ⟨h1, h2⟩
  · exact ⟨rfl, h.setF i noFm⟩
theorem LikeP.find {S T : PS} (h : LikeP S T) : T.find.e = S.find.e ∧ T.find.i = S.find.i ∧ LikeP S.find.S T.find.S := by
  unfold PS.find
  rw [h.fs, h.hand]
  cases freeAt (keys S.fs) with
  | some i => exact ⟨rfl, rfl, h⟩
  | none =>
    simp only
    generalize chooseN S.hand S.fs.length (2 * S.fs.length) 0 S.fs = r
    obtain ⟨o, fs⟩ := r
    cases o with
    | none => exact ⟨rfl, rfl, rfl, rfl, h.d⟩
    | some i =>
      have hv := LikeP.vacate (S := ⟨S.d, fs, i⟩) (T := ⟨T.d, fs, i⟩) ⟨rfl, rfl, h.d⟩ i
      obtain ⟨h1, h2⟩ := hv
      simp only [h1]
      split
      · exact ⟨rfl, rfl, h2.fs, rfl, h2.d⟩
      · exact ⟨rfl, rfl, h2⟩
theorem LikeP.readIn {S T : PS} (h : LikeP S T) (a : Int) : (T.readIn a).e = (S.readIn a).e ∧ (T.readIn a).i = (S.readIn a).i ∧ LikeP (S.readIn a).S (T.readIn a).S := by
  obtain ⟨h1, h2, h3⟩ := h.find
  unfold PS.readIn
  rw [h1, h2, h3.d.read]
  split
  · split
    · split
      · exact ⟨rfl, rfl, h3.setF _ _⟩
      · exact ⟨rfl, rfl, h3⟩
    · exact ⟨rfl, rfl, h3⟩
  · exact ⟨rfl, rfl, h3⟩
theorem LikeP.bump {S T : PS} (h : LikeP S T) (i : Nat) : LikeP (S.bump i) (T.bump i) := by
  unfold PS.bump; rw [h.fm]; exact h.setF i _
theorem LikeP.fetch {S T : PS} (h : LikeP S T) (a : Int) : (T.fetch a).e = (S.fetch a).e ∧ (T.fetch a).t = (S.fetch a).t ∧ LikeP (S.fetch a).S (T.fetch a).S := by
  unfold PS.fetch
  rw [h.fs]
  cases idx a (keys S.fs) with
  | some i => exact ⟨rfl, by show (T.fm i).data = _; rw [h.fm], h.bump i⟩
  | none =>
    obtain ⟨h1, h2, h3⟩ := h.readIn a
    simp only [h1, h2]
    split
    · exact ⟨rfl, by show ((T.readIn a).S.fm _).data = _; rw [h3.fm], h3.bump _⟩
    · exact ⟨rfl, rfl, h3⟩
theorem LikeP.unpin {S T : PS} (h : LikeP S T) (a : Int) : (T.unpin a).1 = (S.unpin a).1 ∧ LikeP (S.unpin a).2 (T.unpin a).2 := by
  unfold PS.unpin
  rw [h.fs]
  cases idx a (keys S.fs) with
  | some i =>
    simp only [h.fm]
    split
    · exact ⟨rfl, h⟩
    · exact ⟨rfl, h.setF i _⟩
  | none => exact ⟨rfl, h⟩
theorem LikeP.lay {S T : PS} (h : LikeP S T) (i : Nat) (a : Int) (t : List UInt8) : LikeP (S.lay i a t) (T.lay i a t) := by
  unfold PS.lay; rw [h.fm]; exact h.setF i _
theorem LikeP.put {S T : PS} (h : LikeP S T) (a : Int) (t : List UInt8) : (T.put a t).1 = (S.put a t).1 ∧ LikeP (S.put a t).2 (T.put a t).2 := by
  unfold PS.put
  rw [h.fs, h.d.ps]
  split
  · exact ⟨rfl, h⟩
  · cases idx a (keys S.fs) with
    | some i => exact ⟨rfl, h.lay i a t⟩
    | none =>
      obtain ⟨h1, h2, h3⟩ := h.find
      simp only [h1, h2]
      split
      · exact ⟨rfl, h3.lay _ a t⟩
      · exact ⟨rfl, h3⟩
theorem LikeP.flushL : ∀ (l : List Nat) {S T : PS}, LikeP S T → (flushL l T).1 = (flushL l S).1 ∧ LikeP (YtkcoclpbkealgaaDoor.flushL l S).2 (YtkcoclpbkealgaaDoor.flushL l T).2
  | [], _, _, h => ⟨rfl, h⟩
  | a :: l, S, T, h => by
    unfold YtkcoclpbkealgaaDoor.flushL
    rw [h.fs]
    obtain ⟨h1, h2⟩ := h.write ((idx (a : Int) (keys S.fs)).getD 0)
    rw [h1]
    split
    · exact LikeP.flushL l h2
    · exact ⟨h1, h2⟩
theorem LikeP.flush {S T : PS} (h : LikeP S T) : T.flush.1 = S.flush.1 ∧ LikeP S.flush.2 T.flush.2 := by
  unfold PS.flush
  rw [h.fs]
  exact LikeP.flushL _ h
theorem LikeP.held {S T : PS} (h : LikeP S T) : sorted (held T.fs) = sorted (held S.fs) := by rw [h.fs]
theorem LikeP.dirties {S T : PS} (h : LikeP S T) : sorted (dirties T.fs) = sorted (dirties S.fs) := by rw [h.fs]
/-- The disks' own calls. -/
theorem LikeP.disk {S T : PS} (h : LikeP S T) {d e : St} (k : Like d e) : LikeP { S with d := d } { T with d := e } := ⟨h.fs, h.hand, k⟩
end Go.Proofs.YtkcoclpbkealgaaDoor
