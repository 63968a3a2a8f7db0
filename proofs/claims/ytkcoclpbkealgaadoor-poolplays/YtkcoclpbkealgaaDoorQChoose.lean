/-
  The hand: which frame is given up.
-/
import Derived.Test.YtkcoclpbkealgaaDoorQLeaf
namespace Go.Proofs.YtkcoclpbkealgaaDoor
open Go.RowKit
set_option maxRecDepth 20000

/-- Frames that are as they were but for their use. -/
structure Calm (fs fs' : List Fm) : Prop where
  len : fs'.length = fs.length
  at_ : ∀ i, (fs'.getD i noFm).at_ = (fs.getD i noFm).at_
  data : ∀ i, (fs'.getD i noFm).data = (fs.getD i noFm).data
  pins : ∀ i, (fs'.getD i noFm).pins = (fs.getD i noFm).pins
  dirty : ∀ i, (fs'.getD i noFm).dirty = (fs.getD i noFm).dirty
theorem Calm.refl (fs : List Fm) : Calm fs fs := ⟨rfl, fun _ => rfl, fun _ => rfl, fun _ => rfl, fun _ => rfl⟩
theorem Calm.trans {a b c : List Fm} (h : Calm a b) (k : Calm b c) : Calm a c :=
  ⟨k.len.trans h.len, fun i => (k.at_ i).trans (h.at_ i), fun i => (k.data i).trans (h.data i), fun i => (k.pins i).trans (h.pins i), fun i => (k.dirty i).trans (h.dirty i)⟩
theorem Calm.set (fs : List Fm) {i : Nat} (hi : i < fs.length) (u : Bool) : Calm fs (fs.set i { fs.getD i noFm with used := u }) := by
  refine ⟨List.length_set .., fun j => ?_, fun j => ?_, fun j => ?_, fun j => ?_⟩
  all_goals
    by_cases e : i = j
    · subst e; rw [getD_set_same hi]
    · rw [getD_set_other e]
theorem getD_ext {fs fs' : List Fm} (hl : fs'.length = fs.length) {β : Type} (f : Fm → β) (h : ∀ i, f (fs'.getD i noFm) = f (fs.getD i noFm)) : fs'.map f = fs.map f := by
  apply List.ext_getElem?
  intro i
  rw [List.getElem?_map, List.getElem?_map]
  have := h i
  rw [List.getD_eq_getElem?_getD, List.getD_eq_getElem?_getD] at this
  by_cases hi : i < fs.length
  · rw [List.getElem?_eq_getElem hi, List.getElem?_eq_getElem (by omega)] at this ⊢
    exact congrArg some this
  · rw [List.getElem?_eq_none (by omega), List.getElem?_eq_none (by omega)]
theorem Calm.keys {fs fs' : List Fm} (h : Calm fs fs') : keys fs' = keys fs := getD_ext h.len _ fun i => by unfold Fm.key; rw [h.at_, h.data]
theorem mem_getD {fs : List Fm} {f : Fm} (h : f ∈ fs) : ∃ i, i < fs.length ∧ f = fs.getD i noFm := by
  obtain ⟨i, hi, rfl⟩ := List.getElem_of_mem h
  exact ⟨i, hi, by rw [List.getD_eq_getElem?_getD, List.getElem?_eq_getElem hi]; rfl⟩
theorem nd_map (fs : List Fm) : nd fs = ((fs.map (·.dirty)).filter id).length := by
  unfold nd
  induction fs with
  | nil => rfl
  | cons f fs ih => simp only [List.map_cons, List.filter_cons, id]; cases f.dirty <;> simp_all
theorem Calm.nd {fs fs' : List Fm} (h : Calm fs fs') : nd fs' = nd fs := by rw [nd_map, nd_map, getD_ext h.len (·.dirty) h.dirty]
theorem Calm.pins_le {fs fs' : List Fm} {m : Nat} (h : Calm fs fs') (hp : ∀ f ∈ fs, f.pins ≤ m) : ∀ f ∈ fs', f.pins ≤ m := fun f hf => by
  obtain ⟨i, hi, rfl⟩ := mem_getD hf
  rw [h.pins]; exact hp _ (getD_mem (by have := h.len; omega))
theorem Calm.inv {S : PS} {fs : List Fm} (h : Calm S.fs fs) (k : Inv S) (hn : freeAt (YtkcoclpbkealgaaDoor.keys S.fs) = none) {hand : Nat} (hh : hand < S.fs.length) : Inv ⟨S.d, fs, hand⟩ := by
  have full : ∀ i, i < S.fs.length → (S.fs.getD i noFm).data ≠ [] := fun i hi e => freeAt_none hn i (by rw [keys_at hi]; unfold Fm.key; rw [if_pos e])
  have hl := h.len
  refine ⟨by simp only [hl]; exact k.few, by simp only [hl]; exact k.most, by simp only [hl]; exact hh, fun f hf => ?_, fun f hf => ?_, fun f hf => ?_, by simp only [h.keys]; exact k.apart⟩
  all_goals obtain ⟨i, hi, rfl⟩ := mem_getD hf
  all_goals simp only [hl] at hi
  · intro e; rw [h.data] at e; exact absurd e (full i hi)
  · intro _; rw [h.data]; exact k.size _ (getD_mem hi) (full i hi)
  · intro _; rw [h.at_]; exact k.in_ _ (getD_mem hi) (full i hi)
theorem chooseN_calm (hand n : Nat) (hn : 0 < n) : ∀ (k s : Nat) (fs : List Fm), fs.length = n → Calm fs (chooseN hand n k s fs).2
  | 0, _, fs, _ => Calm.refl fs
  | k + 1, s, fs, hl => by
    unfold chooseN
    have hi : (hand + s) % n < fs.length := by rw [hl]; exact Nat.mod_lt _ hn
    split
    · exact chooseN_calm hand n hn k (s + 1) fs hl
    · split
      · exact (Calm.set fs hi false).trans (chooseN_calm hand n hn k (s + 1) _ (by rw [List.length_set]; exact hl))
      · exact Calm.refl fs
theorem chooseN_lt (hand n : Nat) (hn : 0 < n) : ∀ (k s : Nat) (fs : List Fm) (i : Nat), (chooseN hand n k s fs).1 = some i → i < n
  | 0, _, _, _, h => by cases h
  | k + 1, s, fs, i, h => by
    unfold chooseN at h
    split at h
    · exact chooseN_lt hand n hn k (s + 1) fs i h
    · split at h
      · exact chooseN_lt hand n hn k (s + 1) _ i h
      · simp only [Option.some.injEq] at h; rw [← h]; exact Nat.mod_lt _ hn

theorem New.drewN (w : World) (n : Nat) : New w (w.drewN n) := ⟨rfl, rfl, rfl, Nat.le_refl _, fun _ _ => rfl⟩
/-- What choose tells. -/
def choseV (r : Option Nat) : Value := match r with | some i => .tuple #[.int .i64 (i : Int), .bool true] | none => .tuple #[.int .i64 0, .bool false]

set_option maxHeartbeats 4000000 in
theorem choose_any {w : World} {m p g b q : Nat} {Fd : Nat → Prop} {d : St} {fs : List Fm} {hand : Nat} {ks : List (Option Nat)} (B : Bits w m p g b q Fd d fs hand ks) (n : Nat) (hn : fs.length = n) (h1 : 1 ≤ n) (h64 : n ≤ 64) (hh : hand < n) (hpins : ∀ f ∈ fs, f.pins ≤ 100000) :
    Calls Tryd.prog 68 #[.pointer (some ⟨p, 0, none⟩)] w fun e w' => e = .returned (choseV (chooseN hand n (2 * n) 0 fs).1) ∧ Bits w' m p g b q Fd d (chooseN hand n (2 * n) 0 fs).2 hand ks ∧ Step (own p g b Fd) (own p g b Fd) w w' := by
  have c1 : w.cell? ⟨p, 1, none⟩ = some (.slice (some ⟨g, 0, none⟩) n n) := by have := B.row.cell 1; rw [hn] at this; exact this
  have HB : Hid (Bits w m p g b q Fd d fs hand ks) := B
  obtain ⟨r, hr⟩ : ∃ r, r = chooseN hand n (2 * n) 0 fs := ⟨_, rfl⟩
  have HR : Hid (chooseN hand n (2 * n) 0 fs = r) := hr.symm
  have HN : Hid (fs.length = n) := hn
  have HP : Hid (∀ f ∈ fs, f.pins ≤ 100000) := hpins
  rw [← hr]
  clear B hr hn hpins
  have hw1 : IntKind.i64.wrap (2 * (n : Int)) = ((2 * n : Nat) : Int) := by rw [IntKind.wrap_i64]; omega
  go_enter Tryd.func68, Tryd.ntmps68
  go_wp2_with fail
  go_loopw [13] (fun u wr => ∃ (k : Nat) (fs' : List Fm), u = .int .i64 (k : Int) ∧ k ≤ 2 * n ∧ Hid (Bits wr m p g b q Fd d fs' hand ks ∧ Step (own p g b Fd) (own p g b Fd) w wr ∧ chooseN hand n (2 * n - k) k fs' = r ∧ fs'.length = n ∧ (∀ f ∈ fs', f.pins ≤ 100000))) (fun u _ => 2 * n - (intOf u).toNat)
  case atStart => exact ⟨0, fs, rfl, by omega, HB.out, Step.refl _ _, HR.out, HN.out, HP.out⟩
  case round =>
    obtain ⟨k, fs', rfl, hk, HI⟩ := hrel
    by_cases h : k < 2 * n
    · obtain ⟨b0, s0, e0, l0, p0⟩ := HI.out
      have c1 : wr.cell? ⟨p, 1, none⟩ = some (.slice (some ⟨g, 0, none⟩) n n) := by have := b0.row.cell 1; rw [l0] at this; exact this
      have c3 : wr.cell? ⟨p, 3, none⟩ = some (.int .i64 (hand : Int)) := b0.row.cell 3
      obtain ⟨i, hi⟩ : ∃ i, i = (hand + k) % n := ⟨_, rfl⟩
      have hin : i < n := by rw [hi]; exact Nat.mod_lt _ (by omega)
      have hrem : Int.tmod ((hand : Int) + (k : Int)) (n : Int) = (i : Int) := by rw [hi]; rw [← Int.natCast_add, ← Int.ofNat_tmod]
      obtain ⟨f, hf⟩ : ∃ f, f = fs'.getD i noFm := ⟨_, rfl⟩
      have hcs := b0.cells (i := i) (by omega)
      rw [← hf] at hcs
      have k2 : wr.cell? ⟨g, i * 5 + 2, none⟩ = some (.int .i64 (f.pins : Int)) := hcs 2 _ rfl
      have k4 : wr.cell? ⟨g, i * 5 + 4, none⟩ = some (.bool f.used) := hcs 4 _ rfl
      have kf := b0.frozen (i * 5 + 4)
      have hpf : f.pins ≤ 100000 := by rw [hf]; exact p0 _ (getD_mem (by omega))
      have HF : Hid (f = fs'.getD i noFm) := hf
      have HJ : Hid (i = (hand + k) % n) := hi
      clear b0 s0 e0 l0 p0 hcs hf hi
      have hstep : 2 * n - k = (2 * n - (k + 1)) + 1 := by omega
      by_cases hp : 0 < f.pins
      · have hp' : (0 : Int) < (f.pins : Int) := by omega
        go_wp2_with fail
        go_quiet (fail)
        go_wp2_with fail
        refine ⟨⟨k + 1, fs', by simp, by omega, ?_⟩, by simp [intOf]; omega⟩
        obtain ⟨b0, s0, e0, l0, p0⟩ := HI.out
        have nq' := New.drewN wr nq
        refine ⟨b0.after nq', s0.trans (Step.new nq'), ?_, l0, p0⟩
        rw [hstep, chooseN, ← HJ.out, ← HF.out, if_pos hp] at e0
        exact e0
      · have hp' : ¬ (0 : Int) < (f.pins : Int) := by omega
        cases hu : f.used
        · rw [hu] at k4
          go_wp2_with fail
          go_quiet (fail)
          go_wp2_with fail
          go_ret2
          obtain ⟨b0, s0, e0, l0, p0⟩ := HI.out
          have nq' := New.drewN wr nq
          rw [hstep, chooseN, ← HJ.out, ← HF.out, if_neg hp, hu, if_neg (by decide)] at e0
          rw [← e0]
          exact ⟨rfl, b0.after nq', s0.trans (Step.new nq')⟩
        · rw [hu] at k4
          go_wp2_with fail
          go_quiet (fail)
          go_wp2_with fail
          refine ⟨⟨k + 1, fs'.set i { f with used := false }, by simp, by omega, ?_⟩, by simp [intOf]; omega⟩
          obtain ⟨b0, s0, e0, l0, p0⟩ := HI.out
          have nq' := New.drewN wr nq
          have hil : i < fs'.length := by omega
          rw [hstep, chooseN, ← HJ.out, ← HF.out, if_neg hp, hu, if_pos rfl] at e0
          refine ⟨(b0.after nq').field hil (by decide) (by rw [← HF.out]; rfl), (s0.trans (Step.new nq')).trans (Step.setCell _ (.inr (.inl rfl)) _), e0, by rw [List.length_set]; exact l0, fun f2 hf2 => ?_⟩
          rcases set_mem hf2 with h2 | rfl
          · exact p0 f2 h2
          · exact hpf
    · obtain rfl : k = 2 * n := by omega
      go_wp2_with fail
      go_ret2
      obtain ⟨b1, s1, e1, _⟩ := HI.out
      rw [Nat.sub_self] at e1
      rw [← e1]
      exact ⟨rfl, b1, s1⟩
end Go.Proofs.YtkcoclpbkealgaaDoor
