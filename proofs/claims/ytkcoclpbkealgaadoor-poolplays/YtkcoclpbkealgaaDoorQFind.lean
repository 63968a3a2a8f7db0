/-
  A frame's page goes to the disk; a frame is emptied; one is found.
-/
import Derived.Test.YtkcoclpbkealgaaDoorQChoose
namespace Go.Proofs.YtkcoclpbkealgaaDoor
open Go.RowKit
set_option maxRecDepth 20000

/-- What a write does to what waits. -/
theorem write_few (S : St) (a : Int) (t : List UInt8) : ((S.write a t).1 = 0 ∧ (S.write a t).2.ws.length = S.ws.length + 1) ∨ ((S.write a t).1 ≠ 0 ∧ (S.write a t).2.ws = S.ws) := by
  unfold St.write St.dead St.burn
  split
  · exact .inr ⟨by simp, rfl⟩
  · split
    · exact .inr ⟨by simp, rfl⟩
    · split
      · exact .inr ⟨by simp, rfl⟩
      · split
        · exact .inr ⟨by simp, rfl⟩
        · exact .inl ⟨rfl, by simp⟩
theorem nd_set : ∀ {fs : List Fm} {i : Nat} {f : Fm}, i < fs.length → nd (fs.set i f) + (if (fs.getD i noFm).dirty then 1 else 0) = nd fs + (if f.dirty then 1 else 0)
  | [], _, _, h => by simp at h
  | x :: fs, 0, f, _ => by
    show nd (f :: fs) + (if x.dirty then 1 else 0) = nd (x :: fs) + _
    unfold nd
    simp only [List.filter_cons]
    cases x.dirty <;> cases f.dirty <;> simp
  | x :: fs, i + 1, f, h => by
    have ih := nd_set (fs := fs) (i := i) (f := f) (by simpa using h)
    show nd (x :: fs.set i f) + (if (fs.getD i noFm).dirty then 1 else 0) = nd (x :: fs) + _
    unfold nd at *
    simp only [List.filter_cons]
    cases x.dirty <;> simp only [Bool.false_eq_true, if_true, if_false, List.length_cons] <;> omega

theorem PS.write_fs (S : PS) (i : Nat) : (S.write i).2.fs = if (S.write i).1 = 0 then S.fs.set i { S.fm i with dirty := false } else S.fs := by
  unfold PS.write; split
  · rfl
  · rfl
theorem PS.write_hand (S : PS) (i : Nat) : (S.write i).2.hand = S.hand := by unfold PS.write; split <;> rfl
theorem PS.write_ps (S : PS) (i : Nat) : (S.write i).2.d.ps = S.d.ps := by unfold PS.write; split <;> exact YtkcoclpbkealgaaDoor.write_ps _ _ _
theorem PS.write_len (S : PS) (i : Nat) : (S.write i).2.fs.length = S.fs.length := by rw [PS.write_fs]; split; rw [List.length_set]; rfl
/-- An empty frame is not dirty. -/
theorem Inv.full {S : PS} (h : Inv S) {i : Nat} (hi : i < S.fs.length) (hd : (S.fm i).dirty = true) : (S.fm i).data ≠ [] := fun e => by
  have := h.none _ (S.fm_mem hi) e
  rw [this] at hd; cases hd
theorem Inv.write {S : PS} (h : Inv S) {i : Nat} (hi : i < S.fs.length) (hd : (S.fm i).dirty = true) : Inv (S.write i).2 := by
  have hf := h.full hi hd
  by_cases e : (S.write i).1 = 0
  · exact h.same hi (f := { S.fm i with dirty := false }) rfl rfl hf (by rw [PS.write_fs, if_pos e]) (PS.write_ps S i) (by rw [PS.write_hand]; exact h.hand)
  · have hfs : (S.write i).2.fs = S.fs := by rw [PS.write_fs, if_neg e]
    exact ⟨by rw [hfs]; exact h.few, by rw [hfs]; exact h.most, by rw [hfs, PS.write_hand]; exact h.hand, by rw [hfs]; exact h.none, by rw [hfs]; exact h.size, by rw [hfs, PS.write_ps]; exact h.in_, by rw [hfs]; exact h.apart⟩
theorem PS.write_room {S : PS} {i : Nat} (hi : i < S.fs.length) (hd : (S.fm i).dirty = true) : (S.write i).2.d.ws.length + nd (S.write i).2.fs = S.d.ws.length + nd S.fs := by
  have hn := nd_set (fs := S.fs) (i := i) (f := { S.fm i with dirty := false }) hi
  rw [show (S.fs.getD i noFm).dirty = true from hd] at hn
  simp only [if_true, Bool.false_eq_true, if_false] at hn
  unfold PS.write
  rcases write_few S.d (S.fm i).at_ (S.fm i).data with ⟨h1, h2⟩ | ⟨h1, h2⟩
  · rw [if_pos h1]; simp only [h2]; omega
  · rw [if_neg h1]; simp only [h2]
theorem PS.write_pins {S : PS} {i m : Nat} (hi : i < S.fs.length) (hp : ∀ f ∈ S.fs, f.pins ≤ m) : ∀ f ∈ (S.write i).2.fs, f.pins ≤ m := by
  intro f hf
  rw [PS.write_fs] at hf
  split at hf
  · rcases set_mem hf with h | rfl
    · exact hp f h
    · exact hp (S.fm i) (S.fm_mem hi)
  · exact hp f hf
theorem keys_same {S : PS} {i : Nat} (hi : i < S.fs.length) {f : Fm} (h1 : f.at_ = (S.fm i).at_) (h2 : f.data = (S.fm i).data) : keys (S.fs.set i f) = keys S.fs := by
  rw [keys_set]
  apply List.ext_getElem?
  intro j
  by_cases e : i = j
  · subst e
    rw [List.getElem?_set_self (by rw [keys_length]; exact hi), keys_at hi]
    unfold Fm.key; rw [h1, h2]; rfl
  · rw [List.getElem?_set_ne e]
theorem PS.write_keys {S : PS} {i : Nat} (hi : i < S.fs.length) : keys (S.write i).2.fs = keys S.fs := by
  rw [PS.write_fs]; split
  · exact keys_same hi rfl rfl
  · rfl

set_option maxHeartbeats 4000000 in
theorem write_any' {w : World} {m p g b q : Nat} {Fd : Nat → Prop} {S : PS} (P : Pool w m p g b q Fd S) (hm : m < 1000) {i : Nat} (hi : i < S.fs.length) (hd : (S.fm i).dirty = true) :
    Calls Tryd.prog 50 #[.pointer (some ⟨p, 0, none⟩), .int .i64 (i : Int)] w fun e w' => e = .returned (.int .i64 (S.write i).1) ∧ PLeft p g b q Fd m w (S.write i).2 w' := by
  have hroom : S.d.ws.length < 1000 := by have := P.room; omega
  have c0 : w.cell? ⟨p, 0, none⟩ = some (.pointer (some ⟨q, 0, none⟩)) := P.bits.row.cell 0
  have c1 : w.cell? ⟨p, 1, none⟩ = some (.slice (some ⟨g, 0, none⟩) S.fs.length S.fs.length) := P.bits.row.cell 1
  have hcs := P.bits.cells hi
  have k0 : w.cell? ⟨g, i * 5, none⟩ = some (.int .i64 ((S.fm i).at_ : Int)) := by have := hcs 0 _ rfl; rw [Nat.add_zero] at this; exact this
  have k1 : w.cell? ⟨g, i * 5 + 1, none⟩ = some (.string (bs (S.fm i).data)) := hcs 1 _ rfl
  have HW : Hid (∀ w1, New w w1 → Calls Tryd.prog 71 #[.pointer (some ⟨q, 0, none⟩), .int .i64 ((S.fm i).at_ : Int), .string (bs (S.fm i).data)] w1 fun e w' => e = .returned (.int .i64 (S.d.write ((S.fm i).at_ : Int) (S.fm i).data).1) ∧ Left Fd q w1 (S.d.write ((S.fm i).at_ : Int) (S.fm i).data).2 w') :=
    fun w1 n1 => by have := write_any (P.bits.disk.after n1) ((S.fm i).at_ : Int) (bs (S.fm i).data) hroom; rwa [L_bs] at this
  have HP : Hid (Pool w m p g b q Fd S) := P
  have H64 := P.inv.most
  have hi' : (i : Int) < (S.fs.length : Int) := by omega
  obtain ⟨r, hr⟩ : ∃ r, r = S.d.write ((S.fm i).at_ : Int) (S.fm i).data := ⟨_, rfl⟩
  rw [← hr] at HW
  have HR : Hid (S.d.write ((S.fm i).at_ : Int) (S.fm i).data = r) := hr.symm
  have HE : Hid (S.write i = if r.1 = 0 then (0, { S with d := r.2, fs := S.fs.set i { S.fm i with dirty := false } }) else (r.1, { S with d := r.2 })) := by rw [hr]; rfl
  have HI : Hid (i < S.fs.length) := hi
  have HD : Hid ((S.fm i).dirty = true) := hd
  obtain ⟨f, hf⟩ : ∃ f, f = S.fm i := ⟨_, rfl⟩
  obtain ⟨n, hn⟩ : ∃ n, n = S.fs.length := ⟨_, rfl⟩
  have HF : Hid (S.fm i = f) := hf.symm
  have HL : Hid (S.fs.length = n) := hn.symm
  rw [← hf] at k0 k1 HW HR HE HD
  rw [← hn] at c1 H64 hi' hi HI
  clear P hcs hr hroom hd hf hn
  have hne := NewW.ne w
  have q0 : ∀ q' : NewW w, q'.v.cell? ⟨p, 0, none⟩ = some (.pointer (some ⟨q, 0, none⟩)) := fun q' => NewW.cell c0 q'
  have q1 : ∀ q' : NewW w, q'.v.cell? ⟨g, i * 5, none⟩ = some (.int .i64 (f.at_ : Int)) := fun q' => NewW.cell k0 q'
  have q2 : ∀ q' : NewW w, q'.v.cell? ⟨g, i * 5 + 1, none⟩ = some (.string (bs f.data)) := fun q' => NewW.cell k1 q'
  go_enter Tryd.func50, Tryd.ntmps50
  go_wp2_with fail
  refine region_first 12 2 w (New.refl w) (by kernel_rfl) (by kernel_rfl) ?_
  simp only [List.take_succ_cons, List.take_zero, List.drop_succ_cons, List.drop_zero, List.take_nil]
  iterate 12 (go_big_quiet_step (fail))
  refine wpQuiet_nil ?_
  rintro W5 ⟨⟨_, N5⟩, rfl⟩
  clear q0 q1 q2 hne
  go_wp2_with fail
  refine (HW.out W5 N5).mono ?_
  rintro _ w6 ⟨rfl, l6⟩
  obtain ⟨Fd', b6, s6⟩ := (HP.out.bits.after N5).call l6
  have hfm : S.fm i = f := HF.out
  have hl : S.fs.length = n := HL.out
  have hil : i < S.fs.length := by omega
  have hdi : (S.fm i).dirty = true := by rw [hfm]; exact HD.out
  have hinv := HP.out.inv.write hil hdi
  have hpins := PS.write_pins hil HP.out.pins
  have hrm := PS.write_room hil hdi
  have hrm2 := HP.out.room
  have hks := PS.write_keys hil
  have hst := (Step.new (F := own p g b Fd) N5).trans s6
  by_cases he : r.1 = 0
  · rw [he]
    have kf := b6.frozen (i * 5 + 3)
    have k3 : w6.cell? ⟨g, i * 5 + 3, none⟩ = some (.bool (S.fs.getD i noFm).dirty) := b6.cells hil 3 _ rfl
    have HG : Hid (PLeft p g b q Fd m w (S.write i).2 (w6.setCell ⟨g, i * 5 + 3, none⟩ (.bool false))) := by
      refine ⟨Fd', ⟨hinv, ?_, hpins, by omega⟩, hst.trans (Step.setCell _ (.inr (.inl rfl)) _)⟩
      rw [hks, HE.out, if_pos he]
      refine b6.field hil (by decide) ?_
      have : S.fs.getD i noFm = f := hfm
      rw [this]; rfl
    have HV : Hid ((S.write i).1 = 0) := by show (S.write i).1 = 0; rw [HE.out, if_pos he]
    generalize (S.fs.getD i noFm).dirty = dd at k3
    clear b6 s6 hfm hl hil hdi hinv hpins hrm hrm2 hks hst l6
    go_wp2_with fail
    go_ret
    exact ⟨ret_int HV.out.symm, HG.out⟩
  · have HG : Hid (PLeft p g b q Fd m w (S.write i).2 w6) := by
      refine ⟨Fd', ⟨hinv, ?_, hpins, by omega⟩, hst⟩
      rw [hks, HE.out, if_neg he]
      exact b6
    have HV : Hid ((S.write i).1 = r.1) := by show (S.write i).1 = r.1; rw [HE.out, if_neg he]
    clear b6 s6 hfm hl hil hdi hinv hpins hrm hrm2 hks hst l6
    generalize r.1 = z at he HV
    go_wp2_with fail
    go_ret
    exact ⟨ret_int HV.out.symm, HG.out⟩

/-- A frame is emptied. -/
theorem PS.vacate_hand (S : PS) (i : Nat) : (S.vacate i).2.hand = S.hand := by unfold PS.vacate; repeat (first | split | exact PS.write_hand S i | rfl)
theorem PS.vacate_ps (S : PS) (i : Nat) : (S.vacate i).2.d.ps = S.d.ps := by unfold PS.vacate; repeat (first | split | exact PS.write_ps S i | rfl)
theorem PS.vacate_len (S : PS) (i : Nat) : (S.vacate i).2.fs.length = S.fs.length := by
  unfold PS.vacate; split
  · split
    · show ((S.write i).2.fs.set i noFm).length = _; rw [List.length_set, PS.write_len]
    · exact PS.write_len S i
  · show (S.fs.set i noFm).length = _; rw [List.length_set]
theorem PS.vacate_fs {S : PS} {i : Nat} (h : (S.vacate i).1 = 0) : (S.vacate i).2.fs = S.fs.set i noFm := by
  unfold PS.vacate at *
  split
  · rename_i hd
    rw [if_pos hd] at h
    split
    · rename_i h0
      show (S.write i).2.fs.set i noFm = _
      rw [PS.write_fs, if_pos h0, List.set_set]
    · rename_i h0
      rw [if_neg h0] at h
      exact absurd h h0
  · rfl
theorem Pool.drop {w w' : World} {m p g b q : Nat} {Fd : Nat → Prop} {S : PS} (P : Pool w m p g b q Fd S) {i : Nat} (hi : i < S.fs.length) (B : Bits w' m p g b q Fd S.d (S.fs.set i noFm) S.hand ((keys S.fs).set i none)) : Pool w' m p g b q Fd (S.setF i noFm) := by
  refine ⟨P.inv.drop hi rfl rfl P.inv.hand, ?_, fun f hf => ?_, ?_⟩
  · show Bits w' m p g b q Fd S.d (S.fs.set i noFm) S.hand (keys (S.fs.set i noFm))
    rw [keys_set]; exact B
  · rcases set_mem hf with h | rfl
    · exact P.pins f h
    · exact Nat.zero_le _
  · have h1 := P.room
    have h2 := nd_set (fs := S.fs) (i := i) (f := noFm) hi
    show S.d.ws.length + nd (S.fs.set i noFm) ≤ m
    have : noFm.dirty = false := rfl
    rw [this] at h2
    simp only [Bool.false_eq_true, if_false] at h2
    omega
end Go.Proofs.YtkcoclpbkealgaaDoor
