/-
  A frame is found for a page.
-/
import Derived.Test.YtkcoclpbkealgaaDoorQVac
namespace Go.Proofs.YtkcoclpbkealgaaDoor
open Go.RowKit
set_option maxRecDepth 20000

/-- The hand stands where no frame is empty. -/
theorem full_at {S : PS} (hn : freeAt (keys S.fs) = none) {fs : List Fm} (h : Calm S.fs fs) {i : Nat} (hi : i < S.fs.length) : (fs.getD i noFm).data ≠ [] := by
  rw [h.data]
  intro e
  exact freeAt_none hn i (by rw [keys_at hi]; unfold Fm.key; rw [if_pos e])
theorem Pool.chosen {w w1 : World} {m p g b q : Nat} {Fd : Nat → Prop} {S : PS} (P : Pool w m p g b q Fd S) (hn : freeAt (keys S.fs) = none) {fs : List Fm} (h : Calm S.fs fs) (B : Bits w1 m p g b q Fd S.d fs S.hand (keys S.fs)) {i : Nat} (hi : i < S.fs.length) :
    Pool (w1.setCell ⟨p, 3, none⟩ (.int .i64 (i : Int))) m p g b q Fd ⟨S.d, fs, i⟩ := by
  refine ⟨h.inv P.inv hn hi, ?_, h.pins_le P.pins, ?_⟩
  · have := B.setHand i
    rw [← h.keys] at this
    exact this
  · show S.d.ws.length + nd fs ≤ m
    rw [h.nd]; exact P.room
theorem Pool.hand {w : World} {m p g b q : Nat} {Fd : Nat → Prop} {S : PS} (P : Pool w m p g b q Fd S) {k : Nat} (hk : k < S.fs.length) : Pool (w.setCell ⟨p, 3, none⟩ (.int .i64 (k : Int))) m p g b q Fd { S with hand := k } :=
  ⟨⟨P.inv.few, P.inv.most, hk, P.inv.none, P.inv.size, P.inv.in_, P.inv.apart⟩, P.bits.setHand k, P.pins, P.room⟩
theorem PLeft.trans {p g b q m : Nat} {Fd Fd' : Nat → Prop} {w w1 w2 : World} {S : PS} (s : Step (own p g b Fd) (own p g b Fd') w w1) (h : PLeft p g b q Fd' m w1 S w2) : PLeft p g b q Fd m w S w2 := by
  obtain ⟨F2, P2, s2⟩ := h; exact ⟨F2, P2, s.trans s2⟩
theorem PLeft.new {p g b q m : Nat} {Fd : Nat → Prop} {w w1 w2 : World} {S : PS} (n : New w w1) (h : PLeft p g b q Fd m w1 S w2) : PLeft p g b q Fd m w S w2 := PLeft.trans (Step.new n) h

theorem PS.find_free {S : PS} {i : Nat} (h : freeAt (keys S.fs) = some i) : S.find = ⟨0, i, S⟩ := by unfold PS.find; rw [h]
theorem PS.find_none {S : PS} (h : freeAt (keys S.fs) = none) {fs : List Fm} (hc : chooseN S.hand S.fs.length (2 * S.fs.length) 0 S.fs = (none, fs)) : S.find = ⟨5, 0, { S with fs := fs }⟩ := by unfold PS.find; rw [h]; simp only [hc]
theorem PS.find_some {S : PS} (h : freeAt (keys S.fs) = none) {fs : List Fm} {i : Nat} (hc : chooseN S.hand S.fs.length (2 * S.fs.length) 0 S.fs = (some i, fs)) :
    S.find = if (PS.vacate ⟨S.d, fs, i⟩ i).1 = 0 then ⟨0, i, { (PS.vacate ⟨S.d, fs, i⟩ i).2 with hand := (i + 1) % S.fs.length }⟩ else ⟨(PS.vacate ⟨S.d, fs, i⟩ i).1, 0, (PS.vacate ⟨S.d, fs, i⟩ i).2⟩ := by unfold PS.find; rw [h]; simp only [hc]

/-- What a call of find leaves. -/
def FoundV (r : Found) : Value := .tuple #[.int .i64 (r.i : Int), .int .i64 r.e]
set_option maxHeartbeats 4000000 in
theorem find_any {w : World} {m p g b q : Nat} {Fd : Nat → Prop} {S : PS} (P : Pool w m p g b q Fd S) (hm : m < 1000) :
    Calls Tryd.prog 48 #[.pointer (some ⟨p, 0, none⟩)] w fun e w' => e = .returned (FoundV S.find) ∧ PLeft p g b q Fd m w S.find.S w' := by
  obtain ⟨n, hn⟩ : ∃ n, S.fs.length = n := ⟨_, rfl⟩
  have c1 : w.cell? ⟨p, 1, none⟩ = some (.slice (some ⟨g, 0, none⟩) n n) := by rw [← hn]; exact P.bits.row.cell 1
  have h64 : n ≤ 64 := by rw [← hn]; exact P.inv.most
  have h1 : 1 ≤ n := by rw [← hn]; exact P.inv.few
  have hF := first_any (w := w) (g := g) (n := n) (fs := S.fs) (by have := P.bits.pl; rw [hn] at this; exact this) hn h64
  cases hfree : freeAt (keys S.fs) with
  | some i =>
    have hz : freeZ S.fs = (i : Int) := by unfold freeZ; rw [hfree]
    rw [hz] at hF
    have HE : Hid (S.find = ⟨0, i, S⟩) := PS.find_free hfree
    have HP : Hid (Pool w m p g b q Fd S) := P
    have hi0 : (0 : Int) ≤ (i : Int) := Int.natCast_nonneg i
    clear P hfree hz hn
    go_enter Tryd.func48, Tryd.ntmps48
    go_wp2_with fail
    refine hF.mono ?_
    rintro _ w1 ⟨rfl, n1⟩
    clear hF
    go_wp2_with fail
    go_ret2
    rw [HE.out]
    exact ⟨rfl, Fd, HP.out.after n1, Step.new n1⟩
  | none =>
    have hz : freeZ S.fs = -1 := by unfold freeZ; rw [hfree]
    rw [hz] at hF
    have HC : Hid (∀ w1, New w w1 → Calls Tryd.prog 68 #[.pointer (some ⟨p, 0, none⟩)] w1 fun e w' => e = .returned (choseV (chooseN S.hand n (2 * n) 0 S.fs).1) ∧ Bits w' m p g b q Fd S.d (chooseN S.hand n (2 * n) 0 S.fs).2 S.hand (keys S.fs) ∧ Step (own p g b Fd) (own p g b Fd) w1 w') :=
      fun w1 n1 => choose_any (P.bits.after n1) n hn h1 h64 (by rw [← hn]; exact P.inv.hand) (fun f hf => by have := P.pins f hf; omega)
    have hcalm := chooseN_calm S.hand n (by omega) (2 * n) 0 S.fs hn
    have hlt := chooseN_lt S.hand n (by omega) (2 * n) 0 S.fs
    obtain ⟨r, hr⟩ : ∃ r, chooseN S.hand n (2 * n) 0 S.fs = r := ⟨_, rfl⟩
    rw [hr] at HC hcalm hlt
    obtain ⟨o, fs⟩ := r
    cases o with
    | none =>
      have HE : Hid (S.find = ⟨5, 0, { S with fs := fs }⟩) := PS.find_none hfree (by rw [hn]; exact hr)
      have HP : Hid (∀ w1, Bits w1 m p g b q Fd S.d fs S.hand (keys S.fs) → Pool w1 m p g b q Fd { S with fs := fs }) := fun w1 b1 =>
        ⟨hcalm.inv P.inv hfree P.inv.hand, by show Bits w1 m p g b q Fd S.d fs S.hand (keys fs); rw [hcalm.keys]; exact b1, hcalm.pins_le P.pins, by show S.d.ws.length + nd fs ≤ m; rw [hcalm.nd]; exact P.room⟩
      clear P hfree hz hn hr hcalm hlt
      go_enter Tryd.func48, Tryd.ntmps48
      go_wp2_with fail
      refine hF.mono ?_
      rintro _ w1 ⟨rfl, n1⟩
      clear hF
      go_wp2_with fail
      refine (HC.out w1 n1).mono ?_
      rintro _ w2 ⟨rfl, b2, s2⟩
      simp only [choseV]
      go_wp2_with fail
      go_ret2
      rw [HE.out]
      exact ⟨rfl, Fd, HP.out w2 b2, (Step.new n1).trans s2⟩
    | some i =>
      have hi : i < S.fs.length := by rw [hn]; exact hlt i rfl
      have HE : Hid (S.find = if (PS.vacate ⟨S.d, fs, i⟩ i).1 = 0 then ⟨0, i, { (PS.vacate ⟨S.d, fs, i⟩ i).2 with hand := (i + 1) % S.fs.length }⟩ else ⟨(PS.vacate ⟨S.d, fs, i⟩ i).1, 0, (PS.vacate ⟨S.d, fs, i⟩ i).2⟩) := PS.find_some hfree (by rw [hn]; exact hr)
      have HP : Hid (∀ w1, Bits w1 m p g b q Fd S.d fs S.hand (keys S.fs) → Pool (w1.setCell ⟨p, 3, none⟩ (.int .i64 (i : Int))) m p g b q Fd ⟨S.d, fs, i⟩ ∧ w1.cell? ⟨p, 3, none⟩ = some (.int .i64 (S.hand : Int)) ∧ w1.frozen? ⟨p, 3, none⟩ = false) := fun w1 b1 => ⟨P.chosen hfree hcalm b1 hi, b1.row.cell 3, b1.row.frozen 3⟩
      have HFull : Hid (i < fs.length ∧ (fs.getD i noFm).data ≠ []) := ⟨by rw [hcalm.len]; exact hi, full_at hfree hcalm hi⟩
      have HL : Hid ((PS.vacate ⟨S.d, fs, i⟩ i).2.fs.length = n) := by show (PS.vacate ⟨S.d, fs, i⟩ i).2.fs.length = n; rw [PS.vacate_len]; exact hcalm.len.trans hn
      rw [hn] at HE
      obtain ⟨v, hv⟩ : ∃ v, PS.vacate ⟨S.d, fs, i⟩ i = v := ⟨_, rfl⟩
      rw [hv] at HE HL
      have HV : Hid (PS.vacate ⟨S.d, fs, i⟩ i = v) := hv
      obtain ⟨k, hk⟩ : ∃ k, (i + 1) % n = k := ⟨_, rfl⟩
      rw [hk] at HE
      have hrem : Int.tmod ((i : Int) + 1) (n : Int) = (k : Int) := by rw [← hk, show (i : Int) + 1 = ((i + 1 : Nat) : Int) by omega, ← Int.ofNat_tmod]
      have hkn : k < n := by rw [← hk]; exact Nat.mod_lt _ (by omega)
      have hin : i < n := by rw [← hn]; exact hi
      clear P hfree hz hn hr hcalm hlt hi hv hk
      go_enter Tryd.func48, Tryd.ntmps48
      go_wp2_with fail
      refine hF.mono ?_
      rintro _ w1 ⟨rfl, n1⟩
      clear hF
      go_wp2_with fail
      refine (HC.out w1 n1).mono ?_
      rintro _ w2 ⟨rfl, b2, s2⟩
      obtain ⟨P2, d3, f3⟩ := HP.out w2 b2
      have hva := vacate_any P2 hm (i := i) HFull.out.1 HFull.out.2
      rw [HV.out] at hva
      have s3 := ((Step.new (F := own p g b Fd) n1).trans s2).trans (Step.setCell w2 (a := ⟨p, 3, none⟩) (.inl rfl) (.int .i64 (i : Int)))
      simp only [choseV]
      clear b2 s2 P2 HP HC
      go_wp2_with fail
      refine hva.mono ?_
      rintro _ w4 ⟨rfl, F4, P4, s4⟩
      have s5 := s3.trans s4
      clear hva s3 s4
      by_cases he : v.1 = 0
      · have HE' : Hid (S.find = ⟨0, i, { v.2 with hand := k }⟩) := by show S.find = _; rw [HE.out, if_pos he]
        rw [he]
        have c1 : w4.cell? ⟨p, 1, none⟩ = some (.slice (some ⟨g, 0, none⟩) n n) := by have := P4.bits.row.cell 1; rw [HL.out] at this; exact this
        have d3 : w4.cell? ⟨p, 3, none⟩ = some (.int .i64 (v.2.hand : Int)) := P4.bits.row.cell 3
        have f3 : w4.frozen? ⟨p, 3, none⟩ = false := P4.bits.row.frozen 3
        have HG : Hid (PLeft p g b q Fd m w { v.2 with hand := k } (w4.setCell ⟨p, 3, none⟩ (.int .i64 (k : Int)))) := ⟨F4, P4.hand (by rw [HL.out]; exact hkn), s5.trans (Step.setCell w4 (a := ⟨p, 3, none⟩) (.inl rfl) (.int .i64 (k : Int)))⟩
        clear P4 s5 HE
        go_wp2_with fail
        go_ret2
        rw [HE'.out]
        exact ⟨rfl, HG.out⟩
      · have HE' : Hid (S.find = ⟨v.1, 0, v.2⟩) := by show S.find = _; rw [HE.out, if_neg he]
        have HG : Hid (PLeft p g b q Fd m w v.2 w4) := ⟨F4, P4, s5⟩
        obtain ⟨z, hz⟩ : ∃ z, v.1 = z := ⟨_, rfl⟩
        have HZ : Hid (v.1 = z) := hz
        rw [hz] at he ⊢
        clear P4 s5 HE hz
        go_wp2_with fail
        go_ret2
        rw [HE'.out]
        refine ⟨?_, HG.out⟩
        rw [HZ.out]; rfl
end Go.Proofs.YtkcoclpbkealgaaDoor
