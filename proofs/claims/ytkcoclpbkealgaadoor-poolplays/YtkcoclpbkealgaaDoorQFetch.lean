/-
  Fetch, Unpin.
-/
import Derived.Test.YtkcoclpbkealgaaDoorQCalls
namespace Go.Proofs.YtkcoclpbkealgaaDoor
open Go.RowKit
set_option maxRecDepth 20000

theorem bump_facts {w1 : World} {m m0 p g b q i : Nat} {F1 : Nat → Prop} {S1 : PS} (P1 : Pool w1 m0 p g b q F1 S1) (hm : m0 ≤ m + 1 ∧ m < 1000) (hi1 : i < S1.fs.length) (hf : (S1.fm i).data ≠ []) :
    ∃ (n pn : Nat) (t : List UInt8) (u : Bool), w1.cell? ⟨p, 1, none⟩ = some (.slice (some ⟨g, 0, none⟩) n n) ∧ w1.cell? ⟨g, i * 5 + 1, none⟩ = some (.string (bs t)) ∧ w1.cell? ⟨g, i * 5 + 2, none⟩ = some (.int .i64 (pn : Int)) ∧ w1.cell? ⟨g, i * 5 + 4, none⟩ = some (.bool u) ∧
      w1.frozen? ⟨g, i * 5 + 2, none⟩ = false ∧ w1.frozen? ⟨g, i * 5 + 4, none⟩ = false ∧ (i : Int) < (n : Int) ∧ n ≤ 64 ∧ pn ≤ 100000 ∧ (bs t).size = 256 ∧
      (∀ w', New ((w1.setCell ⟨g, i * 5 + 2, none⟩ (.int .i64 ((pn : Int) + 1))).setCell ⟨g, i * 5 + 4, none⟩ (.bool true)) w' → Pool w' (m + 2) p g b q F1 (S1.bump i) ∧ Step (own p g b F1) (own p g b F1) w1 w') ∧ (S1.fm i).data = t := by
  have hc := P1.bits.cells hi1
  have hp := P1.pins _ (S1.fm_mem hi1)
  refine ⟨S1.fs.length, (S1.fm i).pins, (S1.fm i).data, (S1.fm i).used, P1.bits.row.cell 1, hc 1 _ rfl, hc 2 _ rfl, hc 4 _ rfl, P1.bits.frozen _, P1.bits.frozen _, by omega, P1.inv.most, by omega, ?_, fun w' n' => ?_, rfl⟩
  · rw [bs_size]; exact P1.inv.size _ (S1.fm_mem hi1) hf
  · have b1 := P1.bits.field (i := i) (j := 2) hi1 (by decide) (v := .int .i64 (((S1.fm i).pins + 1 : Nat) : Int)) (f := { S1.fm i with pins := (S1.fm i).pins + 1 }) rfl
    have b2 := b1.field (i := i) (j := 4) (by rw [List.length_set]; exact hi1) (by decide) (v := .bool true) (f := { S1.fm i with pins := (S1.fm i).pins + 1, used := true }) (by rw [getD_set_same hi1]; rfl)
    rw [List.set_set] at b2
    have e : ((((S1.fm i).pins + 1 : Nat)) : Int) = ((S1.fm i).pins : Int) + 1 := by omega
    rw [e] at b2
    have s1 : Step (own p g b F1) (own p g b F1) w1 ((w1.setCell ⟨g, i * 5 + 2, none⟩ (.int .i64 (((S1.fm i).pins : Int) + 1))).setCell ⟨g, i * 5 + 4, none⟩ (.bool true)) := (Step.setCell w1 (a := ⟨g, i * 5 + 2, none⟩) (.inr (.inl rfl)) _).trans (Step.setCell _ (a := ⟨g, i * 5 + 4, none⟩) (.inr (.inl rfl)) _)
    exact ⟨(P1.field hi1 hf (f := { S1.fm i with pins := (S1.fm i).pins + 1, used := true }) rfl rfl rfl (m' := m + 2) (by omega) (by simp only; omega) b2).after n', s1.trans (Step.new n')⟩
theorem PS.fetch_hit {S : PS} {a : Int} {i : Nat} (h : idx a (keys S.fs) = some i) : S.fetch a = ⟨0, (S.fm i).data, S.bump i⟩ := by unfold PS.fetch; rw [h]
theorem PS.fetch_no {S : PS} {a : Int} (h : idx a (keys S.fs) = none) (he : (S.readIn a).e ≠ 0) : S.fetch a = ⟨(S.readIn a).e, [], (S.readIn a).S⟩ := by unfold PS.fetch; rw [h]; simp only [if_neg he]
theorem PS.fetch_yes {S : PS} {a : Int} (h : idx a (keys S.fs) = none) (he : (S.readIn a).e = 0) : S.fetch a = ⟨0, ((S.readIn a).S.fm (S.readIn a).i).data, (S.readIn a).S.bump (S.readIn a).i⟩ := by unfold PS.fetch; rw [h]; simp only [if_pos he]
/-- The page that was read stands in its frame. -/
theorem readIn_full {S : PS} (hI : Inv S) {a : Int} (he : (S.readIn a).e = 0) : (S.readIn a).i < (S.readIn a).S.fs.length ∧ ((S.readIn a).S.fm (S.readIn a).i).data ≠ [] := by
  by_cases h0 : S.find.e = 0
  · have fo := find_ok hI h0
    by_cases h1 : (S.find.S.d.read a).1 = 0
    · cases h2 : rightB (S.find.S.d.read a).2
      · rw [PS.readIn_page h0 h1 h2] at he; cases he
      · rw [PS.readIn_yes h0 h1 h2]
        have hi : S.find.i < S.find.S.fs.length := by rw [fo.len]; exact fo.lt
        refine ⟨by show S.find.i < (S.find.S.fs.set _ _).length; rw [List.length_set]; exact hi, ?_⟩
        show ((S.find.S.fs.set S.find.i _).getD S.find.i noFm).data ≠ []
        rw [getD_set_same hi]
        have := ((rightB_iff _).1 h2).1
        intro e
        simp only at e
        rw [e] at this; cases this
    · rw [PS.readIn_disk h0 h1] at he; exact absurd he h1
  · rw [PS.readIn_no h0] at he; exact absurd he h0

set_option maxHeartbeats 4000000 in
theorem fetch_any {w : World} {m p g b q : Nat} {Fd : Nat → Prop} {S : PS} (P : Pool w m p g b q Fd S) (hm : m < 1000) (a : Int) (ha : -9223372036854775808 ≤ a) (ha2 : a ≤ 9223372036854775807) :
    Calls Tryd.prog 14 #[.pointer (some ⟨p, 0, none⟩), .int .i64 a] w fun e w' => e = .returned (.tuple #[.string (bs (S.fetch a).t), .int .i64 (S.fetch a).e]) ∧ PLeft p g b q Fd (m + 2) w (S.fetch a).S w' := by
  have c2 : w.cell? ⟨p, 2, none⟩ = some (.map (some b)) := P.bits.row.cell 2
  have hlk := P.bits.look a ha ha2
  cases hix : idx a (keys S.fs) with
  | some i =>
    rw [hix] at hlk
    simp only [Option.getD_some, Option.isSome_some] at hlk
    obtain ⟨hi, hfull, _⟩ := idx_full hix
    have HE : Hid (S.fetch a = ⟨0, (S.fm i).data, S.bump i⟩) := PS.fetch_hit hix
    obtain ⟨w1, hw1⟩ : ∃ w1, w1 = w := ⟨_, rfl⟩
    obtain ⟨S1, hS1⟩ : ∃ S1, S1 = S := ⟨_, rfl⟩
    obtain ⟨F1, hF1⟩ : ∃ F1, F1 = Fd := ⟨_, rfl⟩
    have s1 : Step (own p g b Fd) (own p g b F1) w w1 := by rw [hw1, hF1]; exact Step.refl _ _
    have P1 : Pool w1 m p g b q F1 S1 := by rw [hw1, hF1, hS1]; exact P
    have hi1 : i < S1.fs.length := by rw [hS1]; exact hi
    have hfull1 : (S1.fm i).data ≠ [] := by rw [hS1]; exact hfull
    rw [← hS1] at HE ⊢
    rw [← hw1] at c2 hlk
    rw [show Calls Tryd.prog 14 #[.pointer (some ⟨p, 0, none⟩), .int .i64 a] w = Calls Tryd.prog 14 #[.pointer (some ⟨p, 0, none⟩), .int .i64 a] w1 by rw [hw1]]
    clear hfull hi P hS1 hF1 hw1 hix
    obtain ⟨n, pn, t, u, c1, k1, k2, k4, f2, f4, hi2, h64, hpn, hts, HG', HD'⟩ := bump_facts P1 (m := m) ⟨by omega, hm⟩ hi1 hfull1
    have HG : Hid (∀ w', New ((w1.setCell ⟨g, i * 5 + 2, none⟩ (.int .i64 ((pn : Int) + 1))).setCell ⟨g, i * 5 + 4, none⟩ (.bool true)) w' → Pool w' (m + 2) p g b q F1 (S1.bump i) ∧ Step (own p g b F1) (own p g b F1) w1 w') := HG'
    have HD : Hid ((S1.fm i).data = t) := HD'
    have HS : Hid (Step (own p g b Fd) (own p g b F1) w w1) := s1
    have hcl := clone_text (bs t) (by rw [hts]; omega)
    clear P1 hi1 hfull1 HG' HD' s1
    go_enter Tryd.func14, Tryd.ntmps14
    go_wp2_with fail
    refine (hcl _).mono ?_
    rintro _ w9 ⟨rfl, n9⟩
    go_wp2_with fail
    go_ret2
    obtain ⟨P9, s9⟩ := HG.out w9 n9
    rw [HE.out, HD.out]
    exact ⟨rfl, F1, P9, HS.out.trans s9⟩
  | none =>
    rw [hix] at hlk
    simp only [Option.getD_none, Option.isSome_none] at hlk
    have hrd := readin_any P hm a hix
    have HFull : Hid ((S.readIn a).e = 0 → (S.readIn a).i < (S.readIn a).S.fs.length ∧ ((S.readIn a).S.fm (S.readIn a).i).data ≠ []) := fun he => readIn_full P.inv he
    have HN : Hid ((S.readIn a).e ≠ 0 → S.fetch a = ⟨(S.readIn a).e, [], (S.readIn a).S⟩) := fun he => PS.fetch_no hix he
    have HY : Hid ((S.readIn a).e = 0 → S.fetch a = ⟨0, ((S.readIn a).S.fm (S.readIn a).i).data, (S.readIn a).S.bump (S.readIn a).i⟩) := fun he => PS.fetch_yes hix he
    generalize S.readIn a = fd at hrd HFull HN HY
    clear P hix
    by_cases he : fd.e = 0
    · have HE : Hid (S.fetch a = ⟨0, (fd.S.fm fd.i).data, fd.S.bump fd.i⟩) := HY.out he
      have hV : FoundV fd = .tuple #[.int .i64 (fd.i : Int), .int .i64 0] := by unfold FoundV; rw [he]
      rw [hV] at hrd
      have HFu : Hid (fd.i < fd.S.fs.length ∧ (fd.S.fm fd.i).data ≠ []) := HFull.out he
      obtain ⟨S1, hS1⟩ : ∃ S1, S1 = fd.S := ⟨_, rfl⟩
      obtain ⟨i, hi⟩ : ∃ i, i = fd.i := ⟨_, rfl⟩
      rw [← hS1, ← hi] at HE HFu hrd
      clear HFull HN HY hV he hS1 hi
      go_enter Tryd.func14, Tryd.ntmps14
      go_wp2_with fail
      refine hrd.mono ?_
      rintro _ w1 ⟨rfl, F1, P1, s1⟩
      obtain ⟨hi1, hfull1⟩ := HFu.out
      clear hrd HFu c2 hlk
      obtain ⟨n, pn, t, u, c1, k1, k2, k4, f2, f4, hi2, h64, hpn, hts, HG', HD'⟩ := bump_facts P1 (m := m) ⟨Nat.le_refl _, hm⟩ hi1 hfull1
      have HG : Hid (∀ w', New ((w1.setCell ⟨g, i * 5 + 2, none⟩ (.int .i64 ((pn : Int) + 1))).setCell ⟨g, i * 5 + 4, none⟩ (.bool true)) w' → Pool w' (m + 2) p g b q F1 (S1.bump i) ∧ Step (own p g b F1) (own p g b F1) w1 w') := HG'
      have HD : Hid ((S1.fm i).data = t) := HD'
      have HS : Hid (Step (own p g b Fd) (own p g b F1) w w1) := s1
      have hcl := clone_text (bs t) (by rw [hts]; omega)
      clear P1 hi1 hfull1 HG' HD' s1
      go_wp2_with fail
      refine (hcl _).mono ?_
      rintro _ w9 ⟨rfl, n9⟩
      go_wp2_with fail
      go_ret2
      obtain ⟨P9, s9⟩ := HG.out w9 n9
      rw [HE.out, HD.out]
      exact ⟨rfl, F1, P9, HS.out.trans s9⟩
    · have HE : Hid (S.fetch a = ⟨fd.e, [], fd.S⟩) := HN.out he
      obtain ⟨z, hz⟩ : ∃ z, fd.e = z := ⟨_, rfl⟩
      have hV : FoundV fd = .tuple #[.int .i64 (fd.i : Int), .int .i64 z] := by unfold FoundV; rw [hz]
      rw [hV] at hrd
      rw [hz] at HE he
      clear HFull HN HY hV hz
      go_enter Tryd.func14, Tryd.ntmps14
      go_wp2_with fail
      refine hrd.mono ?_
      rintro _ w1 ⟨rfl, F1, P1, s1⟩
      go_wp2_with fail
      go_ret2
      rw [HE.out]
      exact ⟨rfl, F1, P1.mono (by omega), s1⟩

theorem PS.unpin_none {S : PS} {a : Int} (h : idx a (keys S.fs) = none) : S.unpin a = (1, S) := by unfold PS.unpin; rw [h]
theorem PS.unpin_zero {S : PS} {a : Int} {i : Nat} (h : idx a (keys S.fs) = some i) (hp : (S.fm i).pins = 0) : S.unpin a = (1, S) := by unfold PS.unpin; rw [h]; simp only [if_pos hp]
theorem PS.unpin_some {S : PS} {a : Int} {i : Nat} (h : idx a (keys S.fs) = some i) (hp : (S.fm i).pins ≠ 0) : S.unpin a = (0, S.setF i { S.fm i with pins := (S.fm i).pins - 1 }) := by unfold PS.unpin; rw [h]; simp only [if_neg hp]
set_option maxHeartbeats 4000000 in
theorem unpin_any {w : World} {m p g b q : Nat} {Fd : Nat → Prop} {S : PS} (P : Pool w m p g b q Fd S) (hm : m < 1000) (a : Int) (ha : -9223372036854775808 ≤ a) (ha2 : a ≤ 9223372036854775807) :
    Calls Tryd.prog 16 #[.pointer (some ⟨p, 0, none⟩), .int .i64 a] w fun e w' => e = .returned (.int .i64 (S.unpin a).1) ∧ PLeft p g b q Fd m w (S.unpin a).2 w' := by
  have c2 : w.cell? ⟨p, 2, none⟩ = some (.map (some b)) := P.bits.row.cell 2
  have hlk := P.bits.look a ha ha2
  have HP : Hid (Pool w m p g b q Fd S) := P
  cases hix : idx a (keys S.fs) with
  | none =>
    rw [hix] at hlk
    simp only [Option.getD_none, Option.isSome_none] at hlk
    have HE : Hid (S.unpin a = (1, S)) := PS.unpin_none hix
    clear P hix
    go_enter Tryd.func16, Tryd.ntmps16
    go_wp2_with fail
    go_ret
    rw [HE.out]
    exact ⟨rfl, Fd, HP.out, Step.refl _ _⟩
  | some i =>
    rw [hix] at hlk
    simp only [Option.getD_some, Option.isSome_some] at hlk
    obtain ⟨hi, hfull, _⟩ := idx_full hix
    obtain ⟨n, hn⟩ : ∃ n, S.fs.length = n := ⟨_, rfl⟩
    have c1 : w.cell? ⟨p, 1, none⟩ = some (.slice (some ⟨g, 0, none⟩) n n) := by rw [← hn]; exact P.bits.row.cell 1
    have k2 : w.cell? ⟨g, i * 5 + 2, none⟩ = some (.int .i64 ((S.fm i).pins : Int)) := P.bits.cells hi 2 _ rfl
    have f2 := P.bits.frozen (i * 5 + 2)
    have h64 : n ≤ 64 := by rw [← hn]; exact P.inv.most
    have hin : (i : Int) < (n : Int) := by omega
    have hpb := P.pins _ (S.fm_mem hi)
    by_cases hp : (S.fm i).pins = 0
    · rw [hp] at k2
      have HE : Hid (S.unpin a = (1, S)) := PS.unpin_zero hix hp
      clear P hix hi hfull hn hp hpb
      go_enter Tryd.func16, Tryd.ntmps16
      go_wp2_with fail
      go_ret
      rw [HE.out]
      exact ⟨rfl, Fd, HP.out, Step.refl _ _⟩
    · have HE : Hid (S.unpin a = (0, S.setF i { S.fm i with pins := (S.fm i).pins - 1 })) := PS.unpin_some hix hp
      have b1 := P.bits.field (i := i) (j := 2) hi (by decide) (v := .int .i64 (((S.fm i).pins - 1 : Nat) : Int)) (f := { S.fm i with pins := (S.fm i).pins - 1 }) rfl
      rw [show ((((S.fm i).pins - 1 : Nat)) : Int) = ((S.fm i).pins : Int) - 1 by omega] at b1
      have HG : Hid (Pool (w.setCell ⟨g, i * 5 + 2, none⟩ (.int .i64 (((S.fm i).pins : Int) - 1))) m p g b q Fd (S.setF i { S.fm i with pins := (S.fm i).pins - 1 })) := P.field hi hfull (f := { S.fm i with pins := (S.fm i).pins - 1 }) rfl rfl rfl (Nat.le_refl m) (by simp only; omega) b1
      obtain ⟨pn, hpn⟩ : ∃ pn, (S.fm i).pins = pn := ⟨_, rfl⟩
      rw [hpn] at k2 HG hp hpb HE
      have hp' : ¬ (pn : Int) = 0 := by omega
      clear P hix hi hfull hn b1 hpn
      go_enter Tryd.func16, Tryd.ntmps16
      go_wp2_with fail
      go_ret
      rw [HE.out]
      exact ⟨rfl, Fd, HG.out, Step.setCell w (a := ⟨g, i * 5 + 2, none⟩) (.inr (.inl rfl)) _⟩
end Go.Proofs.YtkcoclpbkealgaaDoor
