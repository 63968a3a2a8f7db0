/-
  The document's own Fetch, Unpin, Put.
-/
import Derived.Test.YtkcoclpbkealgaaDoorRFind
import Derived.Test.YtkcoclpbkealgaaDoorPgRefB
namespace Go.Proofs.YtkcoclpbkealgaaDoor
open Go.RowKit
set_option maxRecDepth 20000

section
variable {w : World} {m m0 p g c q i : Nat} {G : Nat → Prop} {T : PS}
/-- A frame keeps its page. -/
theorem RP.field (P : RP w m p g c q G T) (hi : i < T.fs.length) (hf : (T.fm i).data ≠ []) {f : Fm} (h1 : f.at_ = (T.fm i).at_) (h2 : f.data = (T.fm i).data) (h3 : f.dirty = (T.fm i).dirty) {m' : Nat} (hm : m ≤ m') (hp : f.pins ≤ m') {j : Nat} {v : Value} (hj : j < 5) (he : (rfL (T.fm i)).set j v = rfL f) :
    RP (w.setCell ⟨g, i * 5 + j, none⟩ v) m' p g c q G (T.setF i f) := by
  refine P.frame (But.setCell' w g _ v) (P.fieldPl hi hj he) (P.inv.same hi h1 h2 hf rfl rfl P.inv.hand) (fun f2 hf2 => ?_) ?_
  · rcases set_mem hf2 with h | rfl
    · have := P.pins f2 h; omega
    · exact hp
  · have h4 := P.room
    have h5 := nd_set (fs := T.fs) (i := i) (f := f) hi
    rw [h3] at h5
    have : (T.fs.getD i noFm).dirty = (T.fm i).dirty := rfl
    rw [this] at h5
    omega
theorem rbump_facts {m : Nat} (P1 : RP w m0 p g c q G T) (hm : m0 ≤ m + 1 ∧ m < 1000) (hi1 : i < T.fs.length) (hf : (T.fm i).data ≠ []) :
    ∃ (n pn : Nat) (t : List UInt8) (u : Bool), w.cell? ⟨p, 1, none⟩ = some (.slice (some ⟨g, 0, none⟩) n c) ∧ w.cell? ⟨g, i * 5 + 1, none⟩ = some (.string (bs t)) ∧ w.cell? ⟨g, i * 5 + 2, none⟩ = some (.int .i64 (pn : Int)) ∧ w.cell? ⟨g, i * 5 + 4, none⟩ = some (.bool u) ∧
      w.frozen? ⟨g, i * 5 + 2, none⟩ = false ∧ w.frozen? ⟨g, i * 5 + 4, none⟩ = false ∧ (i : Int) < (n : Int) ∧ n ≤ 64 ∧ pn ≤ 100000 ∧
      (RP ((w.setCell ⟨g, i * 5 + 2, none⟩ (.int .i64 ((pn : Int) + 1))).setCell ⟨g, i * 5 + 4, none⟩ (.bool true)) (m + 2) p g c q G (T.bump i) ∧ Step (rown p g G) (rown p g G) w ((w.setCell ⟨g, i * 5 + 2, none⟩ (.int .i64 ((pn : Int) + 1))).setCell ⟨g, i * 5 + 4, none⟩ (.bool true))) ∧ (T.fm i).data = t := by
  have hc := P1.cells hi1
  have hp := P1.pins _ (T.fm_mem hi1)
  refine ⟨T.fs.length, (T.fm i).pins, (T.fm i).data, (T.fm i).used, P1.row.cell 1, hc 1 _ rfl, hc 2 _ rfl, hc 4 _ rfl, P1.frozen _, P1.frozen _, by omega, P1.inv.most, by omega, ⟨?_, ?_⟩, rfl⟩
  · have e : ((((T.fm i).pins + 1 : Nat)) : Int) = ((T.fm i).pins : Int) + 1 := by omega
    have P2 := P1.field (f := { T.fm i with pins := (T.fm i).pins + 1 }) hi1 hf rfl rfl rfl (m' := m + 2) (by omega) (by simp only; omega) (j := 2) (v := .int .i64 (((T.fm i).pins + 1 : Nat) : Int)) (by decide) rfl
    rw [e] at P2
    have hfm : (T.setF i { T.fm i with pins := (T.fm i).pins + 1 }).fm i = { T.fm i with pins := (T.fm i).pins + 1 } := setF_fm_same hi1 _
    have P3 := P2.field (i := i) (f := { T.fm i with pins := (T.fm i).pins + 1, used := true }) (by rw [setF_len]; exact hi1) (by rw [hfm]; exact hf) (by rw [hfm]) (by rw [hfm]) (by rw [hfm]) (m' := m + 2) (Nat.le_refl _) (by simp only; omega) (j := 4) (v := .bool true) (by decide) (by rw [hfm]; rfl)
    have : (T.setF i { T.fm i with pins := (T.fm i).pins + 1 }).setF i { T.fm i with pins := (T.fm i).pins + 1, used := true } = T.bump i := by
      unfold PS.bump PS.setF; simp only [List.set_set]
    rw [this] at P3
    exact P3
  · exact (Step.setCell w (a := ⟨g, i * 5 + 2, none⟩) (.inr (.inl rfl)) _).trans (Step.setCell _ (a := ⟨g, i * 5 + 4, none⟩) (.inr (.inl rfl)) _)
end
theorem idxZ_some {a : Int} {ks : List (Option Nat)} {i : Nat} (h : idx a ks = some i) : idxZ a ks = (i : Int) := by unfold idxZ; rw [h]
theorem idxZ_none {a : Int} {ks : List (Option Nat)} (h : idx a ks = none) : idxZ a ks = -1 := by unfold idxZ; rw [h]
theorem built97' (a : Int) (s : ByteArray) : Tryd.prog.built 97 [(0, .int .i64 a), (1, .string s)] = some #[.int .i64 a, .string s, .int .i64 0, .bool false, .bool false] := by kernel_rfl
theorem built97a (a : Int) : Tryd.prog.built 97 [(0, .int .i64 a)] = some (rawL a [] 0 false false).toArray := by kernel_rfl
/-- A page comes into an empty frame. -/
theorem RP.come {w w' : World} {m p g c q i : Nat} {G : Nat → Prop} {T : PS} (P : RP w m p g c q G T) (hi : i < T.fs.length) {f : Fm} (hf : f.data.length = 256) (hat : f.at_ < T.d.ps.length) (hn : idx (f.at_ : Int) (keys T.fs) = none) (hp : f.pins ≤ m)
    (hb : But g w w') (Pl' : Pl w' (fun x => x = g) 97 5 (.slice (some ⟨g, 0, none⟩) T.fs.length c) ((T.fs.map rfL).set i (rfL f))) : RP w' (m + 1) p g c q G (T.setF i f) := by
  refine P.frame hb Pl' (P.inv.come hi hf hat hn rfl rfl P.inv.hand) (fun f2 hf2 => ?_) ?_
  · rcases set_mem hf2 with h | rfl
    · have := P.pins f2 h; omega
    · omega
  · have h1 := P.room
    have h2 := nd_le (f := f) hi
    omega

set_option maxHeartbeats 8000000 in
theorem rfetch_any {w : World} {m p g c q : Nat} {G : Nat → Prop} {T : PS} (P : RP w m p g c q G T) (hm : m < 1000) (a : Int) :
    Calls Tryd.prog 15 #[.pointer (some ⟨p, 0, none⟩), .int .i64 a] w fun e w' => e = .returned (.tuple #[.string (bs (T.fetch a).t), .int .i64 (T.fetch a).e]) ∧ RPL p g c q G (m + 2) w (T.fetch a).S w' := by
  have hhas := rhas_any P a
  cases hix : idx a (keys T.fs) with
  | some i =>
    rw [idxZ_some hix] at hhas
    obtain ⟨hi, hfull, _⟩ := idx_full hix
    have HE : Hid (T.fetch a = ⟨0, (T.fm i).data, T.bump i⟩) := PS.fetch_hit hix
    have hi0 : ¬ (i : Int) < 0 := by omega
    obtain ⟨T1, hT1⟩ : ∃ T1, T1 = T := ⟨_, rfl⟩
    obtain ⟨G1, hG1⟩ : ∃ G1, G1 = G := ⟨_, rfl⟩
    have HP : Hid (RP w m p g c q G1 T1 ∧ i < T1.fs.length ∧ (T1.fm i).data ≠ [] ∧ Step (rown p g G) (rown p g G1) w w) := ⟨by rw [hT1, hG1]; exact P, by rw [hT1]; exact hi, by rw [hT1]; exact hfull, by rw [hG1]; exact Step.refl _ _⟩
    rw [← hT1] at HE ⊢
    clear P hix hi hfull hT1 hG1
    go_enter Tryd.func15, Tryd.ntmps15
    go_wp2_with fail
    refine hhas.mono ?_
    rintro _ w1 ⟨rfl, hw1⟩
    obtain ⟨P1, hi1, hfull1, s1⟩ := HP.out
    rw [← hw1] at P1
    have s1 : Step (rown p g G) (rown p g G1) w w1 := by rw [hw1]; exact s1
    clear hhas HP hw1
    obtain ⟨n, pn, t, u, c1, k1, k2, k4, f2, f4, hi2, h64, hpn, HG', HD'⟩ := rbump_facts P1 (m := m) ⟨by omega, hm⟩ hi1 hfull1
    have HG : Hid (RP ((w1.setCell ⟨g, i * 5 + 2, none⟩ (.int .i64 ((pn : Int) + 1))).setCell ⟨g, i * 5 + 4, none⟩ (.bool true)) (m + 2) p g c q G1 (T1.bump i) ∧ Step (rown p g G1) (rown p g G1) w1 ((w1.setCell ⟨g, i * 5 + 2, none⟩ (.int .i64 ((pn : Int) + 1))).setCell ⟨g, i * 5 + 4, none⟩ (.bool true))) := HG'
    have HD : Hid ((T1.fm i).data = t) := HD'
    have HS : Hid (Step (rown p g G) (rown p g G1) w w1) := s1
    clear P1 hi1 hfull1 HG' HD' s1
    go_wp2_with fail
    go_ret2
    rw [HE.out, HD.out]
    exact ⟨rfl, G1, HG.out.1, HS.out.trans HG.out.2⟩
  | none =>
    rw [idxZ_none hix] at hhas
    have hF := rfind_any P hm
    by_cases he : T.find.e = 0
    · have fo := find_ok P.inv he
      have h64 := P.inv.most
      have hV : FoundV T.find = .tuple #[.int .i64 (T.find.i : Int), .int .i64 0] := by unfold FoundV; rw [he]
      rw [hV] at hF
      have HRd : Hid (∀ w1 G1, RP w1 m p g c q G1 T.find.S → Calls Tryd.prog 45 #[.pointer (some ⟨q, 0, none⟩), .int .i64 a] w1 fun e w' => e = .returned (.tuple #[.string (bs (T.find.S.d.read a).2), .int .i64 (T.find.S.d.read a).1]) ∧ w' = w1) := fun w1 G1 P1 => refread_any P1.disk a
      by_cases h1 : (T.find.S.d.read a).1 = 0
      · have hin := read_in h1
        have hri : Hid (∀ w2, Calls Tryd.prog 46 #[.string (bs (T.find.S.d.read a).2)] w2 fun e w' => e = .returned (.bool (rightB (T.find.S.d.read a).2)) ∧ New w2 w') := fun w2 => by have := refRight_any (bs (T.find.S.d.read a).2) w2; rwa [L_bs] at this
        cases h2 : rightB (T.find.S.d.read a).2
        · have HE : Hid (T.fetch a = ⟨6, [], T.find.S⟩) := by have e := PS.readIn_page he h1 h2; have := PS.fetch_no hix (by rw [e]; simp); rw [e] at this; exact this
          rw [h1] at HRd
          rw [h2] at hri
          generalize (T.find.S.d.read a).2 = t at HRd hri
          generalize T.find = fd at hF HRd HE
          clear P fo hin h1 h2 hV he hix
          go_enter Tryd.func15, Tryd.ntmps15
          go_wp2_with fail
          refine hhas.mono ?_
          rintro _ w ⟨rfl, rfl⟩
          go_wp2_with fail
          refine hF.mono ?_
          rintro _ w1 ⟨rfl, G1, P1, s1⟩
          have c0 : w1.cell? ⟨p, 0, none⟩ = some (.pointer (some ⟨q, 0, none⟩)) := P1.row.cell 0
          go_wp2_with fail
          refine (HRd.out w1 G1 P1).mono ?_
          rintro _ w1 ⟨rfl, rfl⟩
          go_wp2_with fail
          refine (hri.out w1).mono ?_
          rintro _ w3 ⟨rfl, n3⟩
          go_wp2_with fail
          go_ret2
          rw [HE.out]
          exact ⟨rfl, G1, ((P1.after n3).mono (by omega)), s1.trans (Step.new n3)⟩
        · have e1 := PS.readIn_yes he h1 h2
          have HFY := PS.fetch_yes hix (by rw [e1])
          rw [e1] at HFY
          have hlen : (T.find.S.d.read a).2.length = 256 := (rightB_iff _).1 h2 |>.1
          have hne : (T.find.S.d.read a).2 ≠ [] := fun h => by rw [h] at hlen; cases hlen
          rw [h1] at HRd
          rw [h2] at hri
          obtain ⟨x, hx⟩ : ∃ x : Nat, a = (x : Int) := ⟨a.toNat, by omega⟩
          subst hx
          rw [Int.toNat_natCast] at HFY
          have hfi : T.find.i < T.find.S.fs.length := by rw [fo.len]; exact fo.lt
          have HX : Hid (idx (x : Int) (keys T.find.S.fs) = none ∧ x < T.find.S.d.ps.length ∧ T.find.i < T.find.S.fs.length ∧ T.find.S.fs.length ≤ 64) := ⟨fo.none _ hix, by omega, hfi, by rw [fo.len]; exact h64⟩
          have HE : Hid (T.fetch (x : Int) = ⟨0, ((T.find.S.setF T.find.i ⟨x, (T.find.S.d.read (x : Int)).2, 0, false, false⟩).fm T.find.i).data, (T.find.S.setF T.find.i ⟨x, (T.find.S.d.read (x : Int)).2, 0, false, false⟩).bump T.find.i⟩) := HFY
          generalize (T.find.S.d.read (x : Int)).2 = t at HRd hri hlen hne HE
          generalize T.find = fd at hF HRd HX HE
          obtain ⟨n, hn⟩ : ∃ n, fd.S.fs.length = n := ⟨_, rfl⟩
          have HN : Hid (fd.S.fs.length = n) := hn
          have hin2 : fd.i < n := by rw [← hn]; exact HX.out.2.2.1
          have hn64 : n ≤ 64 := by rw [← hn]; exact HX.out.2.2.2
          obtain ⟨i, hi⟩ : ∃ i, fd.i = i := ⟨_, rfl⟩
          rw [hi] at hF HX HE hin2
          have HT : Hid (t.length = 256 ∧ t ≠ []) := ⟨hlen, hne⟩
          clear P fo hin h1 h2 hV he hix e1 HFY hfi hn hi hlen hne h64
          go_enter Tryd.func15, Tryd.ntmps15
          go_wp2_with fail
          refine hhas.mono ?_
          rintro _ w ⟨rfl, rfl⟩
          go_wp2_with fail
          refine hF.mono ?_
          rintro _ w1 ⟨rfl, G1, P1, s1⟩
          have c0 : w1.cell? ⟨p, 0, none⟩ = some (.pointer (some ⟨q, 0, none⟩)) := P1.row.cell 0
          go_wp2_with fail
          refine (HRd.out w1 G1 P1).mono ?_
          rintro _ w1 ⟨rfl, rfl⟩
          go_wp2_with fail
          refine (hri.out w1).mono ?_
          rintro _ w3 ⟨rfl, n3⟩
          have P3 := P1.after n3
          have c1 : w3.cell? ⟨p, 1, none⟩ = some (.slice (some ⟨g, 0, none⟩) n c) := by have := P3.row.cell 1; rw [HN.out] at this; exact this
          have HPL : Hid (Pl w3 (fun x => x = g) 97 5 (.slice (some ⟨g, 0, none⟩) n c) (fd.S.fs.map rfL) ∧ i < (fd.S.fs.map rfL).length) := ⟨by have := P3.pl; rw [HN.out] at this; exact this, by rw [List.length_map, HN.out]; exact hin2⟩
          have hrf : rfL ⟨x, t, 0, false, false⟩ = [.int .i64 (x : Int), .string (bs t), .int .i64 0, .bool false, .bool false] := by unfold rfL rAt; rw [if_neg HT.out.2]; rfl
          have HRF : Hid (rfL ⟨x, t, 0, false, false⟩ = [.int .i64 (x : Int), .string (bs t), .int .i64 0, .bool false, .bool false]) := hrf
          have HFr : Hid (∀ w7, Pl w7 (fun x => x = g) 97 5 (.slice (some ⟨g, 0, none⟩) n c) ((fd.S.fs.map rfL).set i [.int .i64 (x : Int), .string (bs t), .int .i64 0, .bool false, .bool false]) → But g w3 w7 → RP w7 (m + 1) p g c q G1 (fd.S.setF i ⟨x, t, 0, false, false⟩) ∧ Step (rown p g G) (rown p g G1) w w7 ∧ i < (fd.S.setF i ⟨x, t, 0, false, false⟩).fs.length ∧ ((fd.S.setF i ⟨x, t, 0, false, false⟩).fm i).data ≠ []) := fun w7 P7 B7 => by
            have hil : i < fd.S.fs.length := HX.out.2.2.1
            refine ⟨P3.come hil (f := ⟨x, t, 0, false, false⟩) HT.out.1 HX.out.2.1 HX.out.1 (Nat.zero_le _) B7 (by rw [HN.out, hrf]; exact P7), (s1.trans (Step.new n3)).trans (B7.step (.inr (.inl rfl))), by rw [setF_len]; exact hil, by rw [setF_fm_same hil]; exact HT.out.2⟩
          obtain ⟨T1, hT1⟩ : ∃ T1, T1 = fd.S.setF i ⟨x, t, 0, false, false⟩ := ⟨_, rfl⟩
          rw [← hT1] at HFr HE
          clear P1 s1 P3 n3 c0 hF HRd hri hhas hrf
          have HOne : Hid (∀ v ∈ ([.int .i64 (x : Int), .string (bs t), .int .i64 0, .bool false, .bool false] : List Value), v.oneCell' = true) := rawL_one (x : Int) t 0 false false
          go_wp2_with (first | (refine wpList_build2 (by rfl) _ _ _ (by rfl) _ _ (by rfl) (by rfl) _ (built97' _ _) ?_) | (refine wpList_store_pl (by rfl) _ _ _ (by rfl) _ 97 5 g n c i _ [.int .i64 (x : Int), .string (bs t), .int .i64 0, .bool false, .bool false] HPL.out.1 HPL.out.2 (by rfl) (by rfl) rfl i97 HOne.out ?_; rintro w1 P7 B7; obtain ⟨P1, s1, hi1, hfull1⟩ := HFr.out w1 P7 B7; obtain ⟨n9, pn, t9, u, c1, k1, k2, k4, f2, f4, hi2, h64, hpn, HG', HD'⟩ := rbump_facts P1 (m := m) ⟨Nat.le_refl _, hm⟩ hi1 hfull1))
          go_ret2
          rw [HE.out, HD']
          exact ⟨rfl, G1, HG'.1, s1.trans HG'.2⟩
      · have HE : Hid (T.fetch a = ⟨(T.find.S.d.read a).1, [], T.find.S⟩) := by have e := PS.readIn_disk he h1; have := PS.fetch_no hix (by rw [e]; exact h1); rw [e] at this; exact this
        obtain ⟨z, hz⟩ : ∃ z, (T.find.S.d.read a).1 = z := ⟨_, rfl⟩
        rw [hz] at HE HRd h1
        generalize (T.find.S.d.read a).2 = t at HRd
        generalize T.find = fd at hF HRd HE
        clear P fo hV he hix hz
        go_enter Tryd.func15, Tryd.ntmps15
        go_wp2_with fail
        refine hhas.mono ?_
        rintro _ w ⟨rfl, rfl⟩
        go_wp2_with fail
        refine hF.mono ?_
        rintro _ w1 ⟨rfl, G1, P1, s1⟩
        have c0 : w1.cell? ⟨p, 0, none⟩ = some (.pointer (some ⟨q, 0, none⟩)) := P1.row.cell 0
        go_wp2_with fail
        refine (HRd.out w1 G1 P1).mono ?_
        rintro _ w1 ⟨rfl, rfl⟩
        go_wp2_with fail
        go_ret2
        rw [HE.out]
        exact ⟨rfl, G1, P1.mono (by omega), s1⟩
    · have HE : Hid (T.fetch a = ⟨T.find.e, [], T.find.S⟩) := by have e := PS.readIn_no (a := a) he; have := PS.fetch_no hix (by rw [e]; exact he); rw [e] at this; exact this
      obtain ⟨z, hz⟩ : ∃ z, T.find.e = z := ⟨_, rfl⟩
      have hV : FoundV T.find = .tuple #[.int .i64 (T.find.i : Int), .int .i64 z] := by unfold FoundV; rw [hz]
      rw [hV] at hF
      rw [hz] at HE he
      generalize T.find = fd at hF HE
      clear P hV hix hz
      go_enter Tryd.func15, Tryd.ntmps15
      go_wp2_with fail
      refine hhas.mono ?_
      rintro _ w ⟨rfl, rfl⟩
      go_wp2_with fail
      refine hF.mono ?_
      rintro _ w1 ⟨rfl, G1, P1, s1⟩
      go_wp2_with fail
      go_ret2
      rw [HE.out]
      exact ⟨rfl, G1, P1.mono (by omega), s1⟩

set_option maxHeartbeats 4000000 in
theorem runpin_any {w : World} {m p g c q : Nat} {G : Nat → Prop} {T : PS} (P : RP w m p g c q G T) (hm : m < 1000) (a : Int) :
    Calls Tryd.prog 17 #[.pointer (some ⟨p, 0, none⟩), .int .i64 a] w fun e w' => e = .returned (.int .i64 (T.unpin a).1) ∧ RPL p g c q G m w (T.unpin a).2 w' := by
  have hhas := rhas_any P a
  have HP : Hid (RP w m p g c q G T) := P
  cases hix : idx a (keys T.fs) with
  | none =>
    rw [idxZ_none hix] at hhas
    have HE : Hid (T.unpin a = (1, T)) := PS.unpin_none hix
    clear P hix
    go_enter Tryd.func17, Tryd.ntmps17
    go_wp2_with fail
    refine hhas.mono ?_
    rintro _ w ⟨rfl, rfl⟩
    go_wp2_with fail
    go_ret
    rw [HE.out]
    exact ⟨rfl, G, HP.out, Step.refl _ _⟩
  | some i =>
    rw [idxZ_some hix] at hhas
    obtain ⟨hi, hfull, _⟩ := idx_full hix
    obtain ⟨n, hn⟩ : ∃ n, T.fs.length = n := ⟨_, rfl⟩
    have c1 : w.cell? ⟨p, 1, none⟩ = some (.slice (some ⟨g, 0, none⟩) n c) := by rw [← hn]; exact P.row.cell 1
    have k2 : w.cell? ⟨g, i * 5 + 2, none⟩ = some (.int .i64 ((T.fm i).pins : Int)) := P.cells hi 2 _ rfl
    have f2 := P.frozen (i * 5 + 2)
    have h64 : n ≤ 64 := by rw [← hn]; exact P.inv.most
    have hin : (i : Int) < (n : Int) := by omega
    have hi0 : ¬ (i : Int) < 0 := by omega
    have hpb := P.pins _ (T.fm_mem hi)
    by_cases hp : (T.fm i).pins = 0
    · rw [hp] at k2
      have HE : Hid (T.unpin a = (1, T)) := PS.unpin_zero hix hp
      clear P hix hi hfull hn hp hpb
      go_enter Tryd.func17, Tryd.ntmps17
      go_wp2_with fail
      refine hhas.mono ?_
      rintro _ w ⟨rfl, rfl⟩
      go_wp2_with fail
      go_ret
      rw [HE.out]
      exact ⟨rfl, G, HP.out, Step.refl _ _⟩
    · have HE : Hid (T.unpin a = (0, T.setF i { T.fm i with pins := (T.fm i).pins - 1 })) := PS.unpin_some hix hp
      have P2 := P.field (f := { T.fm i with pins := (T.fm i).pins - 1 }) hi hfull rfl rfl rfl (Nat.le_refl m) (by simp only; omega) (j := 2) (v := .int .i64 (((T.fm i).pins - 1 : Nat) : Int)) (by decide) rfl
      rw [show ((((T.fm i).pins - 1 : Nat)) : Int) = ((T.fm i).pins : Int) - 1 by omega] at P2
      have HG : Hid (RP (w.setCell ⟨g, i * 5 + 2, none⟩ (.int .i64 (((T.fm i).pins : Int) - 1))) m p g c q G (T.setF i { T.fm i with pins := (T.fm i).pins - 1 })) := P2
      obtain ⟨pn, hpn⟩ : ∃ pn, (T.fm i).pins = pn := ⟨_, rfl⟩
      rw [hpn] at k2 HG hp hpb HE
      have hp' : ((pn : Int) == 0) = false := beq_eq_false_iff_ne.2 (by omega)
      have hi0' : decide ((i : Int) < 0) = false := decide_eq_false hi0
      clear P hix hi hfull hn P2 hpn
      go_enter Tryd.func17, Tryd.ntmps17
      go_wp2_with fail
      refine hhas.mono ?_
      rintro _ w ⟨rfl, rfl⟩
      go_wp2_with fail
      go_ret
      rw [HE.out]
      exact ⟨rfl, G, HG.out, Step.setCell w (a := ⟨g, i * 5 + 2, none⟩) (.inr (.inl rfl)) _⟩
end Go.Proofs.YtkcoclpbkealgaaDoor
