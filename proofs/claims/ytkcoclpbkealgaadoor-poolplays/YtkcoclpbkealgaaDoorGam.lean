/-
  A page is read into a frame; Fetch, Unpin, Put. Fetch, Unpin. Put. Dirty: the pages that are dirty, rising.
-/
import Derived.Test.YtkcoclpbkealgaaDoorGal
namespace Go.Proofs.YtkcoclpbkealgaaDoor
open Go.RowKit
set_option maxRecDepth 20000

theorem idx_del {a : Int} {ks : List (Option Nat)} (h : idx a ks = none) (i : Nat) : idx a (ks.set i none) = none := by
  cases h1 : idx a (ks.set i none) with
  | none => rfl
  | some j =>
    obtain ⟨x, h2, h3⟩ := idx_at h1
    by_cases e : i = j
    · subst e
      by_cases hi : i < ks.length
      · rw [List.getElem?_set_self hi] at h2; cases h2
      · rw [List.getElem?_eq_none (by rw [List.length_set]; omega)] at h2; cases h2
    · rw [List.getElem?_set_ne e] at h2; exact absurd h3 (idx_none h j x h2)
/-- What find leaves, where it finds one. -/
structure FoundOk (S : PS) : Prop where
  lt : S.find.i < S.fs.length
  len : S.find.S.fs.length = S.fs.length
  empty : (keys S.find.S.fs)[S.find.i]? = some none
  ps : S.find.S.d.ps = S.d.ps
  none : ∀ a, idx a (keys S.fs) = none → idx a (keys S.find.S.fs) = none
theorem find_ok {S : PS} (h : Inv S) (he : S.find.e = 0) : FoundOk S := by
  cases hfree : freeAt (keys S.fs) with
  | some i =>
    have e := PS.find_free hfree
    have h1 := freeAt_some hfree
    rw [keys_length] at h1
    exact ⟨by rw [e]; exact h1.1, by rw [e], by rw [e]; exact h1.2, by rw [e], fun a ha => by rw [e]; exact ha⟩
  | none =>
    have hn := h.few
    have hc := chooseN_calm S.hand S.fs.length (by omega) (2 * S.fs.length) 0 S.fs rfl
    have hl := chooseN_lt S.hand S.fs.length (by omega) (2 * S.fs.length) 0 S.fs
    obtain ⟨⟨o, fs⟩, hr⟩ : ∃ r, chooseN S.hand S.fs.length (2 * S.fs.length) 0 S.fs = r := ⟨_, rfl⟩
    rw [hr] at hc hl
    cases o with
    | none => rw [PS.find_none hfree hr] at he; cases he
    | some i =>
      have hi := hl i rfl
      have e := PS.find_some hfree hr
      by_cases hv : (PS.vacate ⟨S.d, fs, i⟩ i).1 = 0
      · rw [if_pos hv] at e
        have hfs : S.find.S.fs = fs.set i noFm := by rw [e]; exact PS.vacate_fs hv
        have hk : keys S.find.S.fs = (keys S.fs).set i none := by rw [hfs, keys_set, hc.keys]; rfl
        refine ⟨by rw [e]; exact hi, by rw [hfs, List.length_set]; exact hc.len, by rw [hk, e]; exact List.getElem?_set_self (by rw [keys_length]; exact hi), by rw [e]; exact PS.vacate_ps _ _, fun a ha => by rw [hk]; exact idx_del ha i⟩
      · rw [if_neg hv] at e
        rw [e] at he
        exact absurd he hv
theorem nd_le {fs : List Fm} {i : Nat} {f : Fm} (hi : i < fs.length) : nd (fs.set i f) ≤ nd fs + 1 := by
  have := nd_set (fs := fs) (i := i) (f := f) hi
  split at this <;> split at this <;> omega
/-- A page comes into an empty frame. -/
theorem Pool.come {w w' : World} {m p g b q : Nat} {Fd Fd' : Nat → Prop} {S : PS} (P : Pool w m p g b q Fd S) {i : Nat} (hi : i < S.fs.length) {f : Fm} (hf : f.data.length = 256) (hat : f.at_ < S.d.ps.length) (hn : idx (f.at_ : Int) (keys S.fs) = none) (hp : f.pins ≤ m)
    (B : Bits w' (m + 1) p g b q Fd' S.d (S.fs.set i f) S.hand ((keys S.fs).set i (some f.at_))) : Pool w' (m + 1) p g b q Fd' (S.setF i f) := by
  have hne : f.data ≠ [] := fun e => by rw [e] at hf; cases hf
  refine ⟨P.inv.come hi hf hat hn rfl rfl P.inv.hand, ?_, fun f2 hf2 => ?_, ?_⟩
  · show Bits w' (m + 1) p g b q Fd' S.d (S.fs.set i f) S.hand (keys (S.fs.set i f))
    rw [keys_set, key_of hne]; exact B
  · rcases set_mem hf2 with h | rfl
    · have := P.pins f2 h; omega
    · omega
  · have h1 := P.room
    have h2 := nd_le (f := f) hi
    show S.d.ws.length + nd (S.fs.set i f) ≤ m + 1
    omega
theorem built103' (a : Int) (s : ByteArray) : Tryd.prog.built 103 [(0, .int .i64 a), (1, .string s)] = some #[.int .i64 a, .string s, .int .i64 0, .bool false, .bool false] := by kernel_rfl
theorem wpList_mput {w : World} {ops : Array Oper} {rest : List Oper} {o : Oper} {a : Act} {Q : Exit → Act → World → Prop} {m p g b q : Nat} {Fd : Nat → Prop} {d : St} {fs : List Fm} {hand : Nat} {ks : List (Option Nat)} (B : Bits w m p g b q Fd d fs hand ks) (hm : m < 100000) {i x : Nat} (hi : i < ks.length) (hl : ks.length ≤ 64) (hx : x ≤ 1000) (hk : ks[i]? = some none) (hn : idx (x : Int) ks = none)
    (hgd : o.guard = none) (s t v : Operand) (ho : o.op = .mapUpdate 90 s t v) (hs : a.eval s = .map (some b)) (ht : a.eval t = .int .i64 (x : Int)) (hv : a.eval v = .int .i64 (i : Int))
    (h : ∀ w', Bits w' (m + 1) p g b q Fd d fs hand (ks.set i (some x)) → Step (own p g b Fd) (own p g b Fd) w w' → wpList Tryd.prog ops Q rest (a.put o.dst undef) w') : wpList Tryd.prog ops Q (o :: rest) a w := by
  refine wpList_plain hgd fun K' hK' => ?_
  obtain ⟨w', hrun, b1, s1⟩ := B.put hm hi hl hx hk hn
  unfold Oper.wp
  simp [execOp, ho, hs, ht, hv, hrun, Result.andThen]
  exact hK' _ _ (h w' b1 s1)
theorem read_in {S : St} {a : Int} (h : (S.read a).1 = 0) : 0 ≤ a ∧ a < S.ps.length := by
  unfold St.read at h
  split at h
  · cases h
  · split at h
    · cases h
    · rename_i h2; simpa using h2
theorem PS.readIn_no {S : PS} {a : Int} (h : S.find.e ≠ 0) : S.readIn a = ⟨S.find.e, 0, S.find.S⟩ := by unfold PS.readIn; rw [if_neg h]
theorem PS.readIn_disk {S : PS} {a : Int} (h : S.find.e = 0) (h1 : (S.find.S.d.read a).1 ≠ 0) : S.readIn a = ⟨(S.find.S.d.read a).1, 0, S.find.S⟩ := by unfold PS.readIn; rw [if_pos h, if_neg h1]
theorem PS.readIn_page {S : PS} {a : Int} (h : S.find.e = 0) (h1 : (S.find.S.d.read a).1 = 0) (h2 : rightB (S.find.S.d.read a).2 = false) : S.readIn a = ⟨6, 0, S.find.S⟩ := by unfold PS.readIn; rw [if_pos h, if_pos h1, if_neg (by rw [h2]; decide)]
theorem PS.readIn_yes {S : PS} {a : Int} (h : S.find.e = 0) (h1 : (S.find.S.d.read a).1 = 0) (h2 : rightB (S.find.S.d.read a).2 = true) : S.readIn a = ⟨0, S.find.i, S.find.S.setF S.find.i ⟨a.toNat, (S.find.S.d.read a).2, 0, false, false⟩⟩ := by unfold PS.readIn; rw [if_pos h, if_pos h1, if_pos h2]

set_option maxHeartbeats 4000000 in
theorem readin_any {w : World} {m p g b q : Nat} {Fd : Nat → Prop} {S : PS} (P : Pool w m p g b q Fd S) (hm : m < 1000) (a : Int) (hnone : idx a (keys S.fs) = none) :
    Calls Tryd.prog 41 #[.pointer (some ⟨p, 0, none⟩), .int .i64 a] w fun e w' => e = .returned (FoundV (S.readIn a)) ∧ PLeft p g b q Fd (m + 1) w (S.readIn a).S w' := by
  have hF := find_any P hm
  by_cases he : S.find.e = 0
  · have fo := find_ok P.inv he
    have h64 := P.inv.most
    have hRd : Hid (∀ w1 F1, Pool w1 m p g b q F1 S.find.S → Calls Tryd.prog 37 #[.pointer (some ⟨q, 0, none⟩), .int .i64 a] w1 fun e w' => e = .returned (.tuple #[.string (bs (S.find.S.d.read a).2), .int .i64 (S.find.S.d.read a).1]) ∧ New w1 w') := fun w1 F1 P1 => read_any P1.bits.disk a
    by_cases h1 : (S.find.S.d.read a).1 = 0
    · have hin := read_in h1
      have hri : Hid (∀ w2, Tab w2 → Calls Tryd.prog 62 #[.string (bs (S.find.S.d.read a).2)] w2 fun e w' => e = .returned (.bool (rightB (S.find.S.d.read a).2)) ∧ New w2 w') := fun w2 h2 => by have := right_any (bs (S.find.S.d.read a).2) w2 h2; rwa [L_bs] at this
      cases h2 : rightB (S.find.S.d.read a).2
      · have HE : Hid (S.readIn a = ⟨6, 0, S.find.S⟩) := PS.readIn_page he h1 h2
        rw [h1] at hRd
        rw [h2] at hri
        have hV : FoundV S.find = .tuple #[.int .i64 (S.find.i : Int), .int .i64 0] := by unfold FoundV; rw [he]
        rw [hV] at hF
        generalize (S.find.S.d.read a).2 = t at hRd hri
        generalize S.find = fd at hF hRd HE
        clear P fo hin h1 h2 hV he hnone
        go_enter Tryd.func41, Tryd.ntmps41
        go_wp2_with fail
        refine hF.mono ?_
        rintro _ w1 ⟨rfl, F1, P1, s1⟩
        have c0 : w1.cell? ⟨p, 0, none⟩ = some (.pointer (some ⟨q, 0, none⟩)) := P1.bits.row.cell 0
        go_wp2_with fail
        refine (hRd.out w1 F1 P1).mono ?_
        rintro _ w2 ⟨rfl, n2⟩
        go_wp2_with fail
        refine (hri.out w2 (P1.bits.tab.after n2)).mono ?_
        rintro _ w3 ⟨rfl, n3⟩
        go_wp2_with fail
        go_ret2
        rw [HE.out]
        exact ⟨rfl, F1, ((P1.after (n2.trans n3)).mono (Nat.le_succ m)), s1.trans (Step.new (n2.trans n3))⟩
      · have HE : Hid (S.readIn a = ⟨0, S.find.i, S.find.S.setF S.find.i ⟨a.toNat, (S.find.S.d.read a).2, 0, false, false⟩⟩) := PS.readIn_yes he h1 h2
        have hlen : (S.find.S.d.read a).2.length = 256 := (rightB_iff _).1 h2 |>.1
        rw [h1] at hRd
        rw [h2] at hri
        have hV : FoundV S.find = .tuple #[.int .i64 (S.find.i : Int), .int .i64 0] := by unfold FoundV; rw [he]
        rw [hV] at hF
        obtain ⟨x, hx⟩ : ∃ x : Nat, a = (x : Int) := ⟨a.toNat, by omega⟩
        subst hx
        have HX : Hid (idx (x : Int) (keys S.find.S.fs) = none ∧ x < S.find.S.d.ps.length ∧ (keys S.find.S.fs)[S.find.i]? = some none ∧ S.find.i < S.find.S.fs.length ∧ S.find.S.fs.length ≤ 64) := ⟨fo.none _ hnone, by omega, fo.empty, by rw [fo.len]; exact fo.lt, by rw [fo.len]; exact h64⟩
        rw [Int.toNat_natCast] at HE
        generalize (S.find.S.d.read (x : Int)).2 = t at hRd hri hlen HE
        generalize S.find = fd at hF hRd HE HX
        obtain ⟨n, hn⟩ : ∃ n, fd.S.fs.length = n := ⟨_, rfl⟩
        have HN : Hid (fd.S.fs.length = n) := hn
        have hin2 : fd.i < n := by rw [← hn]; exact HX.out.2.2.2.1
        have hn64 : n ≤ 64 := by rw [← hn]; exact HX.out.2.2.2.2
        obtain ⟨i, hi⟩ : ∃ i, fd.i = i := ⟨_, rfl⟩
        have HI : Hid (fd.i = i) := hi
        rw [hi] at hF HX HE hin2
        have HT : Hid (t.length = 256) := hlen
        clear P fo hin h1 h2 hV he hnone hn hi hlen h64
        go_enter Tryd.func41, Tryd.ntmps41
        go_wp2_with fail
        refine hF.mono ?_
        rintro _ w1 ⟨rfl, F1, P1, s1⟩
        have c0 : w1.cell? ⟨p, 0, none⟩ = some (.pointer (some ⟨q, 0, none⟩)) := P1.bits.row.cell 0
        go_wp2_with fail
        refine (hRd.out w1 F1 P1).mono ?_
        rintro _ w2 ⟨rfl, n2⟩
        go_wp2_with fail
        refine (hri.out w2 (P1.bits.tab.after n2)).mono ?_
        rintro _ w3 ⟨rfl, n3⟩
        have b3 := P1.bits.after (n2.trans n3)
        have c1 : w3.cell? ⟨p, 1, none⟩ = some (.slice (some ⟨g, 0, none⟩) n n) := by have := b3.row.cell 1; rw [HN.out] at this; exact this
        have HPL : Hid (Pl w3 (fun x => x = g) 103 5 (.slice (some ⟨g, 0, none⟩) n n) (fd.S.fs.map fmL) ∧ i < (fd.S.fs.map fmL).length) := ⟨by have := b3.pl; rw [HN.out] at this; exact this, by rw [List.length_map, HN.out]; exact hin2⟩
        have HB3 : Hid (Bits w3 m p g b q F1 fd.S.d fd.S.fs fd.S.hand (keys fd.S.fs)) := b3
        have HP1 : Hid (Pool w1 m p g b q F1 fd.S ∧ Step (own p g b Fd) (own p g b F1) w w3) := ⟨P1, s1.trans (Step.new (n2.trans n3))⟩
        clear b3 P1 s1 n2 n3 c0 hF hRd hri
        have HFr : Hid (∀ w7, Pl w7 (fun x => x = g) 103 5 (.slice (some ⟨g, 0, none⟩) n n) ((fd.S.fs.map fmL).set i (fmL ⟨x, t, 0, false, false⟩)) → But g w3 w7 → Bits w7 m p g b q F1 fd.S.d (fd.S.fs.set i ⟨x, t, 0, false, false⟩) fd.S.hand (keys fd.S.fs)) := fun w7 P7 B7 => HB3.out.frames B7 (List.length_set ..) (by rw [List.map_set, HN.out]; exact P7)
        have HU : Hid (m < 100000 ∧ i < (keys fd.S.fs).length ∧ (keys fd.S.fs).length ≤ 64 ∧ x ≤ 1000) := ⟨by omega, by rw [keys_length, HN.out]; exact hin2, by rw [keys_length, HN.out]; exact hn64, by have h1 := HX.out.2.1; have h2 := HP1.out.1.bits.disk.ok.len; have h3 := HP1.out.1.bits.disk.ok.lim; omega⟩
        go_wp2_with (first | (refine wpList_build2 (by rfl) _ _ _ (by rfl) _ _ (by rfl) (by rfl) _ (built103' _ _) ?_) | (refine wpList_store_pl (by rfl) _ _ _ (by rfl) _ 103 5 g n n i _ (fmL ⟨x, t, 0, false, false⟩) HPL.out.1 HPL.out.2 (by rfl) (by rfl) rfl i103 (fmL_one _) ?_; rintro w7 P7 B7; have b7 := HFr.out w7 P7 B7; have c2 : w7.cell? ⟨p, 2, none⟩ = some (.map (some b)) := b7.row.cell 2) | (refine wpList_mput b7 HU.out.1 HU.out.2.1 HU.out.2.2.1 HU.out.2.2.2 HX.out.2.2.1 HX.out.1 (by rfl) _ _ _ (by rfl) (by rfl) (by rfl) (by rfl) ?_; intro w8 b8 s8))
        go_ret2
        rw [HE.out]
        refine ⟨rfl, F1, HP1.out.1.come HX.out.2.2.2.1 HT.out HX.out.2.1 HX.out.1 (Nat.zero_le _) b8, (HP1.out.2.trans (B7.step (.inr (.inl rfl)))).trans s8⟩
    · have HE : Hid (S.readIn a = ⟨(S.find.S.d.read a).1, 0, S.find.S⟩) := PS.readIn_disk he h1
      have hV : FoundV S.find = .tuple #[.int .i64 (S.find.i : Int), .int .i64 0] := by unfold FoundV; rw [he]
      rw [hV] at hF
      obtain ⟨z, hz⟩ : ∃ z, (S.find.S.d.read a).1 = z := ⟨_, rfl⟩
      rw [hz] at HE hRd h1
      generalize (S.find.S.d.read a).2 = t at hRd
      generalize S.find = fd at hF hRd HE
      clear P fo hV he hnone hz
      go_enter Tryd.func41, Tryd.ntmps41
      go_wp2_with fail
      refine hF.mono ?_
      rintro _ w1 ⟨rfl, F1, P1, s1⟩
      have c0 : w1.cell? ⟨p, 0, none⟩ = some (.pointer (some ⟨q, 0, none⟩)) := P1.bits.row.cell 0
      go_wp2_with fail
      refine (hRd.out w1 F1 P1).mono ?_
      rintro _ w2 ⟨rfl, n2⟩
      go_wp2_with fail
      go_ret2
      rw [HE.out]
      exact ⟨rfl, F1, ((P1.after n2).mono (Nat.le_succ m)), s1.trans (Step.new n2)⟩
  · have HE : Hid (S.readIn a = ⟨S.find.e, 0, S.find.S⟩) := PS.readIn_no he
    obtain ⟨z, hz⟩ : ∃ z, S.find.e = z := ⟨_, rfl⟩
    have hV : FoundV S.find = .tuple #[.int .i64 (S.find.i : Int), .int .i64 z] := by unfold FoundV; rw [hz]
    rw [hV] at hF
    rw [hz] at HE he
    generalize S.find = fd at hF HE
    clear P hV hnone hz
    go_enter Tryd.func41, Tryd.ntmps41
    go_wp2_with fail
    refine hF.mono ?_
    rintro _ w1 ⟨rfl, F1, P1, s1⟩
    go_wp2_with fail
    go_ret2
    rw [HE.out]
    exact ⟨rfl, F1, P1.mono (Nat.le_succ m), s1⟩

/-! Fetch, Unpin. -/
theorem Pool.field {w : World} {m p g b q : Nat} {Fd : Nat → Prop} {S : PS} (P : Pool w m p g b q Fd S) {i : Nat} (hi : i < S.fs.length) (hf : (S.fm i).data ≠ []) {f : Fm} (h1 : f.at_ = (S.fm i).at_) (h2 : f.data = (S.fm i).data) (h3 : f.dirty = (S.fm i).dirty) {m' : Nat} (hm : m ≤ m') (hp : f.pins ≤ m') {w' : World}
    (B : Bits w' m p g b q Fd S.d (S.fs.set i f) S.hand (keys S.fs)) : Pool w' m' p g b q Fd (S.setF i f) := by
  refine ⟨P.inv.same hi h1 h2 hf rfl rfl P.inv.hand, ?_, fun f2 hf2 => ?_, ?_⟩
  · show Bits w' m' p g b q Fd S.d (S.fs.set i f) S.hand (keys (S.fs.set i f))
    rw [keys_same hi h1 h2]; exact B.mono hm
  · rcases set_mem hf2 with h | rfl
    · have := P.pins f2 h; omega
    · exact hp
  · have h4 := P.room
    have h5 := nd_set (fs := S.fs) (i := i) (f := f) hi
    rw [h3] at h5
    show S.d.ws.length + nd (S.fs.set i f) ≤ m'
    have : (S.fs.getD i noFm).dirty = (S.fm i).dirty := rfl
    rw [this] at h5
    omega
theorem idx_full {S : PS} {a : Int} {i : Nat} (h : idx a (keys S.fs) = some i) : i < S.fs.length ∧ (S.fm i).data ≠ [] ∧ ((S.fm i).at_ : Int) = a := by
  obtain ⟨x, h1, h2⟩ := idx_at h
  have hi := idx_lt h
  rw [keys_length] at hi
  rw [keys_at hi] at h1
  have h3 := key_some (by injection h1 : (S.fm i).key = some x)
  exact ⟨hi, h3.1, by rw [h3.2]; exact h2⟩
theorem fetch_nil (a : Int) (w : World) : Calls Tryd.prog 14 #[.pointer none, .int .i64 a] w fun e w' => e = .returned (.tuple #[.string ⟨#[]⟩, .int .i64 1]) ∧ w' = w := by
  go_enter Tryd.func14, Tryd.ntmps14
  go_wp2_with fail
  go_ret2
  exact ⟨rfl, rfl⟩
theorem unpin_nil (a : Int) (w : World) : Calls Tryd.prog 16 #[.pointer none, .int .i64 a] w fun e w' => e = .returned (.int .i64 1) ∧ w' = w := by
  go_enter Tryd.func16, Tryd.ntmps16
  go_wp2_with fail
  go_ret
  exact ⟨rfl, rfl⟩
theorem put_nil_any (a : Int) (s : ByteArray) (w : World) : Calls Tryd.prog 18 #[.pointer none, .int .i64 a, .string s] w fun e w' => e = .returned (.int .i64 1) ∧ w' = w := by
  go_enter Tryd.func18, Tryd.ntmps18
  go_wp2_with fail
  go_ret
  exact ⟨rfl, rfl⟩
theorem flush_nil (w : World) : Calls Tryd.prog 21 #[.pointer none] w fun e w' => e = .returned (.int .i64 1) ∧ w' = w := by
  go_enter Tryd.func21, Tryd.ntmps21
  go_wp2_with fail
  go_ret
  exact ⟨rfl, rfl⟩
theorem dirty_nil (w : World) : Calls Tryd.prog 30 #[.pointer none] w fun e w' => e = .returned (.slice none 0 0) ∧ w' = w := by
  go_enter Tryd.func30, Tryd.ntmps30
  go_wp2_with fail
  go_ret
  exact ⟨rfl, rfl⟩
end Go.Proofs.YtkcoclpbkealgaaDoor
namespace Go.Proofs.YtkcoclpbkealgaaDoor
open Go.RowKit
set_option maxRecDepth 20000

theorem bump_facts {w1 : World} {m m0 p g b q i : Nat} {F1 : Nat → Prop} {S1 : PS} (P1 : Pool w1 m0 p g b q F1 S1) (hm : m0 ≤ m + 1 ∧ m < 1000) (hi1 : i < S1.fs.length) (hf : (S1.fm i).data ≠ []) :
    ∃ (n pn : Nat) (t : List UInt8) (u : Bool), w1.cell? ⟨p, 1, none⟩ = some (.slice (some ⟨g, 0, none⟩) n n) ∧ w1.cell? ⟨g, i * 5 + 1, none⟩ = some (.string (bs t)) ∧ w1.cell? ⟨g, i * 5 + 2, none⟩ = some (.int .i64 (pn : Int)) ∧ w1.cell? ⟨g, i * 5 + 4, none⟩ = some (.bool u) ∧
      w1.frozen? ⟨g, i * 5 + 2, none⟩ = false ∧ w1.frozen? ⟨g, i * 5 + 4, none⟩ = false ∧ (i : Int) < (n : Int) ∧ n ≤ 64 ∧ pn ≤ 100000 ∧ (bs t).size = 256 ∧
      (∀ w', New ((w1.setCell ⟨g, i * 5 + 2, none⟩ (.int .i64 ((pn : Int) + 1))).setCell ⟨g, i * 5 + 4, none⟩ (.bool true)) w' → Pool w' (m + 2) p g b q F1 (S1.bump i) ∧ Step (own p g b F1) (own p g b F1) w1 w') ∧ (S1.fm i).data = t := by
  have hc := P1.bits.cells hi1
  have hp := P1.pins _ (S1.fm_mem hi1)
  refine ⟨S1.fs.length, (S1.fm i).pins, (S1.fm i).data, (S1.fm i).used, P1.bits.row.cell 1, hc 1 _ rfl, hc 2 _ rfl, hc 4 _ rfl, P1.bits.frozen _, P1.bits.frozen _, by omega, P1.inv.most, by omega, ?_, fun w' n' => ?_, rfl⟩
  · rw [bs_size]; exact P1.inv.size _ (S1.fm_mem hi1) hf
  · have b1 := P1.bits.field (i := i) (j := 2) hi1 (by decide) (v := .int .i64 (((S1.fm i).pins + 1 : Nat) : Int)) (f := { S1.fm i with pins := (S1.fm i).pins + 1 }) rfl
    have b2 := b1.field (i := i) (j := 4) (by rw [List.length_set]; exact hi1) (by decide) (v := .bool true) (f := { S1.fm i with pins := (S1.fm i).pins + 1, used := true }) (by rw [getD_set_same hi1]; rfl)
    rw [List.set_set] at b2
    have e : ((((S1.fm i).pins + 1 : Nat)) : Int) = ((S1.fm i).pins : Int) + 1 := by omega
    rw [e] at b2
    have s1 : Step (own p g b F1) (own p g b F1) w1 ((w1.setCell ⟨g, i * 5 + 2, none⟩ (.int .i64 (((S1.fm i).pins : Int) + 1))).setCell ⟨g, i * 5 + 4, none⟩ (.bool true)) := (Step.setCell w1 (a := ⟨g, i * 5 + 2, none⟩) (.inr (.inl rfl)) _).trans (Step.setCell _ (a := ⟨g, i * 5 + 4, none⟩) (.inr (.inl rfl)) _)
    exact ⟨(P1.field hi1 hf (f := { S1.fm i with pins := (S1.fm i).pins + 1, used := true }) rfl rfl rfl (m' := m + 2) (by omega) (by simp only; omega) b2).after n', s1.trans (Step.new n')⟩
theorem PS.fetch_hit {S : PS} {a : Int} {i : Nat} (h : idx a (keys S.fs) = some i) : S.fetch a = ⟨0, (S.fm i).data, S.bump i⟩ := by unfold PS.fetch; rw [h]
theorem PS.fetch_no {S : PS} {a : Int} (h : idx a (keys S.fs) = none) (he : (S.readIn a).e ≠ 0) : S.fetch a = ⟨(S.readIn a).e, [], (S.readIn a).S⟩ := by unfold PS.fetch; rw [h]; simp only [if_neg he]
theorem PS.fetch_yes {S : PS} {a : Int} (h : idx a (keys S.fs) = none) (he : (S.readIn a).e = 0) : S.fetch a = ⟨0, ((S.readIn a).S.fm (S.readIn a).i).data, (S.readIn a).S.bump (S.readIn a).i⟩ := by unfold PS.fetch; rw [h]; simp only [if_pos he]
/-- The page that was read stands in its frame. -/
theorem readIn_full {S : PS} (hI : Inv S) {a : Int} (he : (S.readIn a).e = 0) : (S.readIn a).i < (S.readIn a).S.fs.length ∧ ((S.readIn a).S.fm (S.readIn a).i).data ≠ [] := by
  by_cases h0 : S.find.e = 0
  · have fo := find_ok hI h0
    by_cases h1 : (S.find.S.d.read a).1 = 0
    · cases h2 : rightB (S.find.S.d.read a).2
      · rw [PS.readIn_page h0 h1 h2] at he; cases he
      · rw [PS.readIn_yes h0 h1 h2]
        have hi : S.find.i < S.find.S.fs.length := by rw [fo.len]; exact fo.lt
        refine ⟨by show S.find.i < (S.find.S.fs.set _ _).length; rw [List.length_set]; exact hi, ?_⟩
        show ((S.find.S.fs.set S.find.i _).getD S.find.i noFm).data ≠ []
        rw [getD_set_same hi]
        have := ((rightB_iff _).1 h2).1
        intro e
        simp only at e
        rw [e] at this; cases this
    · rw [PS.readIn_disk h0 h1] at he; exact absurd he h1
  · rw [PS.readIn_no h0] at he; exact absurd he h0

set_option maxHeartbeats 4000000 in
theorem fetch_any {w : World} {m p g b q : Nat} {Fd : Nat → Prop} {S : PS} (P : Pool w m p g b q Fd S) (hm : m < 1000) (a : Int) (ha : -9223372036854775808 ≤ a) (ha2 : a ≤ 9223372036854775807) :
    Calls Tryd.prog 14 #[.pointer (some ⟨p, 0, none⟩), .int .i64 a] w fun e w' => e = .returned (.tuple #[.string (bs (S.fetch a).t), .int .i64 (S.fetch a).e]) ∧ PLeft p g b q Fd (m + 2) w (S.fetch a).S w' := by
  have c2 : w.cell? ⟨p, 2, none⟩ = some (.map (some b)) := P.bits.row.cell 2
  have hlk := P.bits.look a ha ha2
  cases hix : idx a (keys S.fs) with
  | some i =>
    rw [hix] at hlk
    simp only [Option.getD_some, Option.isSome_some] at hlk
    obtain ⟨hi, hfull, _⟩ := idx_full hix
    have HE : Hid (S.fetch a = ⟨0, (S.fm i).data, S.bump i⟩) := PS.fetch_hit hix
    obtain ⟨w1, hw1⟩ : ∃ w1, w1 = w := ⟨_, rfl⟩
    obtain ⟨S1, hS1⟩ : ∃ S1, S1 = S := ⟨_, rfl⟩
    obtain ⟨F1, hF1⟩ : ∃ F1, F1 = Fd := ⟨_, rfl⟩
    have s1 : Step (own p g b Fd) (own p g b F1) w w1 := by rw [hw1, hF1]; exact Step.refl _ _
    have P1 : Pool w1 m p g b q F1 S1 := by rw [hw1, hF1, hS1]; exact P
    have hi1 : i < S1.fs.length := by rw [hS1]; exact hi
    have hfull1 : (S1.fm i).data ≠ [] := by rw [hS1]; exact hfull
    rw [← hS1] at HE ⊢
    rw [← hw1] at c2 hlk
    rw [show Calls Tryd.prog 14 #[.pointer (some ⟨p, 0, none⟩), .int .i64 a] w = Calls Tryd.prog 14 #[.pointer (some ⟨p, 0, none⟩), .int .i64 a] w1 by rw [hw1]]
    clear hfull hi P hS1 hF1 hw1 hix
    obtain ⟨n, pn, t, u, c1, k1, k2, k4, f2, f4, hi2, h64, hpn, hts, HG', HD'⟩ := bump_facts P1 (m := m) ⟨by omega, hm⟩ hi1 hfull1
    have HG : Hid (∀ w', New ((w1.setCell ⟨g, i * 5 + 2, none⟩ (.int .i64 ((pn : Int) + 1))).setCell ⟨g, i * 5 + 4, none⟩ (.bool true)) w' → Pool w' (m + 2) p g b q F1 (S1.bump i) ∧ Step (own p g b F1) (own p g b F1) w1 w') := HG'
    have HD : Hid ((S1.fm i).data = t) := HD'
    have HS : Hid (Step (own p g b Fd) (own p g b F1) w w1) := s1
    have hcl := clone_text (bs t) (by rw [hts]; omega)
    clear P1 hi1 hfull1 HG' HD' s1
    go_enter Tryd.func14, Tryd.ntmps14
    go_wp2_with fail
    refine (hcl _).mono ?_
    rintro _ w9 ⟨rfl, n9⟩
    go_wp2_with fail
    go_ret2
    obtain ⟨P9, s9⟩ := HG.out w9 n9
    rw [HE.out, HD.out]
    exact ⟨rfl, F1, P9, HS.out.trans s9⟩
  | none =>
    rw [hix] at hlk
    simp only [Option.getD_none, Option.isSome_none] at hlk
    have hrd := readin_any P hm a hix
    have HFull : Hid ((S.readIn a).e = 0 → (S.readIn a).i < (S.readIn a).S.fs.length ∧ ((S.readIn a).S.fm (S.readIn a).i).data ≠ []) := fun he => readIn_full P.inv he
    have HN : Hid ((S.readIn a).e ≠ 0 → S.fetch a = ⟨(S.readIn a).e, [], (S.readIn a).S⟩) := fun he => PS.fetch_no hix he
    have HY : Hid ((S.readIn a).e = 0 → S.fetch a = ⟨0, ((S.readIn a).S.fm (S.readIn a).i).data, (S.readIn a).S.bump (S.readIn a).i⟩) := fun he => PS.fetch_yes hix he
    generalize S.readIn a = fd at hrd HFull HN HY
    clear P hix
    by_cases he : fd.e = 0
    · have HE : Hid (S.fetch a = ⟨0, (fd.S.fm fd.i).data, fd.S.bump fd.i⟩) := HY.out he
      have hV : FoundV fd = .tuple #[.int .i64 (fd.i : Int), .int .i64 0] := by unfold FoundV; rw [he]
      rw [hV] at hrd
      have HFu : Hid (fd.i < fd.S.fs.length ∧ (fd.S.fm fd.i).data ≠ []) := HFull.out he
      obtain ⟨S1, hS1⟩ : ∃ S1, S1 = fd.S := ⟨_, rfl⟩
      obtain ⟨i, hi⟩ : ∃ i, i = fd.i := ⟨_, rfl⟩
      rw [← hS1, ← hi] at HE HFu hrd
      clear HFull HN HY hV he hS1 hi
      go_enter Tryd.func14, Tryd.ntmps14
      go_wp2_with fail
      refine hrd.mono ?_
      rintro _ w1 ⟨rfl, F1, P1, s1⟩
      obtain ⟨hi1, hfull1⟩ := HFu.out
      clear hrd HFu c2 hlk
      obtain ⟨n, pn, t, u, c1, k1, k2, k4, f2, f4, hi2, h64, hpn, hts, HG', HD'⟩ := bump_facts P1 (m := m) ⟨Nat.le_refl _, hm⟩ hi1 hfull1
      have HG : Hid (∀ w', New ((w1.setCell ⟨g, i * 5 + 2, none⟩ (.int .i64 ((pn : Int) + 1))).setCell ⟨g, i * 5 + 4, none⟩ (.bool true)) w' → Pool w' (m + 2) p g b q F1 (S1.bump i) ∧ Step (own p g b F1) (own p g b F1) w1 w') := HG'
      have HD : Hid ((S1.fm i).data = t) := HD'
      have HS : Hid (Step (own p g b Fd) (own p g b F1) w w1) := s1
      have hcl := clone_text (bs t) (by rw [hts]; omega)
      clear P1 hi1 hfull1 HG' HD' s1
      go_wp2_with fail
      refine (hcl _).mono ?_
      rintro _ w9 ⟨rfl, n9⟩
      go_wp2_with fail
      go_ret2
      obtain ⟨P9, s9⟩ := HG.out w9 n9
      rw [HE.out, HD.out]
      exact ⟨rfl, F1, P9, HS.out.trans s9⟩
    · have HE : Hid (S.fetch a = ⟨fd.e, [], fd.S⟩) := HN.out he
      obtain ⟨z, hz⟩ : ∃ z, fd.e = z := ⟨_, rfl⟩
      have hV : FoundV fd = .tuple #[.int .i64 (fd.i : Int), .int .i64 z] := by unfold FoundV; rw [hz]
      rw [hV] at hrd
      rw [hz] at HE he
      clear HFull HN HY hV hz
      go_enter Tryd.func14, Tryd.ntmps14
      go_wp2_with fail
      refine hrd.mono ?_
      rintro _ w1 ⟨rfl, F1, P1, s1⟩
      go_wp2_with fail
      go_ret2
      rw [HE.out]
      exact ⟨rfl, F1, P1.mono (by omega), s1⟩

theorem PS.unpin_none {S : PS} {a : Int} (h : idx a (keys S.fs) = none) : S.unpin a = (1, S) := by unfold PS.unpin; rw [h]
theorem PS.unpin_zero {S : PS} {a : Int} {i : Nat} (h : idx a (keys S.fs) = some i) (hp : (S.fm i).pins = 0) : S.unpin a = (1, S) := by unfold PS.unpin; rw [h]; simp only [if_pos hp]
theorem PS.unpin_some {S : PS} {a : Int} {i : Nat} (h : idx a (keys S.fs) = some i) (hp : (S.fm i).pins ≠ 0) : S.unpin a = (0, S.setF i { S.fm i with pins := (S.fm i).pins - 1 }) := by unfold PS.unpin; rw [h]; simp only [if_neg hp]
set_option maxHeartbeats 4000000 in
theorem unpin_any {w : World} {m p g b q : Nat} {Fd : Nat → Prop} {S : PS} (P : Pool w m p g b q Fd S) (hm : m < 1000) (a : Int) (ha : -9223372036854775808 ≤ a) (ha2 : a ≤ 9223372036854775807) :
    Calls Tryd.prog 16 #[.pointer (some ⟨p, 0, none⟩), .int .i64 a] w fun e w' => e = .returned (.int .i64 (S.unpin a).1) ∧ PLeft p g b q Fd m w (S.unpin a).2 w' := by
  have c2 : w.cell? ⟨p, 2, none⟩ = some (.map (some b)) := P.bits.row.cell 2
  have hlk := P.bits.look a ha ha2
  have HP : Hid (Pool w m p g b q Fd S) := P
  cases hix : idx a (keys S.fs) with
  | none =>
    rw [hix] at hlk
    simp only [Option.getD_none, Option.isSome_none] at hlk
    have HE : Hid (S.unpin a = (1, S)) := PS.unpin_none hix
    clear P hix
    go_enter Tryd.func16, Tryd.ntmps16
    go_wp2_with fail
    go_ret
    rw [HE.out]
    exact ⟨rfl, Fd, HP.out, Step.refl _ _⟩
  | some i =>
    rw [hix] at hlk
    simp only [Option.getD_some, Option.isSome_some] at hlk
    obtain ⟨hi, hfull, _⟩ := idx_full hix
    obtain ⟨n, hn⟩ : ∃ n, S.fs.length = n := ⟨_, rfl⟩
    have c1 : w.cell? ⟨p, 1, none⟩ = some (.slice (some ⟨g, 0, none⟩) n n) := by rw [← hn]; exact P.bits.row.cell 1
    have k2 : w.cell? ⟨g, i * 5 + 2, none⟩ = some (.int .i64 ((S.fm i).pins : Int)) := P.bits.cells hi 2 _ rfl
    have f2 := P.bits.frozen (i * 5 + 2)
    have h64 : n ≤ 64 := by rw [← hn]; exact P.inv.most
    have hin : (i : Int) < (n : Int) := by omega
    have hpb := P.pins _ (S.fm_mem hi)
    by_cases hp : (S.fm i).pins = 0
    · rw [hp] at k2
      have HE : Hid (S.unpin a = (1, S)) := PS.unpin_zero hix hp
      clear P hix hi hfull hn hp hpb
      go_enter Tryd.func16, Tryd.ntmps16
      go_wp2_with fail
      go_ret
      rw [HE.out]
      exact ⟨rfl, Fd, HP.out, Step.refl _ _⟩
    · have HE : Hid (S.unpin a = (0, S.setF i { S.fm i with pins := (S.fm i).pins - 1 })) := PS.unpin_some hix hp
      have b1 := P.bits.field (i := i) (j := 2) hi (by decide) (v := .int .i64 (((S.fm i).pins - 1 : Nat) : Int)) (f := { S.fm i with pins := (S.fm i).pins - 1 }) rfl
      rw [show ((((S.fm i).pins - 1 : Nat)) : Int) = ((S.fm i).pins : Int) - 1 by omega] at b1
      have HG : Hid (Pool (w.setCell ⟨g, i * 5 + 2, none⟩ (.int .i64 (((S.fm i).pins : Int) - 1))) m p g b q Fd (S.setF i { S.fm i with pins := (S.fm i).pins - 1 })) := P.field hi hfull (f := { S.fm i with pins := (S.fm i).pins - 1 }) rfl rfl rfl (Nat.le_refl m) (by simp only; omega) b1
      obtain ⟨pn, hpn⟩ : ∃ pn, (S.fm i).pins = pn := ⟨_, rfl⟩
      rw [hpn] at k2 HG hp hpb HE
      have hp' : ¬ (pn : Int) = 0 := by omega
      clear P hix hi hfull hn b1 hpn
      go_enter Tryd.func16, Tryd.ntmps16
      go_wp2_with fail
      go_ret
      rw [HE.out]
      exact ⟨rfl, Fd, HG.out, Step.setCell w (a := ⟨g, i * 5 + 2, none⟩) (.inr (.inl rfl)) _⟩
end Go.Proofs.YtkcoclpbkealgaaDoor
namespace Go.Proofs.YtkcoclpbkealgaaDoor
open Go.RowKit
set_option maxRecDepth 20000

/-- The frame that is laid. -/
def laid (f : Fm) (x : Nat) (t : List UInt8) : Fm := { f with at_ := x, data := t, dirty := true, used := true }
def layW (w : World) (g i x : Nat) (t : List UInt8) : World := (((w.setCell ⟨g, i * 5, none⟩ (.int .i64 (x : Int))).setCell ⟨g, i * 5 + 1, none⟩ (.string (bs t))).setCell ⟨g, i * 5 + 3, none⟩ (.bool true)).setCell ⟨g, i * 5 + 4, none⟩ (.bool true)
theorem lay_facts {w : World} {m p g b q i x : Nat} {Fd : Nat → Prop} {d : St} {fs : List Fm} {hand : Nat} {ks : List (Option Nat)} (B : Bits w m p g b q Fd d fs hand ks) (hi : i < fs.length) (t : List UInt8) :
    ∃ (v0 v1 v3 v4 : Value), w.cell? ⟨g, i * 5, none⟩ = some v0 ∧ w.cell? ⟨g, i * 5 + 1, none⟩ = some v1 ∧ w.cell? ⟨g, i * 5 + 3, none⟩ = some v3 ∧ w.cell? ⟨g, i * 5 + 4, none⟩ = some v4 ∧
      w.frozen? ⟨g, i * 5, none⟩ = false ∧ w.frozen? ⟨g, i * 5 + 1, none⟩ = false ∧ w.frozen? ⟨g, i * 5 + 3, none⟩ = false ∧ w.frozen? ⟨g, i * 5 + 4, none⟩ = false ∧
      Bits (layW w g i x t) m p g b q Fd d (fs.set i (laid (fs.getD i noFm) x t)) hand ks ∧ Step (own p g b Fd) (own p g b Fd) w (layW w g i x t) := by
  have hc := B.cells hi
  have k0 := hc 0 _ rfl
  rw [Nat.add_zero] at k0
  refine ⟨_, _, _, _, k0, hc 1 _ rfl, hc 3 _ rfl, hc 4 _ rfl, B.frozen _, B.frozen _, B.frozen _, B.frozen _, ?_, ?_⟩
  · have b0 := B.field (i := i) (j := 0) hi (by decide) (v := .int .i64 (x : Int)) (f := { fs.getD i noFm with at_ := x }) rfl
    rw [Nat.add_zero] at b0
    have b1 := b0.field (i := i) (j := 1) (by rw [List.length_set]; exact hi) (by decide) (v := .string (bs t)) (f := { fs.getD i noFm with at_ := x, data := t }) (by rw [getD_set_same hi]; rfl)
    rw [List.set_set] at b1
    have b3 := b1.field (i := i) (j := 3) (by rw [List.length_set]; exact hi) (by decide) (v := .bool true) (f := { fs.getD i noFm with at_ := x, data := t, dirty := true }) (by rw [getD_set_same hi]; rfl)
    rw [List.set_set] at b3
    have b4 := b3.field (i := i) (j := 4) (by rw [List.length_set]; exact hi) (by decide) (v := .bool true) (f := laid (fs.getD i noFm) x t) (by rw [getD_set_same hi]; rfl)
    rw [List.set_set] at b4
    exact b4
  · exact (((Step.setCell w (a := ⟨g, i * 5, none⟩) (.inr (.inl rfl)) _).trans (Step.setCell _ (a := ⟨g, i * 5 + 1, none⟩) (.inr (.inl rfl)) _)).trans (Step.setCell _ (a := ⟨g, i * 5 + 3, none⟩) (.inr (.inl rfl)) _)).trans (Step.setCell _ (a := ⟨g, i * 5 + 4, none⟩) (.inr (.inl rfl)) _)
/-- A page in its frame has other bytes. -/
theorem Pool.relay {w w' : World} {m p g b q : Nat} {Fd Fd' : Nat → Prop} {S : PS} (P : Pool w m p g b q Fd S) {i : Nat} (hi : i < S.fs.length) (hf : (S.fm i).data ≠ []) {f : Fm} (h1 : f.at_ = (S.fm i).at_) (h2 : f.data.length = 256) (h3 : f.pins = (S.fm i).pins)
    (B : Bits w' m p g b q Fd' S.d (S.fs.set i f) S.hand (keys S.fs)) : Pool w' (m + 1) p g b q Fd' (S.setF i f) := by
  have hne : f.data ≠ [] := fun e => by rw [e] at h2; cases h2
  have hk : keys (S.fs.set i f) = keys S.fs := by
    rw [keys_set]
    apply List.ext_getElem?
    intro j
    by_cases e : i = j
    · subst e
      rw [List.getElem?_set_self (by rw [keys_length]; exact hi), keys_at hi, key_of hne, h1]
      exact congrArg some (key_of hf).symm
    · rw [List.getElem?_set_ne e]
  have hm := S.fm_mem hi
  refine ⟨⟨?_, ?_, ?_, ?_, ?_, ?_, ?_⟩, ?_, fun f2 hf2 => ?_, ?_⟩
  · show 1 ≤ (S.fs.set i f).length; rw [List.length_set]; exact P.inv.few
  · show (S.fs.set i f).length ≤ 64; rw [List.length_set]; exact P.inv.most
  · show S.hand < (S.fs.set i f).length; rw [List.length_set]; exact P.inv.hand
  · intro f2 hf2
    rcases set_mem hf2 with h | rfl
    · exact P.inv.none f2 h
    · intro e; exact absurd e hne
  · intro f2 hf2
    rcases set_mem hf2 with h | rfl
    · exact P.inv.size f2 h
    · intro _; exact h2
  · intro f2 hf2
    rcases set_mem hf2 with h | rfl
    · exact P.inv.in_ f2 h
    · intro _; rw [h1]; exact P.inv.in_ _ hm hf
  · show ∀ i' j' x, (keys (S.fs.set i f))[i']? = _ → (keys (S.fs.set i f))[j']? = _ → i' = j'
    rw [hk]; exact P.inv.apart
  · show Bits w' (m + 1) p g b q Fd' S.d (S.fs.set i f) S.hand (keys (S.fs.set i f))
    rw [hk]; exact B.mono (Nat.le_succ m)
  · rcases set_mem hf2 with h | rfl
    · have := P.pins f2 h; omega
    · have := P.pins _ hm; omega
  · have h4 := P.room
    have h5 := nd_le (f := f) hi
    show S.d.ws.length + nd (S.fs.set i f) ≤ m + 1
    omega
theorem PS.put_bad {S : PS} {a : Int} {t : List UInt8} (h : t.length ≠ 256 ∨ a < 0 ∨ (S.d.ps.length : Int) ≤ a) : S.put a t = (1, S) := by unfold PS.put; rw [if_pos h]
theorem PS.put_hit {S : PS} {a : Int} {t : List UInt8} (h : ¬ (t.length ≠ 256 ∨ a < 0 ∨ (S.d.ps.length : Int) ≤ a)) {i : Nat} (hi : idx a (keys S.fs) = some i) : S.put a t = (0, S.lay i a t) := by unfold PS.put; rw [if_neg h, hi]
theorem PS.put_no {S : PS} {a : Int} {t : List UInt8} (h : ¬ (t.length ≠ 256 ∨ a < 0 ∨ (S.d.ps.length : Int) ≤ a)) (hi : idx a (keys S.fs) = none) (he : S.find.e ≠ 0) : S.put a t = (S.find.e, S.find.S) := by unfold PS.put; rw [if_neg h, hi]; simp only [if_neg he]
theorem PS.put_new {S : PS} {a : Int} {t : List UInt8} (h : ¬ (t.length ≠ 256 ∨ a < 0 ∨ (S.d.ps.length : Int) ≤ a)) (hi : idx a (keys S.fs) = none) (he : S.find.e = 0) : S.put a t = (0, S.find.S.lay S.find.i a t) := by unfold PS.put; rw [if_neg h, hi]; simp only [if_pos he]
theorem lay_eq (S : PS) (i x : Nat) (t : List UInt8) : S.lay i (x : Int) t = S.setF i (laid (S.fm i) x t) := by unfold PS.lay laid; rw [Int.toNat_natCast]
set_option maxHeartbeats 4000000 in
theorem put_any_bad {w : World} {m p g b q : Nat} {Fd : Nat → Prop} {S : PS} (P : Pool w m p g b q Fd S) (a : Int) (s : ByteArray) (hb : (L s).length ≠ 256 ∨ a < 0 ∨ (S.d.ps.length : Int) ≤ a) :
    Calls Tryd.prog 18 #[.pointer (some ⟨p, 0, none⟩), .int .i64 a, .string s] w fun e w' => e = .returned (.int .i64 1) ∧ w' = w := by
  have c0 : w.cell? ⟨p, 0, none⟩ = some (.pointer (some ⟨q, 0, none⟩)) := P.bits.row.cell 0
  have hlen := length_any P.bits.disk
  rw [L_size] at hb
  generalize S.d.ps.length = n at hb hlen
  clear P
  by_cases h1 : s.size = 256
  · have h1' : (s.size : Int) = 256 := by omega
    by_cases h2 : a < 0
    · go_enter Tryd.func18, Tryd.ntmps18
      go_wp2_with fail
      go_ret
      exact ⟨rfl, rfl⟩
    · have h3 : (n : Int) ≤ a := by omega
      go_enter Tryd.func18, Tryd.ntmps18
      go_wp2_with fail
      refine hlen.mono ?_
      rintro _ w ⟨rfl, rfl⟩
      go_wp2_with fail
      go_ret
      exact ⟨rfl, rfl⟩
  · have h1' : ¬ (s.size : Int) = 256 := by omega
    go_enter Tryd.func18, Tryd.ntmps18
    go_wp2_with fail
    go_ret
    exact ⟨rfl, rfl⟩
set_option maxHeartbeats 4000000 in
theorem put_any' {w : World} {m p g b q : Nat} {Fd : Nat → Prop} {S : PS} (P : Pool w m p g b q Fd S) (hm : m < 1000) (a : Int) (ha : -9223372036854775808 ≤ a) (ha2 : a ≤ 9223372036854775807) (s : ByteArray) :
    Calls Tryd.prog 18 #[.pointer (some ⟨p, 0, none⟩), .int .i64 a, .string s] w fun e w' => e = .returned (.int .i64 (S.put a (L s)).1) ∧ PLeft p g b q Fd (m + 1) w (S.put a (L s)).2 w' := by
  by_cases hb : (L s).length ≠ 256 ∨ a < 0 ∨ (S.d.ps.length : Int) ≤ a
  · rw [PS.put_bad hb]
    exact (put_any_bad P a s hb).mono fun e w' ⟨h1, h2⟩ => ⟨h1, by rw [h2]; exact ⟨Fd, P.mono (Nat.le_succ m), Step.refl _ _⟩⟩
  · have c0 : w.cell? ⟨p, 0, none⟩ = some (.pointer (some ⟨q, 0, none⟩)) := P.bits.row.cell 0
    have c2 : w.cell? ⟨p, 2, none⟩ = some (.map (some b)) := P.bits.row.cell 2
    have hlen := length_any P.bits.disk
    have hlk := P.bits.look a ha ha2
    have h1 : s.size = 256 := by have h : (L s).length = 256 := Classical.byContradiction fun h => hb (.inl h); rwa [L_size] at h
    have h2 : ¬ a < 0 := fun h => hb (.inr (.inl h))
    have h3 : ¬ (S.d.ps.length : Int) ≤ a := fun h => hb (.inr (.inr h))
    have h1' : (s.size : Int) = 256 := by omega
    obtain ⟨x, hx⟩ : ∃ x : Nat, a = (x : Int) := ⟨a.toNat, by omega⟩
    subst hx
    have hcl := clone_text s (by rw [h1]; omega)
    have HT : Hid ((L s).length = 256) := by show (L s).length = 256; rw [L_size]; exact h1
    have hs : bs (L s) = s := bs_L s
    cases hix : idx (x : Int) (keys S.fs) with
    | some i =>
      rw [hix] at hlk
      simp only [Option.getD_some, Option.isSome_some] at hlk
      obtain ⟨hi, hfull, hat⟩ := idx_full hix
      have HE : Hid (S.put (x : Int) (L s) = (0, S.setF i (laid (S.fm i) x (L s)))) := by show S.put _ _ = _; rw [PS.put_hit hb hix, lay_eq]
      have HG : Hid (∀ w2, New w w2 → ∃ (v0 v1 v3 v4 : Value), w2.cell? ⟨g, i * 5, none⟩ = some v0 ∧ w2.cell? ⟨g, i * 5 + 1, none⟩ = some v1 ∧ w2.cell? ⟨g, i * 5 + 3, none⟩ = some v3 ∧ w2.cell? ⟨g, i * 5 + 4, none⟩ = some v4 ∧
          w2.frozen? ⟨g, i * 5, none⟩ = false ∧ w2.frozen? ⟨g, i * 5 + 1, none⟩ = false ∧ w2.frozen? ⟨g, i * 5 + 3, none⟩ = false ∧ w2.frozen? ⟨g, i * 5 + 4, none⟩ = false ∧ PLeft p g b q Fd (m + 1) w (S.setF i (laid (S.fm i) x (L s))) (layW w2 g i x (L s))) := fun w2 n2 => by
        obtain ⟨v0, v1, v3, v4, e0, e1, e3, e4, z0, z1, z3, z4, b2, s2⟩ := lay_facts (x := x) (P.bits.after n2) hi (L s)
        exact ⟨v0, v1, v3, v4, e0, e1, e3, e4, z0, z1, z3, z4, Fd, P.relay hi hfull (by show x = _; omega) HT.out rfl b2, (Step.new n2).trans s2⟩
      obtain ⟨n, hn⟩ : ∃ n, S.fs.length = n := ⟨_, rfl⟩
      have c1 : w.cell? ⟨p, 1, none⟩ = some (.slice (some ⟨g, 0, none⟩) n n) := by rw [← hn]; exact P.bits.row.cell 1
      have h64 : n ≤ 64 := by rw [← hn]; exact P.inv.most
      have hin : (i : Int) < (n : Int) := by omega
      generalize S.d.ps.length = nn at h3 hlen
      clear P hix hi hfull hat hn hb h1
      unfold layW at HG
      rw [hs] at HG
      clear hs
      go_enter Tryd.func18, Tryd.ntmps18
      go_wp2_with fail
      refine hlen.mono ?_
      rintro _ w ⟨rfl, rfl⟩
      go_wp2_with fail
      refine (hcl _).mono ?_
      rintro _ w2 ⟨rfl, n2⟩
      obtain ⟨v0, v1, v3, v4, e0, e1, e3, e4, z0, z1, z3, z4, G⟩ := HG.out w2 n2
      have HGG : Hid (PLeft p g b q Fd (m + 1) w (S.setF i (laid (S.fm i) x (L s))) ((((w2.setCell ⟨g, i * 5, none⟩ (.int .i64 (x : Int))).setCell ⟨g, i * 5 + 1, none⟩ (.string s)).setCell ⟨g, i * 5 + 3, none⟩ (.bool true)).setCell ⟨g, i * 5 + 4, none⟩ (.bool true))) := G
      clear G HG hlk c1 c2 c0
      go_wp2_with fail
      go_ret
      rw [HE.out]
      exact ⟨rfl, HGG.out⟩
    | none =>
      rw [hix] at hlk
      simp only [Option.getD_none, Option.isSome_none] at hlk
      have hF := find_any P hm
      by_cases he : S.find.e = 0
      · have fo := find_ok P.inv he
        have HE : Hid (S.put (x : Int) (L s) = (0, S.find.S.setF S.find.i (laid (S.find.S.fm S.find.i) x (L s)))) := by show S.put _ _ = _; rw [PS.put_new hb hix he, lay_eq]
        have hfi : S.find.i < S.find.S.fs.length := by rw [fo.len]; exact fo.lt
        have hxl : x < S.find.S.d.ps.length := by rw [fo.ps]; omega
        have hni := fo.none _ hix
        have HX : Hid (idx (x : Int) (keys S.find.S.fs) = none ∧ (keys S.find.S.fs)[S.find.i]? = some none ∧ S.find.i < (keys S.find.S.fs).length ∧ (keys S.find.S.fs).length ≤ 64 ∧ x ≤ 1000 ∧ m < 100000) :=
          ⟨hni, fo.empty, by rw [keys_length]; exact hfi, by rw [keys_length, fo.len]; exact P.inv.most, by have h1 := P.bits.disk.ok.len; have h2 := P.bits.disk.ok.lim; omega, by omega⟩
        have hpe : ∀ w1 F1, Pool w1 m p g b q F1 S.find.S → (S.find.S.fm S.find.i).pins = 0 := fun w1 F1 P1 => by
          have h4 := fo.empty
          rw [keys_at hfi] at h4
          have h5 : (S.find.S.fm S.find.i).key = none := by injection h4
          rw [P1.inv.none _ (PS.fm_mem hfi) (key_none h5)]; rfl
        have HG : Hid (∀ w1 F1 w3 w2, Pool w1 m p g b q F1 S.find.S → Step (own p g b Fd) (own p g b F1) w w3 → Bits w3 (m + 1) p g b q F1 S.find.S.d S.find.S.fs S.find.S.hand ((keys S.find.S.fs).set S.find.i (some x)) → New w3 w2 → ∃ (v0 v1 v3 v4 : Value), w2.cell? ⟨g, S.find.i * 5, none⟩ = some v0 ∧ w2.cell? ⟨g, S.find.i * 5 + 1, none⟩ = some v1 ∧ w2.cell? ⟨g, S.find.i * 5 + 3, none⟩ = some v3 ∧ w2.cell? ⟨g, S.find.i * 5 + 4, none⟩ = some v4 ∧
          w2.frozen? ⟨g, S.find.i * 5, none⟩ = false ∧ w2.frozen? ⟨g, S.find.i * 5 + 1, none⟩ = false ∧ w2.frozen? ⟨g, S.find.i * 5 + 3, none⟩ = false ∧ w2.frozen? ⟨g, S.find.i * 5 + 4, none⟩ = false ∧ PLeft p g b q Fd (m + 1) w (S.find.S.setF S.find.i (laid (S.find.S.fm S.find.i) x (L s))) (layW w2 g S.find.i x (L s))) := fun w1 F1 w3 w2 P1 s3 b3 n2 => by
          obtain ⟨v0, v1, v3, v4, e0, e1, e3, e4, z0, z1, z3, z4, b2, s2⟩ := lay_facts (x := x) (b3.after n2) hfi (L s)
          exact ⟨v0, v1, v3, v4, e0, e1, e3, e4, z0, z1, z3, z4, F1, P1.come hfi (f := laid (S.find.S.fm S.find.i) x (L s)) HT.out hxl hni (by show (S.find.S.fm S.find.i).pins ≤ m; rw [hpe w1 F1 P1]; exact Nat.zero_le _) b2, (s3.trans (Step.new n2)).trans s2⟩
        have hV : FoundV S.find = .tuple #[.int .i64 (S.find.i : Int), .int .i64 0] := by unfold FoundV; rw [he]
        rw [hV] at hF
        have hlt := fo.lt
        have hlen2 := fo.len
        clear hpe fo
        obtain ⟨n, hn⟩ : ∃ n, S.fs.length = n := ⟨_, rfl⟩
        rw [hn] at hlt hlen2
        have h64 : n ≤ 64 := by rw [← hn]; exact P.inv.most
        generalize S.find = fd at hF HE HX HG hlt hlen2
        obtain ⟨i, hi⟩ : ∃ i, fd.i = i := ⟨_, rfl⟩
        rw [hi] at hF HE HX HG hlt
        have HN : Hid (fd.S.fs.length = n) := hlen2
        have hin : (i : Int) < (n : Int) := by omega
        generalize S.d.ps.length = nn at h3 hlen
        clear P hix he hV hn hb h1 hfi hxl hni hlen2 hi
        unfold layW at HG
        rw [hs] at HG
        clear hs
        go_enter Tryd.func18, Tryd.ntmps18
        go_wp2_with fail
        refine hlen.mono ?_
        rintro _ w ⟨rfl, rfl⟩
        go_wp2_with fail
        refine hF.mono ?_
        rintro _ w1 ⟨rfl, F1, P1, s1⟩
        have c2 : w1.cell? ⟨p, 2, none⟩ = some (.map (some b)) := P1.bits.row.cell 2
        have HP1 : Hid (Pool w1 m p g b q F1 fd.S ∧ Step (own p g b Fd) (own p g b F1) w w1) := ⟨P1, s1⟩
        clear P1 s1
        go_wp2_with (refine wpList_mput HP1.out.1.bits HX.out.2.2.2.2.2 HX.out.2.2.1 HX.out.2.2.2.1 HX.out.2.2.2.2.1 HX.out.2.1 HX.out.1 (by rfl) _ _ _ (by rfl) (by rfl) (by rfl) (by rfl) ?_; intro w3 b3 s3; have c1 : w3.cell? ⟨p, 1, none⟩ = some (.slice (some ⟨g, 0, none⟩) n n) := (by have := b3.row.cell 1; rw [HN.out] at this; exact this))
        refine (hcl _).mono ?_
        rintro _ w2 ⟨rfl, n2⟩
        obtain ⟨v0, v1, v3, v4, e0, e1, e3, e4, z0, z1, z3, z4, G⟩ := HG.out w1 F1 w3 w2 HP1.out.1 (HP1.out.2.trans s3) b3 n2
        have HGG : Hid (PLeft p g b q Fd (m + 1) w (fd.S.setF i (laid (fd.S.fm i) x (L s))) ((((w2.setCell ⟨g, i * 5, none⟩ (.int .i64 (x : Int))).setCell ⟨g, i * 5 + 1, none⟩ (.string s)).setCell ⟨g, i * 5 + 3, none⟩ (.bool true)).setCell ⟨g, i * 5 + 4, none⟩ (.bool true))) := G
        clear G HG b3 s3
        go_wp2_with fail
        go_ret
        rw [HE.out]
        exact ⟨rfl, HGG.out⟩
      · have HE : Hid (S.put (x : Int) (L s) = (S.find.e, S.find.S)) := PS.put_no hb hix he
        obtain ⟨z, hz⟩ : ∃ z, S.find.e = z := ⟨_, rfl⟩
        have hV : FoundV S.find = .tuple #[.int .i64 (S.find.i : Int), .int .i64 z] := by unfold FoundV; rw [hz]
        rw [hV] at hF
        rw [hz] at HE he
        generalize S.find = fd at hF HE
        generalize S.d.ps.length = nn at h3 hlen
        clear P hix hV hb h1 hz hs
        go_enter Tryd.func18, Tryd.ntmps18
        go_wp2_with fail
        refine hlen.mono ?_
        rintro _ w ⟨rfl, rfl⟩
        go_wp2_with fail
        refine hF.mono ?_
        rintro _ w1 ⟨rfl, F1, P1, s1⟩
        go_wp2_with fail
        go_ret
        rw [HE.out]
        exact ⟨rfl, F1, P1.mono (Nat.le_succ m), s1⟩
end Go.Proofs.YtkcoclpbkealgaaDoor
namespace Go.Proofs.YtkcoclpbkealgaaDoor
open Go.RowKit
set_option maxRecDepth 20000

def zs (l : List Nat) : List Int := l.map fun n : Nat => (n : Int)
theorem zs_length (l : List Nat) : (zs l).length = l.length := by unfold zs; rw [List.length_map]
theorem intsL_at {l : List Nat} {i : Nat} (h : i < l.length) : (intsL l)[i]? = some [.int .i64 ((l.getD i 0 : Nat) : Int)] := by
  unfold intsL
  rw [List.getElem?_map, List.getElem?_eq_getElem h, List.getD_eq_getElem?_getD, List.getElem?_eq_getElem h]; rfl
/-- A cell of a row of numbers. -/
theorem Pl.num {w : World} {F : Nat → Prop} {g n c : Nat} {l : List Nat} (h : Pl w F 3 1 (.slice (some ⟨g, 0, none⟩) n c) (intsL l)) {i : Nat} (hi : i < l.length) : w.cell? ⟨g, i, none⟩ = some (.int .i64 ((l.getD i 0 : Nat) : Int)) := by
  have hi2 : i < (intsL l).length := by rw [intsL_length]; exact hi
  have h1 := h.range hi2
  have h2 := intsL_at hi
  rw [List.getElem?_eq_getElem hi2] at h2
  have h3 : (intsL l)[i] = [.int .i64 ((l.getD i 0 : Nat) : Int)] := by injection h2
  rw [h3] at h1
  have := h1 0 _ rfl
  rw [Nat.mul_one, Nat.add_zero] at this
  exact this
theorem Pl.holds {w : World} {F : Nat → Prop} {g n c : Nat} {l : List Nat} (h : Pl w F 3 1 (.slice (some ⟨g, 0, none⟩) n c) (intsL l)) : Go.Sort.Holds (Value.int .i64) w g 0 (zs l).toArray := by
  intro j hj
  rw [List.size_toArray, zs_length] at hj
  obtain ⟨cur, R, _⟩ := h.row
  refine ⟨?_, by rw [Nat.zero_add]; exact R.frozen j⟩
  rw [Nat.zero_add, h.num hj]
  unfold zs
  simp [List.getD_eq_getElem?_getD, hj]
/-- The world behind the sort. -/
theorem Pl.sorted {w w' : World} {F : Nat → Prop} {b n cap : Nat} {l : List Nat} (h : Pl w F 3 1 (.slice (some ⟨b, 0, none⟩) n cap) (intsL l)) {ys : List Nat} (hl : ys.length = l.length) (k : Nat) (os : Array Obj)
    (e : w' = Go.Sort.grow (Go.Sort.putRow (Value.int .i64) (Go.Sort.ahead w k) b 0 (zs ys).toArray) os) :
    Pl w' F 3 1 (.slice (some ⟨b, 0, none⟩) n cap) (intsL ys) ∧ w'.os = w.os ∧ w'.tape = w.tape ∧ w'.output = w.output ∧ w.heap.size ≤ w'.heap.size ∧ ∀ k, k < w.heap.size → k ≠ b → w'.heap[k]? = w.heap[k]? := by
  obtain ⟨cur, R, h2, h3, h4, h5, h6⟩ := h.row
  have hlt := R.lt
  have hb : ∀ k, k < w.heap.size → w'.heap[k]? = if b = k then (w.heap[k]?).map (Go.Sort.onCells (Go.Sort.putCells (Value.int .i64) 0 (zs ys).toArray)) else w.heap[k]? := by
    intro k hk
    rw [e, Go.Sort.heap_grow_old _ _ (by simpa using hk)]
    show ((w.heap).modify b _)[k]? = _
    rw [Array.getElem?_modify]
  rw [intsL_length] at h2
  have hR : Row w' b (Go.Sort.putCells (Value.int .i64) 0 (zs ys).toArray cur) 3 := by
    unfold Row at R ⊢
    rw [hb b hlt, if_pos rfl, R]; rfl
  refine ⟨?_, by rw [e]; rfl, by rw [e]; rfl, by rw [e]; rfl, by rw [e, Go.Sort.size_grow]; simp, fun k hk hne => by rw [hb k hk, if_neg (Ne.symm hne)]⟩
  have := Pl.make (w := w') (F := F) (t := 3) (k := 1) (g := b) (c := cap) (es := intsL ys) (cur := Go.Sort.putCells (Value.int .i64) 0 (zs ys).toArray cur) (fun x hx => by unfold intsL at hx; obtain ⟨_, _, rfl⟩ := List.mem_map.1 hx; rfl) hR (by rw [intsL_length]; omega) h4 (by simp [Go.Sort.putCells, h5]) ?_ (h.foot b rfl)
  · rw [intsL_length, hl, ← h2] at this; exact this
  · rw [flat_ints, intsL_length, Nat.mul_one]
    apply List.ext_getElem?
    intro j
    rw [List.getElem?_take]
    by_cases hj : j < ys.length
    · rw [if_pos hj, Array.getElem?_toList, List.getElem?_map, List.getElem?_eq_getElem hj]
      simp only [Go.Sort.putCells, Array.getElem?_mapIdx]
      rw [Array.getElem?_eq_getElem (by omega)]
      simp [zs, hj]
    · rw [if_neg hj, List.getElem?_eq_none (by rw [List.length_map]; omega)]
theorem dirties_next {fs : List Fm} {i : Nat} (h : i < fs.length) : dirties (fs.take (i + 1)) = dirties (fs.take i) ++ (if (fs.getD i noFm).dirty then [(fs.getD i noFm).at_] else []) := by
  unfold dirties
  rw [List.take_succ_eq_append_getElem h, List.filter_append, List.map_append, List.getD_eq_getElem?_getD, List.getElem?_eq_getElem h]
  simp only [Option.getD_some]
  congr 1
  cases hd : fs[i].dirty <;> simp [hd]
theorem dirties_le (fs : List Fm) : (dirties fs).length ≤ fs.length := by unfold dirties; rw [List.length_map]; exact List.length_filter_le _ _
theorem info3 : (Tryd.prog.info? 3).map (fun i => (i.zero, i.size, i.bytes)) = some (some (.int .i64 0), 1, 8) := by kernel_rfl
theorem sort_call (l : List Nat) {w : World} {F : Nat → Prop} {v : Value} (h : Pl w F 3 1 v (intsL l)) (hl : l.length ≤ 100000) :
    Calls Tryd.prog 56 #[v] w fun e w' => e = .returned (.tuple #[]) ∧ Pl w' F 3 1 v (intsL (YtkcoclpbkealgaaDoor.sorted l)) ∧ Step F F w w' := by
  cases l with
  | nil =>
    obtain ⟨a, c, rfl, _⟩ := h.form
    refine (Tryd.slices_Sort_int_none a c w).mono ?_
    rintro _ _ ⟨rfl, rfl⟩
    exact ⟨rfl, by rw [show YtkcoclpbkealgaaDoor.sorted ([] : List Nat) = [] by unfold YtkcoclpbkealgaaDoor.sorted; simp]; exact h, Step.refl _ _⟩
  | cons x l =>
    obtain ⟨b, c, rfl, hF, hlt, _⟩ := h.full (by rw [intsL_length]; simp)
    have hh := h.holds
    have hlen : (intsL (x :: l)).length = (zs (x :: l)).length := by rw [intsL_length, zs_length]
    have := Tryd.slices_Sort_int b 0 c (zs (x :: l)) w hh hlt (by rw [zs_length]; omega)
    rw [hlen]
    refine this.mono ?_
    rintro _ w' ⟨rfl, k, os, e⟩
    have he : (zs (x :: l)).mergeSort (fun x y => decide (x ≤ y)) = zs (YtkcoclpbkealgaaDoor.sorted (x :: l)) := sort_nat (x :: l)
    rw [he] at e
    rw [hlen] at h
    obtain ⟨h1, h2, h3, h4, h5, h6⟩ := h.sorted (sorted_length (x :: l)) k os e
    exact ⟨rfl, h1, h2, h3, h4, h5, fun i hi hn => h6 i hi (fun e2 => hn (e2 ▸ hF)), fun _ h => .inl h⟩

theorem New.trans' {w w1 w2 : World} (h : New w w1) (s : Step (Fresh w) (Fresh w) w1 w2) : New w w2 :=
  ⟨s.os.trans h.os, s.tape.trans h.tape, s.output.trans h.output, Nat.le_trans h.size s.size, fun i hi => (s.block i (Nat.lt_of_lt_of_le hi h.size) (fun hf => by have : w.heap.size ≤ i := hf; omega)).trans (h.block i hi)⟩
set_option maxHeartbeats 4000000 in
theorem dirty_any {w : World} {m p g b q : Nat} {Fd : Nat → Prop} {S : PS} (P : Pool w m p g b q Fd S) :
    Calls Tryd.prog 30 #[.pointer (some ⟨p, 0, none⟩)] w fun e w' => ∃ v, e = .returned v ∧ Pl w' (Fresh w) 3 1 v (intsL (sorted (dirties S.fs))) ∧ New w w' := by
  obtain ⟨n, hn⟩ : ∃ n, S.fs.length = n := ⟨_, rfl⟩
  have c1 : w.cell? ⟨p, 1, none⟩ = some (.slice (some ⟨g, 0, none⟩) n n) := by rw [← hn]; exact P.bits.row.cell 1
  have h64 : n ≤ 64 := by rw [← hn]; exact P.inv.most
  have HP : Hid (Pl w (fun x => x = g) 103 5 (.slice (some ⟨g, 0, none⟩) n n) (S.fs.map fmL)) := by rw [← hn]; exact P.bits.pl
  have HN : Hid (S.fs.length = n) := hn
  have hgl : g < w.heap.size := P.bits.g_lt
  generalize S.fs = fs at HP HN ⊢
  clear P hn
  go_enter Tryd.func30, Tryd.ntmps30
  go_wp2_with fail
  go_loopw [3, 13] (fun v u wr => ∃ i : Nat, u = .int .i64 (i : Int) ∧ i ≤ n ∧ Hid (Pl wr (Fresh w) 3 1 v (intsL (dirties (fs.take i))) ∧ New w wr)) (fun _ u _ => n - (intOf u).toNat)
  case atStart => exact ⟨0, rfl, by omega, Pl.nil _ _ _ _, New.refl _⟩
  case round =>
    obtain ⟨i, rfl, hi, HI⟩ := hrel
    by_cases h : i < n
    · have hif : i < fs.length := by rw [HN.out]; exact h
      have hnx := dirties_next hif
      have hdl := dirties_le (fs.take i)
      rw [List.length_take] at hdl
      obtain ⟨f, hf⟩ : ∃ f, f = fs.getD i noFm := ⟨_, rfl⟩
      have he : (fs.map fmL)[i]? = some (fmL f) := by rw [hf]; exact map_getD fmL fs i noFm hif
      rw [← hf] at hnx
      have HX : Hid (dirties (fs.take (i + 1)) = dirties (fs.take i) ++ (if f.dirty then [f.at_] else [])) := hnx
      have HL : Hid ((intsL (dirties (fs.take i))).length ≤ 1000000) := by show (intsL (dirties (fs.take i))).length ≤ 1000000; rw [intsL_length]; omega
      have hPr : Pl wr (fun x => x = g) 103 5 (.slice (some ⟨g, 0, none⟩) n n) (fs.map fmL) := HP.out.after HI.out.2
      have HPr : Hid (Pl wr (fun x => x = g) 103 5 (.slice (some ⟨g, 0, none⟩) n n) (fs.map fmL)) := hPr
      clear hf hif hnx hdl hPr
      cases hd : f.dirty
      · go_wp2_with (first
          | (refine wpList_load_pl (by rfl) _ _ (by rfl) _ 103 5 g n n i _ _ _ HPr.out he (by rfl) Tryd.underlying103 (by rfl) i103 ?_)
          | (refine wpList_alloc_new (by rfl) 103 (by rfl) _ _ _ info103 ?_; intro W1 R1 M1)
          | (refine wpList_store_new (by rfl) 103 _ _ (by rfl) wr.heap.size (fmL f).toArray (by rfl) (by rfl) 103 _ R1 i103 rfl (fmL_all f) ?_; intro W2 R2 B2; have M2 : New wr W2 := B2.new M1 (Nat.le_refl _); have k3 : W2.cell? ⟨wr.heap.size, 3, none⟩ = some (.bool false) := (by rw [R2.cell 3]; simp [fmL, hd])))
        refine ⟨⟨i + 1, by simp, by omega, ?_⟩, by simp [intOf]; omega⟩
        rw [HX.out, hd, if_neg (by decide), List.append_nil]
        exact ⟨HI.out.1.after M2, HI.out.2.trans M2⟩
      · go_wp2_with (first
          | (refine wpList_load_pl (by rfl) _ _ (by rfl) _ 103 5 g n n i _ _ _ HPr.out he (by rfl) Tryd.underlying103 (by rfl) i103 ?_)
          | (refine wpList_alloc_new (by rfl) 103 (by rfl) _ _ _ info103 ?_; intro W1 R1 M1)
          | (refine wpList_store_new (by rfl) 103 _ _ (by rfl) wr.heap.size (fmL f).toArray (by rfl) (by rfl) 103 _ R1 i103 rfl (fmL_all f) ?_; intro W2 R2 B2; have M2 : New wr W2 := B2.new M1 (Nat.le_refl _); have k3 : W2.cell? ⟨wr.heap.size, 3, none⟩ = some (.bool true) := (by rw [R2.cell 3]; simp [fmL, hd]); have k0 : W2.cell? ⟨wr.heap.size, 0, none⟩ = some (.int .i64 (f.at_ : Int)) := (by rw [R2.cell 0]; simp [fmL]))
          | (refine wpList_append_pl (HI.out.1.after (M2.trans ((New.refl W2).alloc _))) (by rfl) _ _ 56 (by rfl) Tryd.underlying56 _ _ info3 rfl (by decide) W2.heap.size [.int .i64 (f.at_ : Int)] 3 (Row.new W2 _ 3) rfl (fun u hu => by obtain rfl : u = .int .i64 (f.at_ : Int) := (by simpa using hu); rfl) HL.out (by decide) (by rfl) (by rfl) ?_; intro g3 cap3 W4 Q4 G4))
        have hsz := HI.out.2.size
        have hs2 := M2.size
        refine ⟨⟨i + 1, by simp, by omega, ?_⟩, by simp [intOf]; omega⟩
        rw [HX.out, hd, if_pos rfl]
        refine ⟨?_, ?_⟩
        · unfold intsL at Q4 ⊢
          rw [List.map_append]
          refine Q4.mono fun b hb _ => ?_
          rcases hb with hb | hb
          · exact hb
          · rw [World.size_alloc] at hb
            show w.heap.size ≤ b
            omega
        · exact (HI.out.2.trans (M2.trans ((New.refl W2).alloc _))).grown G4 fun k hk => HI.out.1.foot k hk
    · obtain rfl : i = n := by omega
      rw [List.take_of_length_le (by rw [HN.out]; exact Nat.le_refl _)] at HI
      have hsc := sort_call _ HI.out.1 (by have := dirties_le fs; rw [HN.out] at this; omega)
      go_wp2_with fail
      refine hsc.mono ?_
      rintro _ w2 ⟨rfl, Q2, s2⟩
      go_wp2_with fail
      go_ret
      have hN := HI.out.2
      exact ⟨_, rfl, Q2, hN.trans' s2⟩
end Go.Proofs.YtkcoclpbkealgaaDoor
