/-
  A page is read into a frame; Fetch, Unpin, Put.
-/
import Derived.Test.YtkcoclpbkealgaaDoorQGet
namespace Go.Proofs.YtkcoclpbkealgaaDoor
open Go.RowKit
set_option maxRecDepth 20000

theorem idx_del {a : Int} {ks : List (Option Nat)} (h : idx a ks = none) (i : Nat) : idx a (ks.set i none) = none := by
  cases h1 : idx a (ks.set i none) with
  | none => rfl
  | some j =>
    obtain ⟨x, h2, h3⟩ := idx_at h1
    by_cases e : i = j
    · subst e
      by_cases hi : i < ks.length
      · rw [List.getElem?_set_self hi] at h2; cases h2
      · rw [List.getElem?_eq_none (by rw [List.length_set]; omega)] at h2; cases h2
    · rw [List.getElem?_set_ne e] at h2; exact absurd h3 (idx_none h j x h2)
/-- What find leaves, where it finds one. -/
structure FoundOk (S : PS) : Prop where
  lt : S.find.i < S.fs.length
  len : S.find.S.fs.length = S.fs.length
  empty : (keys S.find.S.fs)[S.find.i]? = some none
  ps : S.find.S.d.ps = S.d.ps
  none : ∀ a, idx a (keys S.fs) = none → idx a (keys S.find.S.fs) = none
theorem find_ok {S : PS} (h : Inv S) (he : S.find.e = 0) : FoundOk S := by
  cases hfree : freeAt (keys S.fs) with
  | some i =>
    have e := PS.find_free hfree
    have h1 := freeAt_some hfree
    rw [keys_length] at h1
    exact ⟨by rw [e]; exact h1.1, by rw [e], by rw [e]; exact h1.2, by rw [e], fun a ha => by rw [e]; exact ha⟩
  | none =>
    have hn := h.few
    have hc := chooseN_calm S.hand S.fs.length (by omega) (2 * S.fs.length) 0 S.fs rfl
    have hl := chooseN_lt S.hand S.fs.length (by omega) (2 * S.fs.length) 0 S.fs
    obtain ⟨⟨o, fs⟩, hr⟩ : ∃ r, chooseN S.hand S.fs.length (2 * S.fs.length) 0 S.fs = r := ⟨_, rfl⟩
    rw [hr] at hc hl
    cases o with
    | none => rw [PS.find_none hfree hr] at he; cases he
    | some i =>
      have hi := hl i rfl
      have e := PS.find_some hfree hr
      by_cases hv : (PS.vacate ⟨S.d, fs, i⟩ i).1 = 0
      · rw [if_pos hv] at e
        have hfs : S.find.S.fs = fs.set i noFm := by rw [e]; exact PS.vacate_fs hv
        have hk : keys S.find.S.fs = (keys S.fs).set i none := by rw [hfs, keys_set, hc.keys]; rfl
        refine ⟨by rw [e]; exact hi, by rw [hfs, List.length_set]; exact hc.len, by rw [hk, e]; exact List.getElem?_set_self (by rw [keys_length]; exact hi), by rw [e]; exact PS.vacate_ps _ _, fun a ha => by rw [hk]; exact idx_del ha i⟩
      · rw [if_neg hv] at e
        rw [e] at he
        exact absurd he hv
theorem nd_le {fs : List Fm} {i : Nat} {f : Fm} (hi : i < fs.length) : nd (fs.set i f) ≤ nd fs + 1 := by
  have := nd_set (fs := fs) (i := i) (f := f) hi
  split at this <;> split at this <;> omega
/-- A page comes into an empty frame. -/
theorem Pool.come {w w' : World} {m p g b q : Nat} {Fd Fd' : Nat → Prop} {S : PS} (P : Pool w m p g b q Fd S) {i : Nat} (hi : i < S.fs.length) {f : Fm} (hf : f.data.length = 256) (hat : f.at_ < S.d.ps.length) (hn : idx (f.at_ : Int) (keys S.fs) = none) (hp : f.pins ≤ m)
    (B : Bits w' (m + 1) p g b q Fd' S.d (S.fs.set i f) S.hand ((keys S.fs).set i (some f.at_))) : Pool w' (m + 1) p g b q Fd' (S.setF i f) := by
  have hne : f.data ≠ [] := fun e => by rw [e] at hf; cases hf
  refine ⟨P.inv.come hi hf hat hn rfl rfl P.inv.hand, ?_, fun f2 hf2 => ?_, ?_⟩
  · show Bits w' (m + 1) p g b q Fd' S.d (S.fs.set i f) S.hand (keys (S.fs.set i f))
    rw [keys_set, key_of hne]; exact B
  · rcases set_mem hf2 with h | rfl
    · have := P.pins f2 h; omega
    · omega
  · have h1 := P.room
    have h2 := nd_le (f := f) hi
    show S.d.ws.length + nd (S.fs.set i f) ≤ m + 1
    omega
theorem built103' (a : Int) (s : ByteArray) : Tryd.prog.built 103 [(0, .int .i64 a), (1, .string s)] = some #[.int .i64 a, .string s, .int .i64 0, .bool false, .bool false] := by kernel_rfl
theorem wpList_mput {w : World} {ops : Array Oper} {rest : List Oper} {o : Oper} {a : Act} {Q : Exit → Act → World → Prop} {m p g b q : Nat} {Fd : Nat → Prop} {d : St} {fs : List Fm} {hand : Nat} {ks : List (Option Nat)} (B : Bits w m p g b q Fd d fs hand ks) (hm : m < 100000) {i x : Nat} (hi : i < ks.length) (hl : ks.length ≤ 64) (hx : x ≤ 1000) (hk : ks[i]? = some none) (hn : idx (x : Int) ks = none)
    (hgd : o.guard = none) (s t v : Operand) (ho : o.op = .mapUpdate 90 s t v) (hs : a.eval s = .map (some b)) (ht : a.eval t = .int .i64 (x : Int)) (hv : a.eval v = .int .i64 (i : Int))
    (h : ∀ w', Bits w' (m + 1) p g b q Fd d fs hand (ks.set i (some x)) → Step (own p g b Fd) (own p g b Fd) w w' → wpList Tryd.prog ops Q rest (a.put o.dst undef) w') : wpList Tryd.prog ops Q (o :: rest) a w := by
  refine wpList_plain hgd fun K' hK' => ?_
  obtain ⟨w', hrun, b1, s1⟩ := B.put hm hi hl hx hk hn
  unfold Oper.wp
  simp [execOp, ho, hs, ht, hv, hrun, Result.andThen]
  exact hK' _ _ (h w' b1 s1)
theorem read_in {S : St} {a : Int} (h : (S.read a).1 = 0) : 0 ≤ a ∧ a < S.ps.length := by
  unfold St.read at h
  split at h
  · cases h
  · split at h
    · cases h
    · rename_i h2; simpa using h2
theorem PS.readIn_no {S : PS} {a : Int} (h : S.find.e ≠ 0) : S.readIn a = ⟨S.find.e, 0, S.find.S⟩ := by unfold PS.readIn; rw [if_neg h]
theorem PS.readIn_disk {S : PS} {a : Int} (h : S.find.e = 0) (h1 : (S.find.S.d.read a).1 ≠ 0) : S.readIn a = ⟨(S.find.S.d.read a).1, 0, S.find.S⟩ := by unfold PS.readIn; rw [if_pos h, if_neg h1]
theorem PS.readIn_page {S : PS} {a : Int} (h : S.find.e = 0) (h1 : (S.find.S.d.read a).1 = 0) (h2 : rightB (S.find.S.d.read a).2 = false) : S.readIn a = ⟨6, 0, S.find.S⟩ := by unfold PS.readIn; rw [if_pos h, if_pos h1, if_neg (by rw [h2]; decide)]
theorem PS.readIn_yes {S : PS} {a : Int} (h : S.find.e = 0) (h1 : (S.find.S.d.read a).1 = 0) (h2 : rightB (S.find.S.d.read a).2 = true) : S.readIn a = ⟨0, S.find.i, S.find.S.setF S.find.i ⟨a.toNat, (S.find.S.d.read a).2, 0, false, false⟩⟩ := by unfold PS.readIn; rw [if_pos h, if_pos h1, if_pos h2]

set_option maxHeartbeats 4000000 in
theorem readin_any {w : World} {m p g b q : Nat} {Fd : Nat → Prop} {S : PS} (P : Pool w m p g b q Fd S) (hm : m < 1000) (a : Int) (hnone : idx a (keys S.fs) = none) :
    Calls Tryd.prog 41 #[.pointer (some ⟨p, 0, none⟩), .int .i64 a] w fun e w' => e = .returned (FoundV (S.readIn a)) ∧ PLeft p g b q Fd (m + 1) w (S.readIn a).S w' := by
  have hF := find_any P hm
  by_cases he : S.find.e = 0
  · have fo := find_ok P.inv he
    have h64 := P.inv.most
    have hRd : Hid (∀ w1 F1, Pool w1 m p g b q F1 S.find.S → Calls Tryd.prog 37 #[.pointer (some ⟨q, 0, none⟩), .int .i64 a] w1 fun e w' => e = .returned (.tuple #[.string (bs (S.find.S.d.read a).2), .int .i64 (S.find.S.d.read a).1]) ∧ New w1 w') := fun w1 F1 P1 => read_any P1.bits.disk a
    by_cases h1 : (S.find.S.d.read a).1 = 0
    · have hin := read_in h1
      have hri : Hid (∀ w2, Tab w2 → Calls Tryd.prog 62 #[.string (bs (S.find.S.d.read a).2)] w2 fun e w' => e = .returned (.bool (rightB (S.find.S.d.read a).2)) ∧ New w2 w') := fun w2 h2 => by have := right_any (bs (S.find.S.d.read a).2) w2 h2; rwa [L_bs] at this
      cases h2 : rightB (S.find.S.d.read a).2
      · have HE : Hid (S.readIn a = ⟨6, 0, S.find.S⟩) := PS.readIn_page he h1 h2
        rw [h1] at hRd
        rw [h2] at hri
        have hV : FoundV S.find = .tuple #[.int .i64 (S.find.i : Int), .int .i64 0] := by unfold FoundV; rw [he]
        rw [hV] at hF
        generalize (S.find.S.d.read a).2 = t at hRd hri
        generalize S.find = fd at hF hRd HE
        clear P fo hin h1 h2 hV he hnone
        go_enter Tryd.func41, Tryd.ntmps41
        go_wp2_with fail
        refine hF.mono ?_
        rintro _ w1 ⟨rfl, F1, P1, s1⟩
        have c0 : w1.cell? ⟨p, 0, none⟩ = some (.pointer (some ⟨q, 0, none⟩)) := P1.bits.row.cell 0
        go_wp2_with fail
        refine (hRd.out w1 F1 P1).mono ?_
        rintro _ w2 ⟨rfl, n2⟩
        go_wp2_with fail
        refine (hri.out w2 (P1.bits.tab.after n2)).mono ?_
        rintro _ w3 ⟨rfl, n3⟩
        go_wp2_with fail
        go_ret2
        rw [HE.out]
        exact ⟨rfl, F1, ((P1.after (n2.trans n3)).mono (Nat.le_succ m)), s1.trans (Step.new (n2.trans n3))⟩
      · have HE : Hid (S.readIn a = ⟨0, S.find.i, S.find.S.setF S.find.i ⟨a.toNat, (S.find.S.d.read a).2, 0, false, false⟩⟩) := PS.readIn_yes he h1 h2
        have hlen : (S.find.S.d.read a).2.length = 256 := (rightB_iff _).1 h2 |>.1
        rw [h1] at hRd
        rw [h2] at hri
        have hV : FoundV S.find = .tuple #[.int .i64 (S.find.i : Int), .int .i64 0] := by unfold FoundV; rw [he]
        rw [hV] at hF
        obtain ⟨x, hx⟩ : ∃ x : Nat, a = (x : Int) := ⟨a.toNat, by omega⟩
        subst hx
        have HX : Hid (idx (x : Int) (keys S.find.S.fs) = none ∧ x < S.find.S.d.ps.length ∧ (keys S.find.S.fs)[S.find.i]? = some none ∧ S.find.i < S.find.S.fs.length ∧ S.find.S.fs.length ≤ 64) := ⟨fo.none _ hnone, by omega, fo.empty, by rw [fo.len]; exact fo.lt, by rw [fo.len]; exact h64⟩
        rw [Int.toNat_natCast] at HE
        generalize (S.find.S.d.read (x : Int)).2 = t at hRd hri hlen HE
        generalize S.find = fd at hF hRd HE HX
        obtain ⟨n, hn⟩ : ∃ n, fd.S.fs.length = n := ⟨_, rfl⟩
        have HN : Hid (fd.S.fs.length = n) := hn
        have hin2 : fd.i < n := by rw [← hn]; exact HX.out.2.2.2.1
        have hn64 : n ≤ 64 := by rw [← hn]; exact HX.out.2.2.2.2
        obtain ⟨i, hi⟩ : ∃ i, fd.i = i := ⟨_, rfl⟩
        have HI : Hid (fd.i = i) := hi
        rw [hi] at hF HX HE hin2
        have HT : Hid (t.length = 256) := hlen
        clear P fo hin h1 h2 hV he hnone hn hi hlen h64
        go_enter Tryd.func41, Tryd.ntmps41
        go_wp2_with fail
        refine hF.mono ?_
        rintro _ w1 ⟨rfl, F1, P1, s1⟩
        have c0 : w1.cell? ⟨p, 0, none⟩ = some (.pointer (some ⟨q, 0, none⟩)) := P1.bits.row.cell 0
        go_wp2_with fail
        refine (hRd.out w1 F1 P1).mono ?_
        rintro _ w2 ⟨rfl, n2⟩
        go_wp2_with fail
        refine (hri.out w2 (P1.bits.tab.after n2)).mono ?_
        rintro _ w3 ⟨rfl, n3⟩
        have b3 := P1.bits.after (n2.trans n3)
        have c1 : w3.cell? ⟨p, 1, none⟩ = some (.slice (some ⟨g, 0, none⟩) n n) := by have := b3.row.cell 1; rw [HN.out] at this; exact this
        have HPL : Hid (Pl w3 (fun x => x = g) 103 5 (.slice (some ⟨g, 0, none⟩) n n) (fd.S.fs.map fmL) ∧ i < (fd.S.fs.map fmL).length) := ⟨by have := b3.pl; rw [HN.out] at this; exact this, by rw [List.length_map, HN.out]; exact hin2⟩
        have HB3 : Hid (Bits w3 m p g b q F1 fd.S.d fd.S.fs fd.S.hand (keys fd.S.fs)) := b3
        have HP1 : Hid (Pool w1 m p g b q F1 fd.S ∧ Step (own p g b Fd) (own p g b F1) w w3) := ⟨P1, s1.trans (Step.new (n2.trans n3))⟩
        clear b3 P1 s1 n2 n3 c0 hF hRd hri
        have HFr : Hid (∀ w7, Pl w7 (fun x => x = g) 103 5 (.slice (some ⟨g, 0, none⟩) n n) ((fd.S.fs.map fmL).set i (fmL ⟨x, t, 0, false, false⟩)) → But g w3 w7 → Bits w7 m p g b q F1 fd.S.d (fd.S.fs.set i ⟨x, t, 0, false, false⟩) fd.S.hand (keys fd.S.fs)) := fun w7 P7 B7 => HB3.out.frames B7 (List.length_set ..) (by rw [List.map_set, HN.out]; exact P7)
        have HU : Hid (m < 100000 ∧ i < (keys fd.S.fs).length ∧ (keys fd.S.fs).length ≤ 64 ∧ x ≤ 1000) := ⟨by omega, by rw [keys_length, HN.out]; exact hin2, by rw [keys_length, HN.out]; exact hn64, by have h1 := HX.out.2.1; have h2 := HP1.out.1.bits.disk.ok.len; have h3 := HP1.out.1.bits.disk.ok.lim; omega⟩
        go_wp2_with (first | (refine wpList_build2 (by rfl) _ _ _ (by rfl) _ _ (by rfl) (by rfl) _ (built103' _ _) ?_) | (refine wpList_store_pl (by rfl) _ _ _ (by rfl) _ 103 5 g n n i _ (fmL ⟨x, t, 0, false, false⟩) HPL.out.1 HPL.out.2 (by rfl) (by rfl) rfl i103 (fmL_one _) ?_; rintro w7 P7 B7; have b7 := HFr.out w7 P7 B7; have c2 : w7.cell? ⟨p, 2, none⟩ = some (.map (some b)) := b7.row.cell 2) | (refine wpList_mput b7 HU.out.1 HU.out.2.1 HU.out.2.2.1 HU.out.2.2.2 HX.out.2.2.1 HX.out.1 (by rfl) _ _ _ (by rfl) (by rfl) (by rfl) (by rfl) ?_; intro w8 b8 s8))
        go_ret2
        rw [HE.out]
        refine ⟨rfl, F1, HP1.out.1.come HX.out.2.2.2.1 HT.out HX.out.2.1 HX.out.1 (Nat.zero_le _) b8, (HP1.out.2.trans (B7.step (.inr (.inl rfl)))).trans s8⟩
    · have HE : Hid (S.readIn a = ⟨(S.find.S.d.read a).1, 0, S.find.S⟩) := PS.readIn_disk he h1
      have hV : FoundV S.find = .tuple #[.int .i64 (S.find.i : Int), .int .i64 0] := by unfold FoundV; rw [he]
      rw [hV] at hF
      obtain ⟨z, hz⟩ : ∃ z, (S.find.S.d.read a).1 = z := ⟨_, rfl⟩
      rw [hz] at HE hRd h1
      generalize (S.find.S.d.read a).2 = t at hRd
      generalize S.find = fd at hF hRd HE
      clear P fo hV he hnone hz
      go_enter Tryd.func41, Tryd.ntmps41
      go_wp2_with fail
      refine hF.mono ?_
      rintro _ w1 ⟨rfl, F1, P1, s1⟩
      have c0 : w1.cell? ⟨p, 0, none⟩ = some (.pointer (some ⟨q, 0, none⟩)) := P1.bits.row.cell 0
      go_wp2_with fail
      refine (hRd.out w1 F1 P1).mono ?_
      rintro _ w2 ⟨rfl, n2⟩
      go_wp2_with fail
      go_ret2
      rw [HE.out]
      exact ⟨rfl, F1, ((P1.after n2).mono (Nat.le_succ m)), s1.trans (Step.new n2)⟩
  · have HE : Hid (S.readIn a = ⟨S.find.e, 0, S.find.S⟩) := PS.readIn_no he
    obtain ⟨z, hz⟩ : ∃ z, S.find.e = z := ⟨_, rfl⟩
    have hV : FoundV S.find = .tuple #[.int .i64 (S.find.i : Int), .int .i64 z] := by unfold FoundV; rw [hz]
    rw [hV] at hF
    rw [hz] at HE he
    generalize S.find = fd at hF HE
    clear P hV hnone hz
    go_enter Tryd.func41, Tryd.ntmps41
    go_wp2_with fail
    refine hF.mono ?_
    rintro _ w1 ⟨rfl, F1, P1, s1⟩
    go_wp2_with fail
    go_ret2
    rw [HE.out]
    exact ⟨rfl, F1, P1.mono (Nat.le_succ m), s1⟩

/-! Fetch, Unpin. -/
theorem Pool.field {w : World} {m p g b q : Nat} {Fd : Nat → Prop} {S : PS} (P : Pool w m p g b q Fd S) {i : Nat} (hi : i < S.fs.length) (hf : (S.fm i).data ≠ []) {f : Fm} (h1 : f.at_ = (S.fm i).at_) (h2 : f.data = (S.fm i).data) (h3 : f.dirty = (S.fm i).dirty) {m' : Nat} (hm : m ≤ m') (hp : f.pins ≤ m') {w' : World}
    (B : Bits w' m p g b q Fd S.d (S.fs.set i f) S.hand (keys S.fs)) : Pool w' m' p g b q Fd (S.setF i f) := by
  refine ⟨P.inv.same hi h1 h2 hf rfl rfl P.inv.hand, ?_, fun f2 hf2 => ?_, ?_⟩
  · show Bits w' m' p g b q Fd S.d (S.fs.set i f) S.hand (keys (S.fs.set i f))
    rw [keys_same hi h1 h2]; exact B.mono hm
  · rcases set_mem hf2 with h | rfl
    · have := P.pins f2 h; omega
    · exact hp
  · have h4 := P.room
    have h5 := nd_set (fs := S.fs) (i := i) (f := f) hi
    rw [h3] at h5
    show S.d.ws.length + nd (S.fs.set i f) ≤ m'
    have : (S.fs.getD i noFm).dirty = (S.fm i).dirty := rfl
    rw [this] at h5
    omega
theorem idx_full {S : PS} {a : Int} {i : Nat} (h : idx a (keys S.fs) = some i) : i < S.fs.length ∧ (S.fm i).data ≠ [] ∧ ((S.fm i).at_ : Int) = a := by
  obtain ⟨x, h1, h2⟩ := idx_at h
  have hi := idx_lt h
  rw [keys_length] at hi
  rw [keys_at hi] at h1
  have h3 := key_some (by injection h1 : (S.fm i).key = some x)
  exact ⟨hi, h3.1, by rw [h3.2]; exact h2⟩
theorem fetch_nil (a : Int) (w : World) : Calls Tryd.prog 14 #[.pointer none, .int .i64 a] w fun e w' => e = .returned (.tuple #[.string ⟨#[]⟩, .int .i64 1]) ∧ w' = w := by
  go_enter Tryd.func14, Tryd.ntmps14
  go_wp2_with fail
  go_ret2
  exact ⟨rfl, rfl⟩
theorem unpin_nil (a : Int) (w : World) : Calls Tryd.prog 16 #[.pointer none, .int .i64 a] w fun e w' => e = .returned (.int .i64 1) ∧ w' = w := by
  go_enter Tryd.func16, Tryd.ntmps16
  go_wp2_with fail
  go_ret
  exact ⟨rfl, rfl⟩
theorem put_nil_any (a : Int) (s : ByteArray) (w : World) : Calls Tryd.prog 18 #[.pointer none, .int .i64 a, .string s] w fun e w' => e = .returned (.int .i64 1) ∧ w' = w := by
  go_enter Tryd.func18, Tryd.ntmps18
  go_wp2_with fail
  go_ret
  exact ⟨rfl, rfl⟩
theorem flush_nil (w : World) : Calls Tryd.prog 21 #[.pointer none] w fun e w' => e = .returned (.int .i64 1) ∧ w' = w := by
  go_enter Tryd.func21, Tryd.ntmps21
  go_wp2_with fail
  go_ret
  exact ⟨rfl, rfl⟩
theorem dirty_nil (w : World) : Calls Tryd.prog 30 #[.pointer none] w fun e w' => e = .returned (.slice none 0 0) ∧ w' = w := by
  go_enter Tryd.func30, Tryd.ntmps30
  go_wp2_with fail
  go_ret
  exact ⟨rfl, rfl⟩
end Go.Proofs.YtkcoclpbkealgaaDoor
