/-
  Put.
-/
import Derived.Test.YtkcoclpbkealgaaDoorQFetch
namespace Go.Proofs.YtkcoclpbkealgaaDoor
open Go.RowKit
set_option maxRecDepth 20000

/-- The frame that is laid. -/
def laid (f : Fm) (x : Nat) (t : List UInt8) : Fm := { f with at_ := x, data := t, dirty := true, used := true }
def layW (w : World) (g i x : Nat) (t : List UInt8) : World := (((w.setCell ⟨g, i * 5, none⟩ (.int .i64 (x : Int))).setCell ⟨g, i * 5 + 1, none⟩ (.string (bs t))).setCell ⟨g, i * 5 + 3, none⟩ (.bool true)).setCell ⟨g, i * 5 + 4, none⟩ (.bool true)
theorem lay_facts {w : World} {m p g b q i x : Nat} {Fd : Nat → Prop} {d : St} {fs : List Fm} {hand : Nat} {ks : List (Option Nat)} (B : Bits w m p g b q Fd d fs hand ks) (hi : i < fs.length) (t : List UInt8) :
    ∃ (v0 v1 v3 v4 : Value), w.cell? ⟨g, i * 5, none⟩ = some v0 ∧ w.cell? ⟨g, i * 5 + 1, none⟩ = some v1 ∧ w.cell? ⟨g, i * 5 + 3, none⟩ = some v3 ∧ w.cell? ⟨g, i * 5 + 4, none⟩ = some v4 ∧
      w.frozen? ⟨g, i * 5, none⟩ = false ∧ w.frozen? ⟨g, i * 5 + 1, none⟩ = false ∧ w.frozen? ⟨g, i * 5 + 3, none⟩ = false ∧ w.frozen? ⟨g, i * 5 + 4, none⟩ = false ∧
      Bits (layW w g i x t) m p g b q Fd d (fs.set i (laid (fs.getD i noFm) x t)) hand ks ∧ Step (own p g b Fd) (own p g b Fd) w (layW w g i x t) := by
  have hc := B.cells hi
  have k0 := hc 0 _ rfl
  rw [Nat.add_zero] at k0
  refine ⟨_, _, _, _, k0, hc 1 _ rfl, hc 3 _ rfl, hc 4 _ rfl, B.frozen _, B.frozen _, B.frozen _, B.frozen _, ?_, ?_⟩
  · have b0 := B.field (i := i) (j := 0) hi (by decide) (v := .int .i64 (x : Int)) (f := { fs.getD i noFm with at_ := x }) rfl
    rw [Nat.add_zero] at b0
    have b1 := b0.field (i := i) (j := 1) (by rw [List.length_set]; exact hi) (by decide) (v := .string (bs t)) (f := { fs.getD i noFm with at_ := x, data := t }) (by rw [getD_set_same hi]; rfl)
    rw [List.set_set] at b1
    have b3 := b1.field (i := i) (j := 3) (by rw [List.length_set]; exact hi) (by decide) (v := .bool true) (f := { fs.getD i noFm with at_ := x, data := t, dirty := true }) (by rw [getD_set_same hi]; rfl)
    rw [List.set_set] at b3
    have b4 := b3.field (i := i) (j := 4) (by rw [List.length_set]; exact hi) (by decide) (v := .bool true) (f := laid (fs.getD i noFm) x t) (by rw [getD_set_same hi]; rfl)
    rw [List.set_set] at b4
    exact b4
  · exact (((Step.setCell w (a := ⟨g, i * 5, none⟩) (.inr (.inl rfl)) _).trans (Step.setCell _ (a := ⟨g, i * 5 + 1, none⟩) (.inr (.inl rfl)) _)).trans (Step.setCell _ (a := ⟨g, i * 5 + 3, none⟩) (.inr (.inl rfl)) _)).trans (Step.setCell _ (a := ⟨g, i * 5 + 4, none⟩) (.inr (.inl rfl)) _)
/-- A page in its frame has other bytes. -/
theorem Pool.relay {w w' : World} {m p g b q : Nat} {Fd Fd' : Nat → Prop} {S : PS} (P : Pool w m p g b q Fd S) {i : Nat} (hi : i < S.fs.length) (hf : (S.fm i).data ≠ []) {f : Fm} (h1 : f.at_ = (S.fm i).at_) (h2 : f.data.length = 256) (h3 : f.pins = (S.fm i).pins)
    (B : Bits w' m p g b q Fd' S.d (S.fs.set i f) S.hand (keys S.fs)) : Pool w' (m + 1) p g b q Fd' (S.setF i f) := by
  have hne : f.data ≠ [] := fun e => by rw [e] at h2; cases h2
  have hk : keys (S.fs.set i f) = keys S.fs := by
    rw [keys_set]
    apply List.ext_getElem?
    intro j
    by_cases e : i = j
    · subst e
      rw [List.getElem?_set_self (by rw [keys_length]; exact hi), keys_at hi, key_of hne, h1]
      exact congrArg some (key_of hf).symm
    · rw [List.getElem?_set_ne e]
  have hm := S.fm_mem hi
  refine ⟨⟨?_, ?_, ?_, ?_, ?_, ?_, ?_⟩, ?_, fun f2 hf2 => ?_, ?_⟩
  · show 1 ≤ (S.fs.set i f).length; rw [List.length_set]; exact P.inv.few
  · show (S.fs.set i f).length ≤ 64; rw [List.length_set]; exact P.inv.most
  · show S.hand < (S.fs.set i f).length; rw [List.length_set]; exact P.inv.hand
  · intro f2 hf2
    rcases set_mem hf2 with h | rfl
    · exact P.inv.none f2 h
    · intro e; exact absurd e hne
  · intro f2 hf2
    rcases set_mem hf2 with h | rfl
    · exact P.inv.size f2 h
    · intro _; exact h2
  · intro f2 hf2
    rcases set_mem hf2 with h | rfl
    · exact P.inv.in_ f2 h
    · intro _; rw [h1]; exact P.inv.in_ _ hm hf
  · show ∀ i' j' x, (keys (S.fs.set i f))[i']? = _ → (keys (S.fs.set i f))[j']? = _ → i' = j'
    rw [hk]; exact P.inv.apart
  · show Bits w' (m + 1) p g b q Fd' S.d (S.fs.set i f) S.hand (keys (S.fs.set i f))
    rw [hk]; exact B.mono (Nat.le_succ m)
  · rcases set_mem hf2 with h | rfl
    · have := P.pins f2 h; omega
    · have := P.pins _ hm; omega
  · have h4 := P.room
    have h5 := nd_le (f := f) hi
    show S.d.ws.length + nd (S.fs.set i f) ≤ m + 1
    omega
theorem PS.put_bad {S : PS} {a : Int} {t : List UInt8} (h : t.length ≠ 256 ∨ a < 0 ∨ (S.d.ps.length : Int) ≤ a) : S.put a t = (1, S) := by unfold PS.put; rw [if_pos h]
theorem PS.put_hit {S : PS} {a : Int} {t : List UInt8} (h : ¬ (t.length ≠ 256 ∨ a < 0 ∨ (S.d.ps.length : Int) ≤ a)) {i : Nat} (hi : idx a (keys S.fs) = some i) : S.put a t = (0, S.lay i a t) := by unfold PS.put; rw [if_neg h, hi]
theorem PS.put_no {S : PS} {a : Int} {t : List UInt8} (h : ¬ (t.length ≠ 256 ∨ a < 0 ∨ (S.d.ps.length : Int) ≤ a)) (hi : idx a (keys S.fs) = none) (he : S.find.e ≠ 0) : S.put a t = (S.find.e, S.find.S) := by unfold PS.put; rw [if_neg h, hi]; simp only [if_neg he]
theorem PS.put_new {S : PS} {a : Int} {t : List UInt8} (h : ¬ (t.length ≠ 256 ∨ a < 0 ∨ (S.d.ps.length : Int) ≤ a)) (hi : idx a (keys S.fs) = none) (he : S.find.e = 0) : S.put a t = (0, S.find.S.lay S.find.i a t) := by unfold PS.put; rw [if_neg h, hi]; simp only [if_pos he]
theorem lay_eq (S : PS) (i x : Nat) (t : List UInt8) : S.lay i (x : Int) t = S.setF i (laid (S.fm i) x t) := by unfold PS.lay laid; rw [Int.toNat_natCast]
set_option maxHeartbeats 4000000 in
theorem put_any_bad {w : World} {m p g b q : Nat} {Fd : Nat → Prop} {S : PS} (P : Pool w m p g b q Fd S) (a : Int) (s : ByteArray) (hb : (L s).length ≠ 256 ∨ a < 0 ∨ (S.d.ps.length : Int) ≤ a) :
    Calls Tryd.prog 18 #[.pointer (some ⟨p, 0, none⟩), .int .i64 a, .string s] w fun e w' => e = .returned (.int .i64 1) ∧ w' = w := by
  have c0 : w.cell? ⟨p, 0, none⟩ = some (.pointer (some ⟨q, 0, none⟩)) := P.bits.row.cell 0
  have hlen := length_any P.bits.disk
  rw [L_size] at hb
  generalize S.d.ps.length = n at hb hlen
  clear P
  by_cases h1 : s.size = 256
  · have h1' : (s.size : Int) = 256 := by omega
    by_cases h2 : a < 0
    · go_enter Tryd.func18, Tryd.ntmps18
      go_wp2_with fail
      go_ret
      exact ⟨rfl, rfl⟩
    · have h3 : (n : Int) ≤ a := by omega
      go_enter Tryd.func18, Tryd.ntmps18
      go_wp2_with fail
      refine hlen.mono ?_
      rintro _ w ⟨rfl, rfl⟩
      go_wp2_with fail
      go_ret
      exact ⟨rfl, rfl⟩
  · have h1' : ¬ (s.size : Int) = 256 := by omega
    go_enter Tryd.func18, Tryd.ntmps18
    go_wp2_with fail
    go_ret
    exact ⟨rfl, rfl⟩
set_option maxHeartbeats 4000000 in
theorem put_any' {w : World} {m p g b q : Nat} {Fd : Nat → Prop} {S : PS} (P : Pool w m p g b q Fd S) (hm : m < 1000) (a : Int) (ha : -9223372036854775808 ≤ a) (ha2 : a ≤ 9223372036854775807) (s : ByteArray) :
    Calls Tryd.prog 18 #[.pointer (some ⟨p, 0, none⟩), .int .i64 a, .string s] w fun e w' => e = .returned (.int .i64 (S.put a (L s)).1) ∧ PLeft p g b q Fd (m + 1) w (S.put a (L s)).2 w' := by
  by_cases hb : (L s).length ≠ 256 ∨ a < 0 ∨ (S.d.ps.length : Int) ≤ a
  · rw [PS.put_bad hb]
    exact (put_any_bad P a s hb).mono fun e w' ⟨h1, h2⟩ => ⟨h1, by rw [h2]; exact ⟨Fd, P.mono (Nat.le_succ m), Step.refl _ _⟩⟩
  · have c0 : w.cell? ⟨p, 0, none⟩ = some (.pointer (some ⟨q, 0, none⟩)) := P.bits.row.cell 0
    have c2 : w.cell? ⟨p, 2, none⟩ = some (.map (some b)) := P.bits.row.cell 2
    have hlen := length_any P.bits.disk
    have hlk := P.bits.look a ha ha2
    have h1 : s.size = 256 := by have h : (L s).length = 256 := Classical.byContradiction fun h => hb (.inl h); rwa [L_size] at h
    have h2 : ¬ a < 0 := fun h => hb (.inr (.inl h))
    have h3 : ¬ (S.d.ps.length : Int) ≤ a := fun h => hb (.inr (.inr h))
    have h1' : (s.size : Int) = 256 := by omega
    obtain ⟨x, hx⟩ : ∃ x : Nat, a = (x : Int) := ⟨a.toNat, by omega⟩
    subst hx
    have hcl := clone_text s (by rw [h1]; omega)
    have HT : Hid ((L s).length = 256) := by show (L s).length = 256; rw [L_size]; exact h1
    have hs : bs (L s) = s := bs_L s
    cases hix : idx (x : Int) (keys S.fs) with
    | some i =>
      rw [hix] at hlk
      simp only [Option.getD_some, Option.isSome_some] at hlk
      obtain ⟨hi, hfull, hat⟩ := idx_full hix
      have HE : Hid (S.put (x : Int) (L s) = (0, S.setF i (laid (S.fm i) x (L s)))) := by show S.put _ _ = _; rw [PS.put_hit hb hix, lay_eq]
      have HG : Hid (∀ w2, New w w2 → ∃ (v0 v1 v3 v4 : Value), w2.cell? ⟨g, i * 5, none⟩ = some v0 ∧ w2.cell? ⟨g, i * 5 + 1, none⟩ = some v1 ∧ w2.cell? ⟨g, i * 5 + 3, none⟩ = some v3 ∧ w2.cell? ⟨g, i * 5 + 4, none⟩ = some v4 ∧
          w2.frozen? ⟨g, i * 5, none⟩ = false ∧ w2.frozen? ⟨g, i * 5 + 1, none⟩ = false ∧ w2.frozen? ⟨g, i * 5 + 3, none⟩ = false ∧ w2.frozen? ⟨g, i * 5 + 4, none⟩ = false ∧ PLeft p g b q Fd (m + 1) w (S.setF i (laid (S.fm i) x (L s))) (layW w2 g i x (L s))) := fun w2 n2 => by
        obtain ⟨v0, v1, v3, v4, e0, e1, e3, e4, z0, z1, z3, z4, b2, s2⟩ := lay_facts (x := x) (P.bits.after n2) hi (L s)
        exact ⟨v0, v1, v3, v4, e0, e1, e3, e4, z0, z1, z3, z4, Fd, P.relay hi hfull (by show x = _; omega) HT.out rfl b2, (Step.new n2).trans s2⟩
      obtain ⟨n, hn⟩ : ∃ n, S.fs.length = n := ⟨_, rfl⟩
      have c1 : w.cell? ⟨p, 1, none⟩ = some (.slice (some ⟨g, 0, none⟩) n n) := by rw [← hn]; exact P.bits.row.cell 1
      have h64 : n ≤ 64 := by rw [← hn]; exact P.inv.most
      have hin : (i : Int) < (n : Int) := by omega
      generalize S.d.ps.length = nn at h3 hlen
      clear P hix hi hfull hat hn hb h1
      unfold layW at HG
      rw [hs] at HG
      clear hs
      go_enter Tryd.func18, Tryd.ntmps18
      go_wp2_with fail
      refine hlen.mono ?_
      rintro _ w ⟨rfl, rfl⟩
      go_wp2_with fail
      refine (hcl _).mono ?_
      rintro _ w2 ⟨rfl, n2⟩
      obtain ⟨v0, v1, v3, v4, e0, e1, e3, e4, z0, z1, z3, z4, G⟩ := HG.out w2 n2
      have HGG : Hid (PLeft p g b q Fd (m + 1) w (S.setF i (laid (S.fm i) x (L s))) ((((w2.setCell ⟨g, i * 5, none⟩ (.int .i64 (x : Int))).setCell ⟨g, i * 5 + 1, none⟩ (.string s)).setCell ⟨g, i * 5 + 3, none⟩ (.bool true)).setCell ⟨g, i * 5 + 4, none⟩ (.bool true))) := G
      clear G HG hlk c1 c2 c0
      go_wp2_with fail
      go_ret
      rw [HE.out]
      exact ⟨rfl, HGG.out⟩
    | none =>
      rw [hix] at hlk
      simp only [Option.getD_none, Option.isSome_none] at hlk
      have hF := find_any P hm
      by_cases he : S.find.e = 0
      · have fo := find_ok P.inv he
        have HE : Hid (S.put (x : Int) (L s) = (0, S.find.S.setF S.find.i (laid (S.find.S.fm S.find.i) x (L s)))) := by show S.put _ _ = _; rw [PS.put_new hb hix he, lay_eq]
        have hfi : S.find.i < S.find.S.fs.length := by rw [fo.len]; exact fo.lt
        have hxl : x < S.find.S.d.ps.length := by rw [fo.ps]; omega
        have hni := fo.none _ hix
        have HX : Hid (idx (x : Int) (keys S.find.S.fs) = none ∧ (keys S.find.S.fs)[S.find.i]? = some none ∧ S.find.i < (keys S.find.S.fs).length ∧ (keys S.find.S.fs).length ≤ 64 ∧ x ≤ 1000 ∧ m < 100000) :=
          ⟨hni, fo.empty, by rw [keys_length]; exact hfi, by rw [keys_length, fo.len]; exact P.inv.most, by have h1 := P.bits.disk.ok.len; have h2 := P.bits.disk.ok.lim; omega, by omega⟩
        have hpe : ∀ w1 F1, Pool w1 m p g b q F1 S.find.S → (S.find.S.fm S.find.i).pins = 0 := fun w1 F1 P1 => by
          have h4 := fo.empty
          rw [keys_at hfi] at h4
          have h5 : (S.find.S.fm S.find.i).key = none := by injection h4
          rw [P1.inv.none _ (PS.fm_mem hfi) (key_none h5)]; rfl
        have HG : Hid (∀ w1 F1 w3 w2, Pool w1 m p g b q F1 S.find.S → Step (own p g b Fd) (own p g b F1) w w3 → Bits w3 (m + 1) p g b q F1 S.find.S.d S.find.S.fs S.find.S.hand ((keys S.find.S.fs).set S.find.i (some x)) → New w3 w2 → ∃ (v0 v1 v3 v4 : Value), w2.cell? ⟨g, S.find.i * 5, none⟩ = some v0 ∧ w2.cell? ⟨g, S.find.i * 5 + 1, none⟩ = some v1 ∧ w2.cell? ⟨g, S.find.i * 5 + 3, none⟩ = some v3 ∧ w2.cell? ⟨g, S.find.i * 5 + 4, none⟩ = some v4 ∧
          w2.frozen? ⟨g, S.find.i * 5, none⟩ = false ∧ w2.frozen? ⟨g, S.find.i * 5 + 1, none⟩ = false ∧ w2.frozen? ⟨g, S.find.i * 5 + 3, none⟩ = false ∧ w2.frozen? ⟨g, S.find.i * 5 + 4, none⟩ = false ∧ PLeft p g b q Fd (m + 1) w (S.find.S.setF S.find.i (laid (S.find.S.fm S.find.i) x (L s))) (layW w2 g S.find.i x (L s))) := fun w1 F1 w3 w2 P1 s3 b3 n2 => by
          obtain ⟨v0, v1, v3, v4, e0, e1, e3, e4, z0, z1, z3, z4, b2, s2⟩ := lay_facts (x := x) (b3.after n2) hfi (L s)
          exact ⟨v0, v1, v3, v4, e0, e1, e3, e4, z0, z1, z3, z4, F1, P1.come hfi (f := laid (S.find.S.fm S.find.i) x (L s)) HT.out hxl hni (by show (S.find.S.fm S.find.i).pins ≤ m; rw [hpe w1 F1 P1]; exact Nat.zero_le _) b2, (s3.trans (Step.new n2)).trans s2⟩
        have hV : FoundV S.find = .tuple #[.int .i64 (S.find.i : Int), .int .i64 0] := by unfold FoundV; rw [he]
        rw [hV] at hF
        have hlt := fo.lt
        have hlen2 := fo.len
        clear hpe fo
        obtain ⟨n, hn⟩ : ∃ n, S.fs.length = n := ⟨_, rfl⟩
        rw [hn] at hlt hlen2
        have h64 : n ≤ 64 := by rw [← hn]; exact P.inv.most
        generalize S.find = fd at hF HE HX HG hlt hlen2
        obtain ⟨i, hi⟩ : ∃ i, fd.i = i := ⟨_, rfl⟩
        rw [hi] at hF HE HX HG hlt
        have HN : Hid (fd.S.fs.length = n) := hlen2
        have hin : (i : Int) < (n : Int) := by omega
        generalize S.d.ps.length = nn at h3 hlen
        clear P hix he hV hn hb h1 hfi hxl hni hlen2 hi
        unfold layW at HG
        rw [hs] at HG
        clear hs
        go_enter Tryd.func18, Tryd.ntmps18
        go_wp2_with fail
        refine hlen.mono ?_
        rintro _ w ⟨rfl, rfl⟩
        go_wp2_with fail
        refine hF.mono ?_
        rintro _ w1 ⟨rfl, F1, P1, s1⟩
        have c2 : w1.cell? ⟨p, 2, none⟩ = some (.map (some b)) := P1.bits.row.cell 2
        have HP1 : Hid (Pool w1 m p g b q F1 fd.S ∧ Step (own p g b Fd) (own p g b F1) w w1) := ⟨P1, s1⟩
        clear P1 s1
        go_wp2_with (refine wpList_mput HP1.out.1.bits HX.out.2.2.2.2.2 HX.out.2.2.1 HX.out.2.2.2.1 HX.out.2.2.2.2.1 HX.out.2.1 HX.out.1 (by rfl) _ _ _ (by rfl) (by rfl) (by rfl) (by rfl) ?_; intro w3 b3 s3; have c1 : w3.cell? ⟨p, 1, none⟩ = some (.slice (some ⟨g, 0, none⟩) n n) := (by have := b3.row.cell 1; rw [HN.out] at this; exact this))
        refine (hcl _).mono ?_
        rintro _ w2 ⟨rfl, n2⟩
        obtain ⟨v0, v1, v3, v4, e0, e1, e3, e4, z0, z1, z3, z4, G⟩ := HG.out w1 F1 w3 w2 HP1.out.1 (HP1.out.2.trans s3) b3 n2
        have HGG : Hid (PLeft p g b q Fd (m + 1) w (fd.S.setF i (laid (fd.S.fm i) x (L s))) ((((w2.setCell ⟨g, i * 5, none⟩ (.int .i64 (x : Int))).setCell ⟨g, i * 5 + 1, none⟩ (.string s)).setCell ⟨g, i * 5 + 3, none⟩ (.bool true)).setCell ⟨g, i * 5 + 4, none⟩ (.bool true))) := G
        clear G HG b3 s3
        go_wp2_with fail
        go_ret
        rw [HE.out]
        exact ⟨rfl, HGG.out⟩
      · have HE : Hid (S.put (x : Int) (L s) = (S.find.e, S.find.S)) := PS.put_no hb hix he
        obtain ⟨z, hz⟩ : ∃ z, S.find.e = z := ⟨_, rfl⟩
        have hV : FoundV S.find = .tuple #[.int .i64 (S.find.i : Int), .int .i64 z] := by unfold FoundV; rw [hz]
        rw [hV] at hF
        rw [hz] at HE he
        generalize S.find = fd at hF HE
        generalize S.d.ps.length = nn at h3 hlen
        clear P hix hV hb h1 hz hs
        go_enter Tryd.func18, Tryd.ntmps18
        go_wp2_with fail
        refine hlen.mono ?_
        rintro _ w ⟨rfl, rfl⟩
        go_wp2_with fail
        refine hF.mono ?_
        rintro _ w1 ⟨rfl, F1, P1, s1⟩
        go_wp2_with fail
        go_ret
        rw [HE.out]
        exact ⟨rfl, F1, P1.mono (Nat.le_succ m), s1⟩
end Go.Proofs.YtkcoclpbkealgaaDoor
