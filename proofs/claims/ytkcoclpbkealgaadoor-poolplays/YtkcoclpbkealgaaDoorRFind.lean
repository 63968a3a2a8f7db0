/-
  The document's own pool finds a frame.
-/
import Derived.Test.YtkcoclpbkealgaaDoorRPool
namespace Go.Proofs.YtkcoclpbkealgaaDoor
open Go.RowKit
set_option maxRecDepth 20000

section
variable {T : PS} {fs : List Fm} {i : Nat}
theorem find_clean (hf : freeAt (keys T.fs) = none) (hc : chooseN T.hand T.fs.length (2 * T.fs.length) 0 T.fs = (some i, fs)) (hd : (fs.getD i noFm).dirty = false) : T.find = ⟨0, i, ⟨T.d, fs.set i noFm, (i + 1) % T.fs.length⟩⟩ := by
  have e := PS.find_some hf hc
  have hv : PS.vacate ⟨T.d, fs, i⟩ i = (0, ⟨T.d, fs.set i noFm, i⟩) := by
    unfold PS.vacate
    rw [show (PS.fm ⟨T.d, fs, i⟩ i).dirty = false from hd]; rfl
  rw [hv, if_pos rfl] at e; exact e
theorem write_at' (d : St) (fs : List Fm) (i h : Nat) : PS.write ⟨d, fs, h⟩ i = if (d.write ((fs.getD i noFm).at_ : Int) (fs.getD i noFm).data).1 = 0 then (0, ⟨(d.write ((fs.getD i noFm).at_ : Int) (fs.getD i noFm).data).2, fs.set i { fs.getD i noFm with dirty := false }, h⟩) else ((d.write ((fs.getD i noFm).at_ : Int) (fs.getD i noFm).data).1, ⟨(d.write ((fs.getD i noFm).at_ : Int) (fs.getD i noFm).data).2, fs, h⟩) := rfl
theorem find_err (hf : freeAt (keys T.fs) = none) (hc : chooseN T.hand T.fs.length (2 * T.fs.length) 0 T.fs = (some i, fs)) (hd : (fs.getD i noFm).dirty = true) {r : Int × St} (hr : T.d.write ((fs.getD i noFm).at_ : Int) (fs.getD i noFm).data = r) (he : r.1 ≠ 0) : T.find = ⟨r.1, 0, ⟨r.2, fs, i⟩⟩ := by
  have e := PS.find_some hf hc
  have hw := write_at' T.d fs i i
  rw [hr, if_neg he] at hw
  have hv : PS.vacate ⟨T.d, fs, i⟩ i = (r.1, ⟨r.2, fs, i⟩) := by
    unfold PS.vacate
    rw [show (PS.fm ⟨T.d, fs, i⟩ i).dirty = true from hd, if_pos rfl, hw, if_neg he]
  rw [hv, if_neg he] at e; exact e
theorem find_wrote (hf : freeAt (keys T.fs) = none) (hc : chooseN T.hand T.fs.length (2 * T.fs.length) 0 T.fs = (some i, fs)) (hd : (fs.getD i noFm).dirty = true) {r : Int × St} (hr : T.d.write ((fs.getD i noFm).at_ : Int) (fs.getD i noFm).data = r) (he : r.1 = 0) : T.find = ⟨0, i, ⟨r.2, fs.set i noFm, (i + 1) % T.fs.length⟩⟩ := by
  have e := PS.find_some hf hc
  have hw := write_at' T.d fs i i
  rw [hr, if_pos he] at hw
  have hv : PS.vacate ⟨T.d, fs, i⟩ i = (0, ⟨r.2, fs.set i noFm, i⟩) := by
    unfold PS.vacate
    rw [show (PS.fm ⟨T.d, fs, i⟩ i).dirty = true from hd, if_pos rfl, hw, if_pos rfl]
    show (0, _) = (0, _)
    unfold PS.setF
    simp only [List.set_set]
  rw [hv, if_pos rfl] at e; exact e
end
theorem built97 : Tryd.prog.built 97 [(0, .int .i64 (-1))] = some (rfL noFm).toArray := by kernel_rfl
theorem rfL_one (f : Fm) : ∀ v ∈ rfL f, v.oneCell' = true := rawL_one _ _ _ _ _
theorem wpList_build1 {P : Program} {w : World} {ops : Array Oper} {rest : List Oper} {o : Oper} {a : Act} {Q : Exit → Act → World → Prop} (hgd : o.guard = none) (t : TypeId) (x0 : Operand) (ho : o.op = .build t #[(0, x0)]) (v0 : Value) (h0 : a.eval x0 = v0) (cs : Array Value) (hb : P.built t [(0, v0)] = some cs)
    (h : wpList P ops Q rest (a.put o.dst (.agg cs)) w) : wpList P ops Q (o :: rest) a w := by
  have hv : ((#[(0, x0)] : Array (Nat × Operand)).map fun (i, x) => (i, a.eval x)).toList = [(0, v0)] := by simp [h0]
  refine wpList_build hgd t _ ho (by rw [hv, hb]; rfl) ?_
  rw [hv, hb]
  exact h
theorem rAt_full {f : Fm} (h : f.data ≠ []) : rAt f = (f.at_ : Int) := by unfold rAt; rw [if_neg h]
theorem rAt_neg (f : Fm) : rAt f < 0 ↔ f.data = [] := by
  unfold rAt
  by_cases h : f.data = []
  · rw [if_pos h]; exact ⟨fun _ => h, fun _ => by decide⟩
  · rw [if_neg h]; exact ⟨fun h2 => by omega, fun h2 => absurd h2 h⟩
/-- Frames that are used no longer. -/
theorem RP.calm {w : World} {m p g c q : Nat} {G : Nat → Prop} {T : PS} (P : RP w m p g c q G T) (hfree : freeAt (keys T.fs) = none) {d : St} {fs : List Fm} (hps : d.ps = T.d.ps) (hc : Calm T.fs fs) {h : Nat} (hh : h < T.fs.length) : Inv ⟨d, fs, h⟩ := by
  have := hc.inv P.inv hfree hh
  exact ⟨this.few, this.most, this.hand, this.none, this.size, by show ∀ f ∈ fs, f.data ≠ [] → f.at_ < d.ps.length; rw [hps]; exact this.in_, this.apart⟩

set_option maxHeartbeats 8000000 in
theorem rfind_any {w : World} {m p g c q : Nat} {G : Nat → Prop} {T : PS} (P : RP w m p g c q G T) (hm : m < 1000) :
    Calls Tryd.prog 44 #[.pointer (some ⟨p, 0, none⟩)] w fun e w' => e = .returned (FoundV T.find) ∧ RPL p g c q G m w T.find.S w' := by
  obtain ⟨n, hn⟩ : ∃ n, T.fs.length = n := ⟨_, rfl⟩
  have c1 : w.cell? ⟨p, 1, none⟩ = some (.slice (some ⟨g, 0, none⟩) n c) := by rw [← hn]; exact P.row.cell 1
  have h64 : n ≤ 64 := by rw [← hn]; exact P.inv.most
  have h1n : 1 ≤ n := by rw [← hn]; exact P.inv.few
  have HK : Hid (∀ i, i < n → w.cell? ⟨g, i * 5, none⟩ = some (.int .i64 (rAt (T.fm i)))) := fun i hi => by have := P.cells (i := i) (by omega) 0 _ rfl; rw [Nat.add_zero] at this; exact this
  have HN : Hid (T.fs.length = n) := hn
  have HP : Hid (RP w m p g c q G T) := P
  have hhn : T.hand < n := by rw [← hn]; exact P.inv.hand
  clear P hn
  go_enter Tryd.func44, Tryd.ntmps44
  go_wp2_with fail
  go_loopw [4] (fun u wr => ∃ i : Nat, u = .int .i64 (i : Int) ∧ i ≤ n ∧ wr = w ∧ Hid (∀ j, j < i → (keys T.fs)[j]? ≠ some none)) (fun u _ => n - (intOf u).toNat)
  case atStart => exact ⟨0, rfl, by omega, rfl, fun j hj => by omega⟩
  case round =>
    obtain ⟨i, rfl, hi, hwr, HB⟩ := hrel
    obtain rfl : w = wr := hwr.symm
    by_cases h : i < n
    · have h' : (i : Int) < (n : Int) := by omega
      have hil : i < T.fs.length := by rw [HN.out]; exact h
      have k0 := HK.out i h
      have HA : Hid (rAt (T.fm i) < 0 ↔ (keys T.fs)[i]? = some none) := by
        show _ ↔ _
        rw [keys_at hil, rAt_neg]
        constructor
        · intro hd
          have hd' : (T.fs.getD i noFm).data = [] := hd
          unfold Fm.key; rw [if_pos hd']
        · intro hk; exact key_none (by injection hk)
      generalize rAt (T.fm i) = x at k0 HA
      clear hil
      by_cases hx : x < 0
      · have HE : Hid (T.find = ⟨0, i, T⟩) := PS.find_free (freeAt_found (HA.out.1 hx) HB.out)
        go_wp2_with fail
        go_ret2
        rw [HE.out]
        exact ⟨rfl, G, HP.out, Step.refl _ _⟩
      · go_wp2_with fail
        refine ⟨⟨i + 1, by simp, by omega, by simp, fun j hj => ?_⟩, by simp [intOf]; omega⟩
        by_cases e : j = i
        · subst e; exact fun h2 => hx (HA.out.2 h2)
        · exact HB.out j (by omega)
    · obtain rfl : n = i := by omega
      have hfree : freeAt (keys T.fs) = none := freeAt_not (fun j hj => HB.out j (by rw [keys_length, HN.out] at hj; exact hj))
      have HFr : Hid (freeAt (keys T.fs) = none) := hfree
      obtain ⟨r, hr⟩ : ∃ r, chooseN T.hand n (2 * n) 0 T.fs = r := ⟨_, rfl⟩
      have HR : Hid (chooseN T.hand n (2 * n) 0 T.fs = r) := hr
      have hw1 : IntKind.i64.wrap (2 * (n : Int)) = ((2 * n : Nat) : Int) := by rw [IntKind.wrap_i64]; omega
      clear hfree hr HB
      go_wp2_with fail
      go_loopw [5] (fun u wr => ∃ (k : Nat) (fs : List Fm), u = .int .i64 (k : Int) ∧ k ≤ 2 * n ∧ Hid (RP wr m p g c q G ⟨T.d, fs, T.hand⟩ ∧ Step (rown p g G) (rown p g G) w wr ∧ chooseN T.hand n (2 * n - k) k fs = r ∧ Calm T.fs fs)) (fun u _ => 2 * n - (intOf u).toNat)
      case atStart => exact ⟨0, T.fs, rfl, by omega, HP.out, Step.refl _ _, HR.out, Calm.refl _⟩
      case round =>
        obtain ⟨k, fs, rfl, hk, HI⟩ := hrel
        rename World => w2
        obtain ⟨P2, s2, e2, cm⟩ := HI.out
        have hfl : fs.length = n := cm.len.trans HN.out
        have c1 : w2.cell? ⟨p, 1, none⟩ = some (.slice (some ⟨g, 0, none⟩) n c) := by have := P2.row.cell 1; simp only [hfl] at this; exact this
        have c2 : w2.cell? ⟨p, 2, none⟩ = some (.int .i64 (T.hand : Int)) := P2.row.cell 2
        have c0 : w2.cell? ⟨p, 0, none⟩ = some (.pointer (some ⟨q, 0, none⟩)) := P2.row.cell 0
        by_cases hkn : k < 2 * n
        · have hkn' : (k : Int) < 2 * (n : Int) := by omega
          obtain ⟨i, hij⟩ : ∃ i, i = (T.hand + k) % n := ⟨_, rfl⟩
          have hin : i < n := by rw [hij]; exact Nat.mod_lt _ (by omega)
          have hrem : Int.tmod ((T.hand : Int) + (k : Int)) (n : Int) = (i : Int) := by rw [hij]; rw [← Int.natCast_add, ← Int.ofNat_tmod]
          obtain ⟨f, hf⟩ : ∃ f, f = fs.getD i noFm := ⟨_, rfl⟩
          have hfull : f.data ≠ [] := by rw [hf]; exact full_at HFr.out cm (by rw [HN.out]; exact hin)
          have hcs := P2.cells (i := i) (by simp only [hfl]; exact hin)
          have hfm : PS.fm ⟨T.d, fs, T.hand⟩ i = f := hf.symm
          rw [hfm] at hcs
          have k0 : w2.cell? ⟨g, i * 5, none⟩ = some (.int .i64 (f.at_ : Int)) := by have := hcs 0 _ rfl; rw [Nat.add_zero, rAt_full hfull] at this; exact this
          have k1 : w2.cell? ⟨g, i * 5 + 1, none⟩ = some (.string (bs f.data)) := hcs 1 _ rfl
          have k2 : w2.cell? ⟨g, i * 5 + 2, none⟩ = some (.int .i64 (f.pins : Int)) := hcs 2 _ rfl
          have k3 : w2.cell? ⟨g, i * 5 + 3, none⟩ = some (.bool f.dirty) := hcs 3 _ rfl
          have k4 : w2.cell? ⟨g, i * 5 + 4, none⟩ = some (.bool f.used) := hcs 4 _ rfl
          have kf := P2.frozen (i * 5 + 4)
          have hpf : f.pins ≤ m := by rw [hf]; exact P2.pins _ (getD_mem (by show i < fs.length; omega))
          have hstep : 2 * n - k = (2 * n - (k + 1)) + 1 := by omega
          rw [hstep, chooseN, ← hij, ← hf] at e2
          have HFM : Hid (f = fs.getD i noFm ∧ fs.length = n ∧ Calm T.fs fs) := ⟨hf, hfl, cm⟩
          by_cases hp : 0 < f.pins
          · have hp' : (0 : Int) < (f.pins : Int) := by omega
            rw [if_pos hp] at e2
            have HE2 : Hid (chooseN T.hand n (2 * n - (k + 1)) (k + 1) fs = r) := e2
            clear P2 s2 e2 cm hfl hcs hij hf hfm hfull
            go_wp2_with fail
            go_quiet (fail)
            go_wp2_with fail
            have nq' := New.drewN w2 nq
            exact ⟨⟨k + 1, fs, by simp, by omega, HI.out.1.after nq', HI.out.2.1.trans (Step.new nq'), HE2.out, HI.out.2.2.2⟩, by simp [intOf]; omega⟩
          · have hp' : ¬ (0 : Int) < (f.pins : Int) := by omega
            rw [if_neg hp] at e2
            cases hu : f.used
            · rw [hu, if_neg (by decide)] at e2
              rw [hu] at k4
              have e3 : chooseN T.hand T.fs.length (2 * T.fs.length) 0 T.fs = (some i, fs) := by rw [HN.out, HR.out, ← e2]
              obtain ⟨kk, hkk⟩ : ∃ kk, (i + 1) % n = kk := ⟨_, rfl⟩
              have hkn2 : kk < n := by rw [← hkk]; exact Nat.mod_lt _ (by omega)
              have hrem2 : Int.tmod ((i : Int) + 1) (n : Int) = (kk : Int) := by rw [← hkk, show (i : Int) + 1 = ((i + 1 : Nat) : Int) by omega, ← Int.ofNat_tmod]
              cases hd : f.dirty
              · rw [hd] at k3
                have HE : Hid (T.find = ⟨0, i, ⟨T.d, fs.set i noFm, kk⟩⟩) := by rw [← hkk, ← HN.out]; exact find_clean HFr.out e3 (by rw [← hf]; exact hd)
                clear P2 s2 e2 e3 cm hfl hcs hij hf hfm hfull hkk
                go_wp2_with fail
                go_quiet (fail)
                have nq' := New.drewN w2 nq
                obtain ⟨P2, s2, _, _⟩ := HI.out
                have P5 := P2.after nq'
                have s5 := s2.trans (Step.new nq')
                have hfl := HFM.out.2.1
                have HPn : Hid (∀ f ∈ fs, f.pins ≤ m) := P2.pins
                have HRm : Hid (T.d.ws.length + nd (fs.set i noFm) ≤ m) := by
                  show T.d.ws.length + nd (fs.set i noFm) ≤ m
                  have h1 := P2.room
                  have h2 := nd_set (fs := fs) (i := i) (f := noFm) (by omega)
                  have : noFm.dirty = false := rfl
                  rw [this] at h2
                  simp only [Bool.false_eq_true, if_false] at h2
                  simp only at h1
                  omega
                clear P2 s2
                have hpl := P5.pl
                simp only [hfl] at hpl
                have HPL : Hid (Pl (w2.drewN nq) (fun x => x = g) 97 5 (.slice (some ⟨g, 0, none⟩) n c) (fs.map rfL) ∧ i < (fs.map rfL).length) := ⟨hpl, by rw [List.length_map]; omega⟩
                have HP5 : Hid (RP (w2.drewN nq) m p g c q G ⟨T.d, fs, T.hand⟩ ∧ Step (rown p g G) (rown p g G) w (w2.drewN nq) ∧ fs.length = n) := ⟨P5, s5, hfl⟩
                have c1 : (w2.drewN nq).cell? ⟨p, 1, none⟩ = some (.slice (some ⟨g, 0, none⟩) n c) := by have := P5.row.cell 1; simp only [hfl] at this; exact this
                have c2 : (w2.drewN nq).cell? ⟨p, 2, none⟩ = some (.int .i64 (T.hand : Int)) := P5.row.cell 2
                have f2 : (w2.drewN nq).frozen? ⟨p, 2, none⟩ = false := P5.row.frozen 2
                have HPc : Hid (∀ w7, But g (w2.drewN nq) w7 → w7.cell? ⟨p, 1, none⟩ = some (.slice (some ⟨g, 0, none⟩) n c) ∧ w7.cell? ⟨p, 2, none⟩ = some (.int .i64 (T.hand : Int)) ∧ w7.frozen? ⟨p, 2, none⟩ = false) := fun w7 B7 => by
                  have R7 := HP5.out.1.row.of (B7.block p HP5.out.1.pg)
                  simp only [HP5.out.2.2] at R7
                  exact ⟨R7.cell 1, R7.cell 2, R7.frozen 2⟩
                clear P5 s5 hpl c1 c2 f2
                go_wp2_with (first | (refine wpList_build1 (by rfl) _ _ (by rfl) _ (by rfl) _ built97 ?_) | (refine wpList_store_pl (by rfl) _ _ _ (by rfl) _ 97 5 g n c i _ (rfL noFm) HPL.out.1 HPL.out.2 (by rfl) (by rfl) rfl i97 (rfL_one noFm) ?_; rintro w7 P7 B7; obtain ⟨c1, c2, f2⟩ := HPc.out w7 B7))
                go_ret2
                rw [HE.out]
                obtain ⟨P5, s5, hfl⟩ := HP5.out
                have P8 : RP w7 m p g c q G (PS.setF ⟨T.d, fs, T.hand⟩ i noFm) := P5.frame B7 (by simp only [hfl]; exact P7) (P5.inv.drop (by simp only [hfl]; exact hin) rfl rfl P5.inv.hand) (fun f2 hf2 => by
                  rcases set_mem hf2 with h | rfl
                  · exact HPn.out f2 h
                  · exact Nat.zero_le _) (by
                  exact HRm.out)
                refine ⟨rfl, G, ?_, (s5.trans (B7.step (.inr (.inl rfl)))).trans (Step.setCell w7 (a := ⟨p, 2, none⟩) (.inl rfl) _)⟩
                have P9 := P8.setHand (k := kk) (by rw [setF_len]; simp only [hfl]; omega)
                exact P9
              · rw [hd] at k3
                obtain ⟨rr, hrr⟩ : ∃ rr, T.d.write (f.at_ : Int) f.data = rr := ⟨_, rfl⟩
                have hrw := P2.room
                have hws : T.d.ws.length < 1000 := by simp only at hrw; omega
                have HW : Hid (∀ w3, New w2 w3 → Calls Tryd.prog 51 #[.pointer (some ⟨q, 0, none⟩), .int .i64 (f.at_ : Int), .string (bs f.data)] w3 fun e w' => e = .returned (.int .i64 rr.1) ∧ RLeft G q w3 rr.2 w') := fun w3 n3 => by
                  have := refwrite_any (P2.disk.after n3) (f.at_ : Int) (bs f.data) hws
                  rw [L_bs] at this; simp only [hrr] at this; exact this
                have hps : rr.2.ps = T.d.ps := by rw [← hrr]; exact write_ps _ _ _
                have hfew := write_few T.d (f.at_ : Int) f.data
                rw [hrr] at hfew
                have HFew : Hid (rr.2.ps = T.d.ps ∧ ((rr.1 = 0 ∧ rr.2.ws.length = T.d.ws.length + 1) ∨ (rr.1 ≠ 0 ∧ rr.2.ws = T.d.ws))) := ⟨hps, hfew⟩
                have HErr : Hid (rr.1 ≠ 0 → T.find = ⟨rr.1, 0, ⟨rr.2, fs, i⟩⟩) := fun he => find_err HFr.out e3 (by rw [← hf]; exact hd) (by rw [← hf]; exact hrr) he
                have HOk : Hid (rr.1 = 0 → T.find = ⟨0, i, ⟨rr.2, fs.set i noFm, kk⟩⟩) := fun he => by have := find_wrote HFr.out e3 (by rw [← hf]; exact hd) (by rw [← hf]; exact hrr) he; rw [HN.out, hkk] at this; exact this
                have HND : Hid (nd (fs.set i noFm) + 1 = nd fs ∧ f.dirty = true) := by
                  have h2 := nd_set (fs := fs) (i := i) (f := noFm) (by omega)
                  rw [← hf, hd, show noFm.dirty = false from rfl] at h2
                  simp only [if_true, Bool.false_eq_true, if_false] at h2
                  exact ⟨h2, hd⟩
                clear P2 s2 e2 e3 cm hfl hcs hij hf hfm hfull hkk hrr hrw hws hps hfew
                have hne := NewW.ne w2
                go_wp2_with fail
                go_quiet (fail)
                have nq' := New.drewN w2 nq
                obtain ⟨w3, hw3⟩ : ∃ w3, w2.drewN nq = w3 := ⟨_, rfl⟩
                rw [hw3] at nq' ⊢
                have k0 := (nq'.cell (World.block_lt_of_cell? _ _ k0)).trans k0
                have k1 := (nq'.cell (World.block_lt_of_cell? _ _ k1)).trans k1
                have k3 := (nq'.cell (World.block_lt_of_cell? _ _ k3)).trans k3
                have k2 := (nq'.cell (World.block_lt_of_cell? _ _ k2)).trans k2
                have k4 := (nq'.cell (World.block_lt_of_cell? _ _ k4)).trans k4
                have c0 := (nq'.cell (World.block_lt_of_cell? _ _ c0)).trans c0
                have c1 := (nq'.cell (World.block_lt_of_cell? _ _ c1)).trans c1
                have c2 := (nq'.cell (World.block_lt_of_cell? _ _ c2)).trans c2
                clear hne hw3
                have hne := NewW.ne w3
                have q0 : ∀ q' : NewW w3, q'.v.cell? ⟨p, 0, none⟩ = some (.pointer (some ⟨q, 0, none⟩)) := fun q' => NewW.cell c0 q'
                have q1 : ∀ q' : NewW w3, q'.v.cell? ⟨g, i * 5, none⟩ = some (.int .i64 (f.at_ : Int)) := fun q' => NewW.cell k0 q'
                have q2 : ∀ q' : NewW w3, q'.v.cell? ⟨g, i * 5 + 1, none⟩ = some (.string (bs f.data)) := fun q' => NewW.cell k1 q'
                go_wp2_with fail
                refine region_first 12 2 w3 (New.refl w3) (by kernel_rfl) (by kernel_rfl) ?_
                simp only [List.take_succ_cons, List.take_zero, List.drop_succ_cons, List.drop_zero, List.take_nil]
                iterate 12 (go_big_quiet_step (fail))
                refine wpQuiet_nil ?_
                rintro W5 ⟨⟨_, N5⟩, rfl⟩
                clear q0 q1 q2 hne
                have NN := nq'.trans N5
                go_wp2_with fail
                refine (HW.out W5 NN).mono ?_
                rintro _ w6 ⟨rfl, l6⟩
                obtain ⟨hps, hfew⟩ := HFew.out
                obtain ⟨P2, s2, _, _⟩ := HI.out
                have hrm := P2.room
                have hndd := HND.out.1
                clear c0 c1 c2 k0 k1 k2 k3 k4
                by_cases he : rr.1 = 0
                · have HE := HOk.out he
                  have hw6 : rr.2.ws.length = T.d.ws.length + 1 := by rcases hfew with h | h; exact h.2; exact absurd he h.1
                  obtain ⟨G5, P5, s6⟩ := ((P2.after NN).mono (Nat.le_succ m)).call l6 hps (by simp only at hrm ⊢; omega)
                  have s5 := (s2.trans (Step.new NN)).trans s6
                  have hfl := HFM.out.2.1
                  have HPn : Hid (∀ f ∈ fs, f.pins ≤ m) := P2.pins
                  have HRm : Hid (rr.2.ws.length + nd (fs.set i noFm) ≤ m) := by
                    show rr.2.ws.length + nd (fs.set i noFm) ≤ m
                    simp only at hrm
                    omega
                  have HE' : Hid (T.find = ⟨0, i, ⟨rr.2, fs.set i noFm, kk⟩⟩) := HE
                  rw [he]
                  clear P2 s2 HE hrm hndd hfew hps l6 s6 he hw6
                  have HE : Hid (T.find = ⟨0, i, ⟨rr.2, fs.set i noFm, kk⟩⟩) := HE'.out
                  have hpl := P5.pl
                  simp only [hfl] at hpl
                  have HPL : Hid (Pl w6 (fun x => x = g) 97 5 (.slice (some ⟨g, 0, none⟩) n c) (fs.map rfL) ∧ i < (fs.map rfL).length) := ⟨hpl, by rw [List.length_map]; omega⟩
                  have HP5 : Hid (RP w6 (m + 1) p g c q G5 ⟨rr.2, fs, T.hand⟩ ∧ Step (rown p g G) (rown p g G5) w w6 ∧ fs.length = n) := ⟨P5, s5, hfl⟩
                  have c1 : w6.cell? ⟨p, 1, none⟩ = some (.slice (some ⟨g, 0, none⟩) n c) := by have := P5.row.cell 1; simp only [hfl] at this; exact this
                  have c2 : w6.cell? ⟨p, 2, none⟩ = some (.int .i64 (T.hand : Int)) := P5.row.cell 2
                  have f2 : w6.frozen? ⟨p, 2, none⟩ = false := P5.row.frozen 2
                  have HPc : Hid (∀ w7, But g w6 w7 → w7.cell? ⟨p, 1, none⟩ = some (.slice (some ⟨g, 0, none⟩) n c) ∧ w7.cell? ⟨p, 2, none⟩ = some (.int .i64 (T.hand : Int)) ∧ w7.frozen? ⟨p, 2, none⟩ = false) := fun w7 B7 => by
                    have R7 := HP5.out.1.row.of (B7.block p HP5.out.1.pg)
                    simp only [HP5.out.2.2] at R7
                    exact ⟨R7.cell 1, R7.cell 2, R7.frozen 2⟩
                  clear P5 s5 hpl c1 c2 f2
                  go_wp2_with (first | (refine wpList_build1 (by rfl) _ _ (by rfl) _ (by rfl) _ built97 ?_) | (refine wpList_store_pl (by rfl) _ _ _ (by rfl) _ 97 5 g n c i _ (rfL noFm) HPL.out.1 HPL.out.2 (by rfl) (by rfl) rfl i97 (rfL_one noFm) ?_; rintro w7 P7 B7; obtain ⟨c1, c2, f2⟩ := HPc.out w7 B7))
                  go_ret2
                  rw [HE.out]
                  obtain ⟨P5, s5, hfl⟩ := HP5.out
                  have P8 : RP w7 m p g c q G5 (PS.setF ⟨rr.2, fs, T.hand⟩ i noFm) := P5.frame B7 (by simp only [hfl]; exact P7) (P5.inv.drop (by simp only [hfl]; exact hin) rfl rfl P5.inv.hand) (fun f2 hf2 => by
                    rcases set_mem hf2 with h | rfl
                    · exact HPn.out f2 h
                    · exact Nat.zero_le _) (by
                    exact HRm.out)
                  refine ⟨rfl, G5, ?_, (s5.trans (B7.step (.inr (.inl rfl)))).trans (Step.setCell w7 (a := ⟨p, 2, none⟩) (.inl rfl) _)⟩
                  have P9 := P8.setHand (k := kk) (by rw [setF_len]; simp only [hfl]; omega)
                  exact P9
                · obtain ⟨G5, P5, s5⟩ := (P2.after NN).call l6 hps (by rcases hfew with h | h; exact absurd h.1 he; rw [h.2]; exact hrm)
                  have HE := HErr.out he
                  have hfl := HFM.out.2.1
                  have c2 : w6.cell? ⟨p, 2, none⟩ = some (.int .i64 (T.hand : Int)) := P5.row.cell 2
                  have f2 : w6.frozen? ⟨p, 2, none⟩ = false := P5.row.frozen 2
                  have P6 := P5.setHand (k := i) (by show i < fs.length; omega)
                  have HG : Hid (RPL p g c q G m w ⟨rr.2, fs, i⟩ (w6.setCell ⟨p, 2, none⟩ (.int .i64 (i : Int)))) := ⟨G5, P6, ((s2.trans (Step.new NN)).trans s5).trans (Step.setCell w6 (a := ⟨p, 2, none⟩) (.inl rfl) _)⟩
                  have HE' : Hid (T.find = ⟨rr.1, 0, ⟨rr.2, fs, i⟩⟩) := HE
                  obtain ⟨z, hz⟩ : ∃ z, rr.1 = z := ⟨_, rfl⟩
                  have HZ : Hid (rr.1 = z) := hz
                  rw [hz] at he ⊢
                  clear P2 s2 P5 s5 P6 HE hz hrm hndd hfew hps l6 hfl
                  go_wp2_with fail
                  go_ret2
                  rw [HE'.out]
                  refine ⟨?_, HG.out⟩
                  rw [HZ.out]; rfl
            · rw [hu, if_pos rfl] at e2
              rw [hu] at k4
              have HE2 : Hid (chooseN T.hand n (2 * n - (k + 1)) (k + 1) (fs.set i { f with used := false }) = r) := e2
              clear P2 s2 e2 cm hfl hcs hij hf hfm hfull
              go_wp2_with fail
              go_quiet (fail)
              go_wp2_with fail
              have nq' := New.drewN w2 nq
              obtain ⟨P2, s2, _, cm⟩ := HI.out
              obtain ⟨hf, hfl, _⟩ := HFM.out
              have hil : i < fs.length := by omega
              have cm2 : Calm T.fs (fs.set i { f with used := false }) := by rw [hf]; exact cm.trans (Calm.set fs hil false)
              have P3 := P2.after nq'
              have hpl := P3.fieldPl (i := i) (j := 4) (v := .bool false) (e := rfL { f with used := false }) hil (by decide) (by rw [show PS.fm ⟨T.d, fs, T.hand⟩ i = f from hf.symm]; rfl)
              have P4 : RP ((w2.drewN nq).setCell ⟨g, i * 5 + 4, none⟩ (.bool false)) m p g c q G (PS.setF ⟨T.d, fs, T.hand⟩ i { f with used := false }) := P3.frame (But.setCell' _ g _ _) hpl (HP.out.calm HFr.out rfl cm2 HP.out.inv.hand) (cm2.pins_le HP.out.pins) (by have h1 := HP.out.room; rw [cm2.nd]; exact h1)
              exact ⟨⟨k + 1, fs.set i { f with used := false }, by simp, by omega, P4, (s2.trans (Step.new nq')).trans (Step.setCell _ (a := ⟨g, i * 5 + 4, none⟩) (.inr (.inl rfl)) _), HE2.out, cm2⟩, by simp [intOf]; omega⟩
        · obtain rfl : k = 2 * n := by omega
          have HE : Hid (T.find = ⟨5, 0, ⟨T.d, fs, T.hand⟩⟩) := by
            rw [Nat.sub_self] at e2
            have e3 : chooseN T.hand T.fs.length (2 * T.fs.length) 0 T.fs = (none, fs) := by rw [HN.out, HR.out, ← e2]; rfl
            exact PS.find_none HFr.out e3
          clear P2 s2 e2 cm
          go_wp2_with fail
          go_ret2
          rw [HE.out]
          exact ⟨rfl, G, HI.out.1, HI.out.2.1⟩
end Go.Proofs.YtkcoclpbkealgaaDoor
