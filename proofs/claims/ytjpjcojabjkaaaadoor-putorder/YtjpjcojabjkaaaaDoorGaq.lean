/-
  The document's own Pairs: the pairs whose nodes nodes are. TrieTells: whatever pairs and two lists of nodes, the call returns true and leaves its arguments as they were: the nodes that pairs have, the pairs and the paths of nodes, whether they are a trie and whether two are alike are all as the document's own answer has them. Its condition: the table of upper halves holds what its initialiser lays (tied).
-/
import Derived.Test.YtjpjcojabjkaaaaDoorGan
import Derived.Test.YtjpjcojabjkaaaaDoorGap
import Derived.Test.YtjpjcojabjkaaaaDoorGal
namespace Go.Proofs.YtjpjcojabjkaaaaDoor
open Go.RowKit
set_option maxRecDepth 20000

def blC (b : Bool) : List Value := [.bool b]
theorem info37 : (Tryd.prog.info? 57).map (fun i => (i.zero, i.size, i.bytes)) = some (some (.agg #[.slice none 0 0, .bool false]), 2, 32) := by kernel_rfl
theorem info4 : (Tryd.prog.info? 4).map (fun i => (i.zero, i.size, i.bytes)) = some (some (.bool false), 1, 1) := by kernel_rfl
theorem info68 : (Tryd.prog.info? 79).map (fun i => (i.zero, i.size, i.bytes)) = some (some (.agg #[.string (bs []), .bool false]), 2, 24) := by kernel_rfl
theorem i37 : (Tryd.prog.info? 57).map (·.size) = some 2 := by kernel_rfl
theorem i68 : (Tryd.prog.info? 79).map (·.size) = some 2 := by kernel_rfl
theorem built37_0 : Tryd.prog.built 57 [] = some #[.slice none 0 0, .bool false] := by kernel_rfl
theorem built37_1 (a : Option Addr) (n c : Nat) : Tryd.prog.built 57 [(0, .slice a n c), (1, .bool true)] = some #[.slice a n c, .bool true] := by kernel_rfl
theorem got_one (a : Option Addr) (n c : Nat) (x : Bool) : (#[.slice a n c, .bool x] : Array Value).all (·.oneCell') = true := by simp [Value.oneCell']
theorem key_one (s : ByteArray) (x : Bool) : (#[.string s, .bool x] : Array Value).all (·.oneCell') = true := by simp [Value.oneCell']
theorem bl_at {w : World} {F : Nat → Prop} {g n c : Nat} {ms : List Bool} (h : Pl w F 4 1 (.slice (some ⟨g, 0, none⟩) n c) (ms.map blC)) {k : Nat} (hk : k < ms.length) : w.cell? ⟨g, k, none⟩ = some (.bool (ms.getD k false)) ∧ w.frozen? ⟨g, k, none⟩ = false := by
  have := h.cellAt (i := k) (j := 0) (e := blC (ms.getD k false)) (u := .bool (ms.getD k false)) (by rw [List.getElem?_map, List.getD_eq_getElem?_getD, List.getElem?_eq_getElem hk]; rfl) rfl
  rwa [Nat.mul_one, Nat.add_zero] at this
theorem bl_set {w : World} {F : Nat → Prop} {g n c : Nat} {ms : List Bool} (h : Pl w F 4 1 (.slice (some ⟨g, 0, none⟩) n c) (ms.map blC)) {k : Nat} (hk : k < ms.length) (x : Bool) : Pl (w.setCell ⟨g, k, none⟩ (.bool x)) F 4 1 (.slice (some ⟨g, 0, none⟩) n c) ((ms.set k x).map blC) := by
  have := h.setCell (i := k) (j := 0) (e := blC (ms.getD k false)) (by rw [List.getElem?_map, List.getD_eq_getElem?_getD, List.getElem?_eq_getElem hk]; rfl) (by omega) (.bool x)
  rw [Nat.mul_one, Nat.add_zero] at this
  rw [List.map_set]
  exact this
theorem conv_byteR {c : Nat} (hc : c < 16) : ∀ (w : World) (b : Nat), w.cell? ⟨b, 0, none⟩ = some (.int .u8 (c : Int)) → (convert 50 9 (.slice (some ⟨b, 0, none⟩) 1 1)).run Tryd.prog w = .ok (.string (bs [UInt8.ofNat c])) w := by
  intro w b hc'
  refine run_convert_bytes_back w 50 9 5 ⟨b, 0, none⟩ 1 [UInt8.ofNat c] Tryd.underlying50 Tryd.underlying5 Tryd.underlying9 (fun j hj => ?_)
  simp at hj
  subst hj
  simp [Addr.add, hc']
  omega
theorem rd_acc {t : List Nd} {l : List Pr} {to : List Bt} {met : List Bool} (h : rN t t.length = some (l, to, met)) (hn : ¬ (mayB l = true ∧ buildN l = t)) : readF t = none := by
  cases hr : readF t with
  | none => rfl
  | some s =>
    obtain ⟨to', met', h2⟩ := rN_read.1 s hr
    rw [h] at h2
    have e : l = s.1 := congrArg Prod.fst (Option.some.inj h2)
    obtain ⟨h3, h4, _⟩ := readF_iff.1 (show readF t = some (s.1, s.2) from hr)
    exact absurd ⟨by rw [e]; exact h3, by rw [e]; exact h4.symm⟩ hn
theorem rd_none {t : List Nd} {k : Nat} (h : rN t k = none) (hk : k ≤ t.length) : readF t = none := by
  cases hr : readF t with
  | none => rfl
  | some s =>
    obtain ⟨to, met, h2⟩ := rN_read.1 s hr
    have := rN_none h (t.length - k)
    rw [show k + (t.length - k) = t.length by omega] at this
    rw [this] at h2; cases h2
theorem rnode_kids {t : List Nd} {i : Nat} {s : List Pr × List Bt × List Bool} {m : Nd} {e : Bt} (hm : t.getD i noNd = m) (he : s.2.1.getD i [] ++ m.path = e) (h1 : ¬ (0 < i ∧ s.2.2.getD i false = false)) (h2 : ¬ (16 < m.path.length ∨ 16 < e.length)) (h3 : ¬ (m.has = true ∧ keyB e = false)) :
    rnode t i s = match rkid t.length i m.kind e m.kids s.2.1 s.2.2 16 with | none => none | some q => some (if m.has then s.1 ++ [(joinL e, m.val)] else s.1, q.1, q.2) := by
  unfold rnode
  rw [hm, he, if_neg h1, if_neg h2, if_neg h3]
  cases rkid t.length i m.kind e m.kids s.2.1 s.2.2 16 <;> rfl
theorem rnode_bad {t : List Nd} {i : Nat} {s : List Pr × List Bt × List Bool} {m : Nd} {e : Bt} (hm : t.getD i noNd = m) (he : s.2.1.getD i [] ++ m.path = e) (h : (0 < i ∧ s.2.2.getD i false = false) ∨ (16 < m.path.length ∨ 16 < e.length) ∨ (m.has = true ∧ keyB e = false)) : rnode t i s = none := by
  unfold rnode
  rw [hm, he]
  by_cases a1 : 0 < i ∧ s.2.2.getD i false = false
  · rw [if_pos a1]
  rw [if_neg a1]
  by_cases a2 : 16 < m.path.length ∨ 16 < e.length
  · rw [if_pos a2]
  rw [if_neg a2]
  rcases h with h | h | h
  · exact absurd h a1
  · exact absurd h a2
  · rw [if_pos h]
/-- What the document's own Pairs says of nodes. -/
def RPairs (t : List Nd) (w : World) (e : Ending) (w' : World) : Prop := New w w' ∧
  ((readF t = none ∧ e = .returned (.agg #[.slice none 0 0, .bool false])) ∨ (∃ s v1, readF t = some s ∧ e = .returned (.agg #[v1, .bool true]) ∧ Pl w' (Fresh w) 25 2 v1 (s.1.map prC)))

set_option maxHeartbeats 8000000 in
theorem rpairs_any {w : World} {v : Value} {t : List Nd} (P : Ls w 20 v (t.map ndC)) (K : TOk t) :
    Calls Tryd.prog 22 #[v] w (RPairs t w) := by
  have HPT : Hid (Ls w 20 v (t.map ndC)) := P
  have HTK : Hid (TOk t) := K
  obtain ⟨a, c, rfl, hc, HS⟩ := P.open noNd
  have hl := K.few
  have HM : Hid (∀ i, i < t.length → (t.getD i noNd).kids.length = 16 ∧ (t.getD i noNd).path.length ≤ 4000 ∧ (t.getD i noNd).val.length ≤ 4000) := fun i h => ⟨K.k16 _ (getD_mem h), K.len _ (getD_mem h)⟩
  have HOK : Hid (∀ {i : Nat} {s : List Pr × List Bt × List Bool}, i ≤ t.length → rN t i = some s → RkOk t i s) := fun h k => rk_ok (fun m hm => (K.len m hm).2) h k
  have hmk1 := fun W => run_make_pl W 41 9 (.string (bs [])) t.length 1 16 Tryd.underlying41 info9 rfl (by decide) (by omega) (by decide)
  have hmk2 := fun W => run_make_pl W 77 4 (.bool false) t.length 1 1 Tryd.underlying77 info4 rfl (by decide) (by omega) (by decide)
  clear P K
  go_enter Tryd.func22, Tryd.ntmps22
  go_wp2_with (first
    | (refine wpList_alloc_at (by rfl) 2 (by rfl) 57 (by rfl) _ _ _ info37 ?_; intro W1 R1 N1; obtain ⟨W2, hm1, Q2, N2⟩ := hmk1 W1; obtain ⟨W3, hm2, Q3, N3⟩ := hmk2 W2; clear hmk1 hmk2))
  clear hm1 hm2
  have h1 : w.heap.size < W1.heap.size := R1.lt
  have h2 : W1.heap.size < W2.heap.size := by obtain ⟨_, R, _⟩ := Q2.row; exact R.lt
  have h3 : W2.heap.size < W3.heap.size := by obtain ⟨_, R, _⟩ := Q3.row; exact R.lt
  have HQ2 : Hid (Pl W3 (fun g => g = W1.heap.size) 9 1 (.slice (some ⟨W1.heap.size, 0, none⟩) t.length t.length) ((List.replicate t.length ([] : Bt)).map txC)) := by
    show Pl _ _ _ _ _ _
    rw [List.map_replicate]; exact Q2.after N3
  have HQ3 : Hid (Pl W3 (fun g => g = W2.heap.size) 4 1 (.slice (some ⟨W2.heap.size, 0, none⟩) t.length t.length) ((List.replicate t.length false).map blC)) := by
    show Pl _ _ _ _ _ _
    rw [List.map_replicate]; exact Q3
  have HR : Hid (Row W3 w.heap.size #[.slice none 0 0, .bool false] 57) := (R1.after N2).after N3
  have N3' : New w W3 := (N1.trans N2).trans N3
  clear Q2 Q3 R1 N1 N2 N3
  generalize W1.heap.size = GA at *
  generalize W2.heap.size = GB at *
  go_loopw [5, 6] (fun s i wr => ∃ (k : Nat) (acc : List Pr) (to : List Bt) (met : List Bool), k ≤ t.length ∧ i = .int .i64 (k : Int) ∧ Hid (rN t k = some (acc, to, met)) ∧ Hid (Pl wr (fun g => GB < g) 25 2 s (acc.map prC)) ∧
    Hid (Pl wr (fun g => g = GA) 9 1 (.slice (some ⟨GA, 0, none⟩) t.length t.length) (to.map txC)) ∧ Hid (Pl wr (fun g => g = GB) 4 1 (.slice (some ⟨GB, 0, none⟩) t.length t.length) (met.map blC)) ∧
    Hid (Row wr w.heap.size #[.slice none 0 0, .bool false] 57) ∧ New w wr ∧ GB < wr.heap.size) (fun _ i _ => t.length - (intOf i).toNat)
  case atStart => exact ⟨0, [], _, _, by omega, rfl, rfl, Pl.nil _ _ _ _, HQ2.out, HQ3.out, HR.out, N3', h3⟩
  case round =>
    clear HQ2 HQ3 HR N3' h3
    obtain ⟨k, acc, to, met, hk, rfl, hrn, hq5, hqt, hqm, hRB, N, hWr⟩ := hrel
    have hRBl : w.heap.size < GA := h1
    by_cases hlt : k < t.length
    · obtain ⟨g, o, rfl, hg, hr⟩ := HS.out (by omega)
      have R2 := hr wr N k hlt
      obtain ⟨M1, M2, M3⟩ := HM.out k hlt
      obtain ⟨m, hm⟩ : ∃ m, t.getD k noNd = m := ⟨_, rfl⟩
      have HMD : Hid (t.getD k noNd = m) := hm
      rw [hm] at R2 M1 M2 M3
      have hok := HOK.out (Nat.le_of_lt hlt) hrn.out
      have htl : to.length = t.length := hok.to
      have hml : met.length = t.length := hok.met
      have hal : acc.length ≤ k := hok.few
      have hpk := hok.path _ (getD_mem (d := []) (show k < to.length by omega))
      have ck := tx_at hqt.out (k := k) (by omega)
      have cm := (bl_at hqm.out (k := k) (by omega)).1
      obtain ⟨pk, hpkk⟩ : ∃ x, to.getD k [] = x := ⟨_, rfl⟩
      have HPK : Hid (to.getD k [] = pk) := hpkk
      obtain ⟨mb, hmb⟩ : ∃ x, met.getD k false = x := ⟨_, rfl⟩
      have HMB : Hid (met.getD k false = mb) := hmb
      have hpk : (to.getD k []).length ≤ 17 := hpk
      rw [hpkk] at hpk ck
      rw [hmb] at cm
      obtain ⟨e, he⟩ : ∃ e, pk ++ m.path = e := ⟨_, rfl⟩
      have HE : Hid (pk ++ m.path = e) := he
      have HEE : Hid (to.getD k [] ++ m.path = e) := by show _ = _; rw [HPK.out]; exact he
      clear hm hpkk hmb hok hr
      by_cases hbad : 0 < k ∧ mb = false
      · obtain ⟨b1, rfl⟩ := hbad
        have HN : Hid (readF t = none) := rd_none (k := k + 1) (by rw [rN_succ hrn.out]; exact rnode_bad HMD.out HEE.out (.inl ⟨b1, HMB.out⟩)) (by omega)
        have hd : decide ((0 : Int) < (k : Int)) = true := decide_eq_true (by omega)
        clear R2 he
        go_wp2_with (first
          | refine wpList_build0 (by rfl) 57 (by rfl) _ built37_0 ?_
          | (refine wpList_store_new (by rfl) 57 _ _ (by rfl) w.heap.size #[.slice none 0 0, .bool false] (by rfl) (by rfl) 57 _ hRB.out i37 rfl (got_one _ _ _ _) ?_; intro Wz Rz Bz))
        exact bodyPost_ret (v := .agg #[.slice none 0 0, .bool false]) (results_cell (by rfl) _ _ w.heap.size 57 _ (0, 0) _ (by rfl) Rz Tryd.underlying57 rfl i37) rfl ⟨Bz.new N (Nat.le_refl _), .inl ⟨HN.out, rfl⟩⟩
      · have hgo : k = 0 ∨ mb = true := by cases mb <;> simp_all <;> omega
        have HNR : Hid (¬ (0 < k ∧ met.getD k false = false)) := by
          show ¬ _
          rw [HMB.out]; exact hbad
        have hs1 : (bs pk).size ≤ 17 := by rw [bs_size]; exact hpk
        have hs2 : (bs m.path).size ≤ 4000 := by rw [bs_size]; exact M2
        have hE : bs pk ++ bs m.path = bs e := eq_of_L (by rw [L_append, L_bs, L_bs, L_bs]; exact he)
        have hel : e.length = pk.length + m.path.length := by rw [← he, List.length_append]
        obtain ⟨A, hA⟩ : ∃ A, bs pk = A := ⟨_, rfl⟩
        obtain ⟨D, hD⟩ : ∃ D, bs m.path = D := ⟨_, rfl⟩
        obtain ⟨E, hEE⟩ : ∃ E, bs e = E := ⟨_, rfl⟩
        rw [hA, hD, hEE] at hE
        rw [hA] at hs1 ck
        rw [hD] at hs2
        have HSZ : Hid (D.size = m.path.length ∧ E.size = e.length) := ⟨by rw [← hD, bs_size], by rw [← hEE, bs_size]⟩
        have HEB : Hid (bs e = E) := hEE
        have HC : Hid (wr.cell? ⟨GA, k, none⟩ = some (.string A)) := ck
        obtain ⟨hh, hhe⟩ : ∃ b, m.has = b := ⟨_, rfl⟩
        obtain ⟨kd, hkd⟩ : ∃ z, m.kind = z := ⟨_, rfl⟩
        obtain ⟨V, hV⟩ : ∃ z, bs m.val = z := ⟨_, rfl⟩
        have HND : Hid ((ndA m)[0]? = some (.int .i64 kd) ∧ (ndA m)[1]? = some (.string D) ∧ (ndA m)[2]? = some (.bool hh) ∧ (ndA m)[3]? = some (.string V)) := by
          rw [← hkd, ← hD, ← hhe, ← hV]; exact ⟨rfl, rfl, rfl, rfl⟩
        have HHE : Hid (m.has = hh ∧ m.kind = kd ∧ bs m.val = V) := ⟨hhe, hkd, hV⟩
        clear hA hD hEE hhe hkd hV he hpk ck
        have HBD : Hid (¬ (0 < k ∧ mb = false)) := hbad
        clear hbad hgo
        go_wp2_with (first
          | refine wpList_load_mid (by rfl) 55 _ (by rfl) g (o + k * 20) (by rfl) (ndC m) _ R2 Tryd.underlying55 rfl (by rw [ndC_len M1]; exact i49) ?_
          | (refine wpList_alloc_at (by rfl) 7 (by rfl) 55 (by rfl) _ _ _ info49 ?_; intro Wa Ra Na)
          | (refine wpList_store_new (by rfl) 55 _ _ (by rfl) wr.heap.size (ndA m) (by rfl) (by rfl) 55 _ Ra (by rw [ndA_size M1]; exact i49) (by rw [ndA_size M1]; rfl) (ndA_all _) ?_; intro W2 R3 B3; have N3 : New wr W2 := B3.new Na (Nat.le_refl _)))
        all_goals first | (exact absurd (And.intro ‹0 < k› (by simpa using ‹(!mb) = true›)) HBD.out) | skip
        all_goals clear cm HBD
        all_goals
          have hBl : wr.heap.size < W2.heap.size := R3.lt
          have q1 := NewW.cell (W := W2) (g := wr.heap.size) (o := 1) (v := .string D) (R3.has 1 HND.out.2.1)
          have q2 := NewW.cell (W := W2) (g := GA) (o := k) (v := .string A) ((N3.cell (show GA < wr.heap.size by omega)).trans HC.out)
          have hne := NewW.ne W2
          have HR3 : Hid (Row W2 wr.heap.size (ndA m) 55) := R3
          have HNw2 : Hid (New w W2) := N.trans N3
          have HT2 : Hid (Pl W2 (fun g => g = GA) 9 1 (.slice (some ⟨GA, 0, none⟩) t.length t.length) (to.map txC)) := hqt.out.after N3
          have HM2 : Hid (Pl W2 (fun g => g = GB) 4 1 (.slice (some ⟨GB, 0, none⟩) t.length t.length) (met.map blC)) := hqm.out.after N3
          have HQ2 : Hid (Pl W2 (fun g => GB < g ∧ g < wr.heap.size) 25 2 u5 (acc.map prC)) := (hq5.out.mono (G := fun g => GB < g ∧ g < wr.heap.size) (fun b hb hlt => ⟨hb, hlt⟩)).after N3
          have HB2 : Hid (Row W2 w.heap.size #[.slice none 0 0, .bool false] 57) := hRB.out.after N3
          have hsw : wr.heap.size ≤ W2.heap.size := N3.size
          clear R3 Ra R2 N3 Na B3 hq5 hqt hqm hRB HC N
          generalize wr.heap.size = B at *
          go_simp
          refine region_new W2 (New.refl W2) (by kernel_rfl) (by kernel_rfl) ?_
          repeat (go_big_quiet_step (fail))
          refine wpQuiet_nil ?_
          rintro W3 ⟨⟨_, k3⟩, rfl⟩
          clear q1 q2 hne
          have HR : Hid (Row W3 B (ndA m) 55) := HR3.out.after k3
          have HNw : Hid (New w W3) := HNw2.out.trans k3
          have HT : Hid (Pl W3 (fun g => g = GA) 9 1 (.slice (some ⟨GA, 0, none⟩) t.length t.length) (to.map txC)) := HT2.out.after k3
          have HMt : Hid (Pl W3 (fun g => g = GB) 4 1 (.slice (some ⟨GB, 0, none⟩) t.length t.length) (met.map blC)) := HM2.out.after k3
          have HQ : Hid (Pl W3 (fun g => GB < g ∧ g < B) 25 2 u5 (acc.map prC)) := HQ2.out.after k3
          have HB : Hid (Row W3 w.heap.size #[.slice none 0 0, .bool false] 57) := HB2.out.after k3
          have hB3 : B < W3.heap.size := Nat.lt_of_lt_of_le hBl k3.size
          have d1 := HR.out.has 1 HND.out.2.1
          clear HR3 HNw2 HT2 HM2 HQ2 HB2 k3 hBl hsw
          by_cases hlong : 16 < m.path.length ∨ 16 < e.length
          · have HN : Hid (readF t = none) := rd_none (k := k + 1) (by rw [rN_succ hrn.out]; exact rnode_bad HMD.out HEE.out (.inr (.inl hlong))) (by omega)
            by_cases hl1 : 16 < m.path.length
            · have hz1 : decide ((16 : Int) < (D.size : Int)) = true := decide_eq_true (by have := HSZ.out.1; omega)
              clear hlong hl1
              go_wp2_with (first
                | refine wpList_build0 (by rfl) 57 (by rfl) _ built37_0 ?_
                | (refine wpList_store_new (by rfl) 57 _ _ (by rfl) w.heap.size #[.slice none 0 0, .bool false] (by rfl) (by rfl) 57 _ HB.out i37 rfl (got_one _ _ _ _) ?_; intro Wz Rz Bz))
              exact bodyPost_ret (v := .agg #[.slice none 0 0, .bool false]) (results_cell (by rfl) _ _ w.heap.size 57 _ (0, 0) _ (by rfl) Rz Tryd.underlying57 rfl i37) rfl ⟨Bz.new HNw.out (Nat.le_refl _), .inl ⟨HN.out, rfl⟩⟩
            · have hz1 : decide ((16 : Int) < (D.size : Int)) = false := decide_eq_false (by have := HSZ.out.1; omega)
              have hz2 : decide ((16 : Int) < (E.size : Int)) = true := decide_eq_true (by have := HSZ.out.2; omega)
              clear hlong hl1
              go_wp2_with (first
                | refine wpList_build0 (by rfl) 57 (by rfl) _ built37_0 ?_
                | (refine wpList_store_new (by rfl) 57 _ _ (by rfl) w.heap.size #[.slice none 0 0, .bool false] (by rfl) (by rfl) 57 _ HB.out i37 rfl (got_one _ _ _ _) ?_; intro Wz Rz Bz))
              exact bodyPost_ret (v := .agg #[.slice none 0 0, .bool false]) (results_cell (by rfl) _ _ w.heap.size 57 _ (0, 0) _ (by rfl) Rz Tryd.underlying57 rfl i37) rfl ⟨Bz.new HNw.out (Nat.le_refl _), .inl ⟨HN.out, rfl⟩⟩
          · have hz1 : decide ((16 : Int) < (D.size : Int)) = false := decide_eq_false (by have := HSZ.out.1; omega)
            have hz2 : decide ((16 : Int) < (E.size : Int)) = false := decide_eq_false (by have := HSZ.out.2; omega)
            have HLG : Hid (¬ (16 < m.path.length ∨ 16 < e.length)) := hlong
            have d2 := HR.out.has 2 HND.out.2.2.1
            clear hlong
            cases hh
            have HK5 : Hid ((∀ q, rkid t.length k m.kind e m.kids to met 16 = some q → rN t (k + 1) = some (acc, q.1, q.2)) ∧ (rkid t.length k m.kind e m.kids to met 16 = none → rN t (k + 1) = none)) := by
              have hx := rnode_kids (s := (acc, to, met)) HMD.out HEE.out HNR.out HLG.out (by rw [HHE.out.1]; simp)
              rw [← rN_succ hrn.out, HHE.out.1] at hx
              exact ⟨fun q hq => by rw [hx, hq]; rfl, fun hq => by rw [hx, hq]⟩
            have HQ5 : Hid (Pl W3 (fun g => GB < g) 25 2 u5 (acc.map prC)) := HQ.out.mono fun b hb _ => hb.1
            generalize acc = acc' at HQ5 HK5
            have HR5 : Hid (Row W3 B (ndA m) 55) := HR.out
            have HT5 : Hid (Pl W3 (fun g => g = GA) 9 1 (.slice (some ⟨GA, 0, none⟩) t.length t.length) (to.map txC)) := HT.out
            have HM5 : Hid (Pl W3 (fun g => g = GB) 4 1 (.slice (some ⟨GB, 0, none⟩) t.length t.length) (met.map blC)) := HMt.out
            have HB5 : Hid (Row W3 w.heap.size #[.slice none 0 0, .bool false] 57) := HB.out
            have HN5 : Hid (New w W3) := HNw.out
            have hB5 : B < W3.heap.size := hB3
            generalize W3 = W5 at *
            go_wp2_with fail
            clear HR HNw HT HMt HB hB3 HQ d1 d2 hz1 hz2
            rotate_left
            obtain ⟨kb, hkb⟩ : ∃ b, keyB e = b := ⟨_, rfl⟩
            have HKB : Hid (keyB e = kb) := hkb
            have hky : ∀ W, Calls Tryd.prog 36 #[.string E] W fun x w' => x = .returned (.agg #[.string (if kb = true then bs (joinL e) else bs []), .bool kb]) ∧ New W w' := fun W => by
              have hk := refKey_any (bs e) (by rw [bs_size]; have := HLG.out; omega) W
              simp only [L_bs, hkb] at hk
              rw [HEB.out] at hk
              exact hk
            clear hkb
            cases kb
            · simp only [Bool.false_eq_true, if_false] at hky
              have HN : Hid (readF t = none) := rd_none (k := k + 1) (by rw [rN_succ hrn.out]; exact rnode_bad HMD.out HEE.out (.inr (.inr ⟨HHE.out.1, HKB.out⟩))) (by omega)
              go_wp2_with fail
              refine Calls.mono (hky _) ?_
              rintro _ W4 ⟨rfl, N4⟩
              have N4 : New W3 W4 := N4
              have HB4 := HB.out.after N4
              clear hky d1 d2
              go_wp2_with (first
                | (refine wpList_alloc_at (by rfl) 9 (by rfl) 79 (by rfl) _ _ _ info68 ?_; intro W6 R6 N6; have HB6 := HB4.after N6)
                | (refine wpList_store_new (by rfl) 79 _ _ (by rfl) W4.heap.size #[.string (bs []), .bool false] (by rfl) (by rfl) 79 _ R6 i68 rfl (key_one _ _) ?_; intro W7 R7 B7; have x1 := R7.has 1 (v := .bool false) rfl; have HB7 := HB6.of (B7.block _ (by have := HB4.lt; omega)))
                | refine wpList_build0 (by rfl) 57 (by rfl) _ built37_0 ?_
                | (refine wpList_store_new (by rfl) 57 _ _ (by rfl) w.heap.size #[.slice none 0 0, .bool false] (by rfl) (by rfl) 57 _ HB7 i37 rfl (got_one _ _ _ _) ?_; intro Wz Rz Bz))
              exact bodyPost_ret (v := .agg #[.slice none 0 0, .bool false]) (results_cell (by rfl) _ _ w.heap.size 57 _ (0, 0) _ (by rfl) Rz Tryd.underlying57 rfl i37) rfl ⟨Bz.new (B7.new ((HNw.out.trans N4).trans N6) (HNw.out.trans N4).size) (Nat.le_refl _), .inl ⟨HN.out, rfl⟩⟩
            have HK5 : Hid ((∀ q, rkid t.length k m.kind e m.kids to met 16 = some q → rN t (k + 1) = some (acc ++ [(joinL e, m.val)], q.1, q.2)) ∧ (rkid t.length k m.kind e m.kids to met 16 = none → rN t (k + 1) = none)) := by
              have hx := rnode_kids (s := (acc, to, met)) HMD.out HEE.out HNR.out HLG.out (by rw [HKB.out]; simp)
              rw [← rN_succ hrn.out, HHE.out.1] at hx
              exact ⟨fun q hq => by rw [hx, hq]; rfl, fun hq => by rw [hx, hq]⟩
            simp only [if_true] at hky
            have hacl : (acc.map prC).length = acc.length := List.length_map _
            go_wp2_with fail
            refine Calls.mono (hky _) ?_
            rintro _ W4 ⟨rfl, N4⟩
            have N4 : New W3 W4 := N4
            have HR4 := HR.out.after N4
            have hB4 : B < W4.heap.size := HR4.lt
            have Q4 := HQ.out.after N4
            clear hky d1 d2
            go_wp2_with (first
              | (refine wpList_alloc_at (by rfl) 9 (by rfl) 79 (by rfl) _ _ _ info68 ?_; intro W6 R6 N6)
              | (refine wpList_store_new (by rfl) 79 _ _ (by rfl) W4.heap.size #[.string (bs (joinL e)), .bool true] (by rfl) (by rfl) 79 _ R6 i68 rfl (key_one _ _) ?_; intro W7 R7 B7; have N7 : New W4 W7 := B7.new N6 (Nat.le_refl _); have x1 := R7.has 1 (v := .bool true) rfl; have x0 := R7.has 0 (v := .string (bs (joinL e))) rfl; have x3 := (HR4.after N7).has 3 HND.out.2.2.2; have Q7 := Q4.after N7)
              | refine wpList_build2 (by rfl) 25 _ _ (by rfl) _ _ (by rfl) (by rfl) _ (by rw [← HHE.out.2.2]; exact run_build52b (joinL e) m.val) ?_
              | (refine wpList_build_one (by rfl) 26 _ (by rfl) Tryd.underlying26 _ _ info52 (prC (joinL e, m.val)).toArray (by rfl) rfl (by decide) (by decide) ?_; intro W8 R8 N8; have Q8 := Q7.after N8)
              | (refine wpList_append_pl Q8 (by rfl) _ _ 26 (by rfl) Tryd.underlying26 _ _ info52 rfl (by decide) W7.heap.size (prC (joinL e, m.val)) 25 R8 rfl (prC_one _) (by omega) (by decide) (by rfl) (by rfl) ?_; intro g5 c5 W9 Q9 G9))
            have N38 : New W3 W8 := (N4.trans N7).trans N8
            have hown : ∀ b, some b = u5.ownBlock → GB < b ∧ b < B := fun b hb => Q8.foot b hb.symm
            have hB8 : B < W8.heap.size := Nat.lt_of_lt_of_le hB3 N38.size
            have HR5 : Hid (Row W9 B (ndA m) 55) := (HR.out.after N38).of (G9.block B hB8 (fun e => by have := hown _ e; omega))
            have HT5 : Hid (Pl W9 (fun g => g = GA) 9 1 (.slice (some ⟨GA, 0, none⟩) t.length t.length) (to.map txC)) := (HT.out.after N38).of (fun b hb hlt => G9.block b hlt (fun e => by have := hown _ e; omega)) (fun _ h _ => h)
            have HM5 : Hid (Pl W9 (fun g => g = GB) 4 1 (.slice (some ⟨GB, 0, none⟩) t.length t.length) (met.map blC)) := (HMt.out.after N38).of (fun b hb hlt => G9.block b hlt (fun e => by have := hown _ e; omega)) (fun _ h _ => h)
            have HB5 : Hid (Row W9 w.heap.size #[.slice none 0 0, .bool false] 57) := (HB.out.after N38).of (G9.block _ (by omega) (fun e => by have := hown _ e; omega))
            have HN5 : Hid (New w W9) := (HNw.out.trans N38).grown G9 (fun b hb => by have := hown _ hb.symm; omega)
            have HQ5 : Hid (Pl W9 (fun g => GB < g) 25 2 (.slice (some ⟨g5, 0, none⟩) (acc.length + 1) c5) ((acc ++ [(joinL e, m.val)]).map prC)) := by
              show Pl _ _ _ _ _ _
              rw [hacl] at Q9
              rw [List.map_append]
              exact Q9.mono fun b hb _ => hb.elim (fun h => h.1) (fun h => by omega)
            generalize acc ++ [(joinL e, m.val)] = acc' at HQ5 HK5
            have hB5 : B < W9.heap.size := HR5.out.lt
            clear HR4 R6 R7 B7 x1 x0 x3 Q7 R8 Q8 Q9 G9 Q4 hown N4 N6 N7 N8 hB4 hacl HR HNw HT HMt HB hB3 HQ hz1 hz2
            generalize W9 = W5 at *
            all_goals
              go_loopw [10] (fun i wz => ∃ (cc : Nat) (q : List Bt) (mt : List Bool), cc ≤ 16 ∧ i = .int .i64 (cc : Int) ∧ Hid (rkid t.length k m.kind e m.kids to met cc = some (q, mt)) ∧
                Hid (Pl wz (fun g => g = GA) 9 1 (.slice (some ⟨GA, 0, none⟩) t.length t.length) (q.map txC)) ∧ Hid (Pl wz (fun g => g = GB) 4 1 (.slice (some ⟨GB, 0, none⟩) t.length t.length) (mt.map blC)) ∧
                Hid (Step (fun g => g = GA ∨ g = GB) (fun g => g = GA ∨ g = GB) W5 wz)) (fun i _ => 16 - (intOf i).toNat)
              case atStart => exact ⟨0, to, met, by omega, rfl, rfl, HT5.out, HM5.out, Step.refl _ _⟩
              case round =>
                clear HT5 HM5
                obtain ⟨cc, q, mt, hcc, rfl, hkg, hPz, hMz, hSz⟩ := hrel
                have hN6 : New w wr := (Step.below hSz.out HN5.out HN5.out.size (fun b hb => by omega)).1
                have hBz : Hid (Row wr w.heap.size #[.slice none 0 0, .bool false] 57) := HB5.out.of (hSz.out.block _ (by omega) (fun h => by omega))
                by_cases hc16 : cc < 16
                · obtain ⟨x, hx⟩ : ∃ x, m.kids[cc]? = some x := ⟨m.kids[cc]'(by omega), List.getElem?_eq_getElem (by omega)⟩
                  have hRz : Row wr B (ndA m) 55 := HR5.out.of (hSz.out.block B hB5 (fun h => by omega))
                  have cx := hRz.has (4 + cc) (by unfold ndA ndC; rw [List.getElem?_toArray, show 4 + cc = cc + 1 + 1 + 1 + 1 by omega]; simp only [List.getElem?_cons_succ]; rw [List.getElem?_map, hx]; rfl : (ndA m)[4 + cc]? = some (.int .i64 x))
                  have hxD : m.kids.getD cc 0 = x := by rw [List.getD_eq_getElem?_getD, hx]; rfl
                  have hks := rkid_succ hkg.out
                  rw [hxD] at hks
                  have hok2 := rkid_ok (t := t) (by have := HLG.out; omega) htl hml (fun p hp => (HOK.out (Nat.le_of_lt hlt) hrn.out).path p hp) hkg.out
                  have hql : q.length = t.length := hok2.1
                  have hmtl : mt.length = t.length := hok2.2.1
                  by_cases hx0 : x = 0
                  · have hxb : (x == 0) = true := by simpa using hx0
                    have HKS : Hid (rkid t.length k m.kind e m.kids to met (cc + 1) = some (q, mt)) := by
                      show _ = _
                      rw [hks, if_pos hx0]
                    clear hx0 hks hx hxD hok2 hRz
                    go_wp2_with fail
                    exact ⟨⟨cc + 1, q, mt, by omega, by go_num, HKS.out, hPz.out, hMz.out, hSz.out⟩, by simp [intOf]; omega⟩
                  · have hxb : (x == 0) = false := by simpa using hx0
                    rw [if_neg hx0] at hks
                    have HN0 : Hid (rkid t.length k m.kind e m.kids to met (cc + 1) = none → readF t = none) := fun h => by
                      have h16 := rkid_none h (15 - cc)
                      rw [show cc + 1 + (15 - cc) = 16 by omega] at h16
                      exact rd_none (HK5.out.2 h16) (by omega)
                    by_cases hb1 : x ≤ (k : Int)
                    · have HN : Hid (readF t = none) := HN0.out (by rw [hks, if_pos (.inl hb1)])
                      have hd1 : decide (x ≤ (k : Int)) = true := decide_eq_true hb1
                      clear hb1 hx0 hks hx hxD hok2 hRz HN0
                      go_wp2_with (first
                        | refine wpList_build0 (by rfl) 57 (by rfl) _ built37_0 ?_
                        | (refine wpList_store_new (by rfl) 57 _ _ (by rfl) w.heap.size #[.slice none 0 0, .bool false] (by rfl) (by rfl) 57 _ hBz.out i37 rfl (got_one _ _ _ _) ?_; intro Wz Rz Bz))
                      exact bodyPost_ret (v := .agg #[.slice none 0 0, .bool false]) (results_cell (by rfl) _ _ w.heap.size 57 _ (0, 0) _ (by rfl) Rz Tryd.underlying57 rfl i37) rfl ⟨Bz.new hN6 (Nat.le_refl _), .inl ⟨HN.out, rfl⟩⟩
                    by_cases hb2 : (t.length : Int) ≤ x
                    · have HN : Hid (readF t = none) := HN0.out (by rw [hks, if_pos (.inr (.inl hb2))])
                      have hd1 : decide (x ≤ (k : Int)) = false := decide_eq_false hb1
                      have hd2 : decide ((t.length : Int) ≤ x) = true := decide_eq_true hb2
                      clear hb1 hb2 hx0 hks hx hxD hok2 hRz HN0
                      go_wp2_with (first
                        | refine wpList_build0 (by rfl) 57 (by rfl) _ built37_0 ?_
                        | (refine wpList_store_new (by rfl) 57 _ _ (by rfl) w.heap.size #[.slice none 0 0, .bool false] (by rfl) (by rfl) 57 _ hBz.out i37 rfl (got_one _ _ _ _) ?_; intro Wz Rz Bz))
                      exact bodyPost_ret (v := .agg #[.slice none 0 0, .bool false]) (results_cell (by rfl) _ _ w.heap.size 57 _ (0, 0) _ (by rfl) Rz Tryd.underlying57 rfl i37) rfl ⟨Bz.new hN6 (Nat.le_refl _), .inl ⟨HN.out, rfl⟩⟩
                    obtain ⟨j, rfl⟩ : ∃ j : Nat, x = (j : Int) := ⟨x.toNat, by omega⟩
                    have hjt : j < t.length := by omega
                    have hd1 : decide ((j : Int) ≤ (k : Int)) = false := decide_eq_false hb1
                    have hd2 : decide ((t.length : Int) ≤ (j : Int)) = false := decide_eq_false hb2
                    have hd3 : decide (j ≤ k) = false := decide_eq_false (by omega)
                    have hd4 : decide (t.length ≤ j) = false := decide_eq_false (by omega)
                    obtain ⟨mc, mf⟩ := bl_at hMz.out (k := j) (by omega)
                    by_cases hmj : mt.getD j false = true
                    · have HN : Hid (readF t = none) := HN0.out (by rw [hks, if_pos (.inr (.inr (by rw [Int.toNat_natCast]; exact hmj)))])
                      rw [hmj] at mc
                      clear hb1 hb2 hx0 hks hx hxD hok2 hRz HN0 mf hmj
                      go_wp2_with (first
                        | refine wpList_build0 (by rfl) 57 (by rfl) _ built37_0 ?_
                        | (refine wpList_store_new (by rfl) 57 _ _ (by rfl) w.heap.size #[.slice none 0 0, .bool false] (by rfl) (by rfl) 57 _ hBz.out i37 rfl (got_one _ _ _ _) ?_; intro Wz Rz Bz))
                      exact bodyPost_ret (v := .agg #[.slice none 0 0, .bool false]) (results_cell (by rfl) _ _ w.heap.size 57 _ (0, 0) _ (by rfl) Rz Tryd.underlying57 rfl i37) rfl ⟨Bz.new hN6 (Nat.le_refl _), .inl ⟨HN.out, rfl⟩⟩
                    have hmj : mt.getD j false = false := by simpa using hmj
                    rw [hmj] at mc
                    rw [Int.toNat_natCast, hmj] at hks
                    rw [if_neg (by simp; omega)] at hks
                    have HKS : Hid (rkid t.length k m.kind e m.kids to met (cc + 1) = some (q.set j (childP kd e cc), mt.set j true)) := by
                      show _ = _
                      rw [hks, HHE.out.2.1]
                    clear hb1 hb2 hx0 hks hx hxD hok2 HN0 hmj
                    have qc := tx_at hPz.out (k := j) (by omega)
                    have qf := tx_froz hPz.out j
                    have d0 := hRz.has 0 HND.out.1
                    have g1 : ¬ GA = GB := by omega
                    have g2 : ¬ GB = GA := by omega
                    have g3 : ¬ B = GA := by omega
                    have g4 : ¬ B = GB := by omega
                    have g5_ : ¬ GA = B := by omega
                    have g6 : ¬ GB = B := by omega
                    have hw8 : IntKind.u8.wrap (cc : Int) = (cc : Int) := by rw [IntKind.wrap_u8]; omega
                    have Pm := bl_set hMz.out (k := j) (by omega) true
                    have Pt := tx_set (hPz.out.of (w' := wr.setCell ⟨GB, j, none⟩ (.bool true)) (G := fun g => g = GA) (fun b hb _ => Below.heap_setCell _ _ _ _ (by show b ≠ GB; omega)) (fun _ h _ => h)) (k := j) (by omega) e
                    rw [HEB.out] at Pt
                    have Pm2 := Pm.of (w' := (wr.setCell ⟨GB, j, none⟩ (.bool true)).setCell ⟨GA, j, none⟩ (.string E)) (G := fun g => g = GB) (fun b hb _ => Below.heap_setCell _ _ _ _ (by show b ≠ GA; omega)) (fun _ h _ => h)
                    have S2 : Step (fun g => g = GA ∨ g = GB) (fun g => g = GA ∨ g = GB) W5 ((wr.setCell ⟨GB, j, none⟩ (.bool true)).setCell ⟨GA, j, none⟩ (.string E)) := hSz.out.trans ((Step.setCell (F := fun g => g = GA ∨ g = GB) wr (a := ⟨GB, j, none⟩) (.inr rfl) _).trans (Step.setCell (F := fun g => g = GA ∨ g = GB) _ (a := ⟨GA, j, none⟩) (.inl rfl) _))
                    have HPt : Hid (Pl ((wr.setCell ⟨GB, j, none⟩ (.bool true)).setCell ⟨GA, j, none⟩ (.string E)) (fun g => g = GA) 9 1 (.slice (some ⟨GA, 0, none⟩) t.length t.length) ((q.set j e).map txC)) := Pt
                    have HPm : Hid (Pl ((wr.setCell ⟨GB, j, none⟩ (.bool true)).setCell ⟨GA, j, none⟩ (.string E)) (fun g => g = GB) 4 1 (.slice (some ⟨GB, 0, none⟩) t.length t.length) ((mt.set j true).map blC)) := Pm2
                    have HS2 : Hid (Step (fun g => g = GA ∨ g = GB) (fun g => g = GA ∨ g = GB) W5 ((wr.setCell ⟨GB, j, none⟩ (.bool true)).setCell ⟨GA, j, none⟩ (.string E))) := S2
                    clear Pm Pt Pm2 S2 hRz
                    by_cases hk3 : kd = 3
                    · subst hk3
                      have HCP : Hid (childP 3 e cc = e ++ [UInt8.ofNat cc]) := if_pos rfl
                      go_wp2_with fail
                      clear qc qf mc mf cx d0
                      generalize (wr.setCell ⟨GB, j, none⟩ (.bool true)).setCell ⟨GA, j, none⟩ (.string E) = Wq at *
                      have hc16' := hc16
                      have hE3 : E ++ bs [UInt8.ofNat cc] = bs (e ++ [UInt8.ofNat cc]) := by rw [← HEB.out]; exact eq_of_L (by rw [L_append, L_bs, L_bs, L_bs])
                      have hEs : E.size ≤ 16 := by have := HSZ.out.2; have := HLG.out; omega
                      have hjq : j < (q.set j e).length := by rw [List.length_set]; omega
                      have cq : Wq.cell? ⟨GA, j, none⟩ = some (.string E) := by
                        have := tx_at HPt.out hjq
                        rw [List.getD_eq_getElem?_getD, List.getElem?_set_self (by omega), Option.getD_some, HEB.out] at this
                        exact this
                      have hS : HasL [(GA, j, .string E)] Wq.drew := HasL.of fun x hx => by
                        simp only [List.mem_cons, List.not_mem_nil, or_false] at hx
                        rcases hx with rfl
                        exact cq
                      refine region_take [0, 1, 2, 3, 4] [5, 6, 7, 8, 9] 10 (HasL [(GA, j, .string E)]) hS (by kernel_rfl) (by kernel_rfl) (fun d _ _ _ _ h => by cases d <;> exact h) ?_
                      simp only [pick, List.getElem?_cons_succ, List.getElem?_cons_zero, Option.toList_some, List.cons_append, List.nil_append]
                      have hne : Nonempty (CsW [(GA, j, .string E)]) := ⟨hS.choose⟩
                      have q0 : ∀ q : CsW [(GA, j, .string E)], q.v.cell? ⟨GA, j, none⟩ = some (.string E) := fun q => q.h (GA, j, .string E) (by simp)
                      unfold HasL
                      repeat (go_big_quiet_step (fail))
                      refine wpQuiet_nil ?_
                      clear q0 hne
                      refine wpPre_run (some 113) (.int .u8 (cc : Int)) Wq.drew (by rfl) (by rfl) (by rfl) (by go_simp) hS ?_
                      simp only [Act.put, List.setIfInBounds_toArray, List.set_cons_zero, List.set_cons_succ]
                      have hb1' : (Instr.buildSlice 50 1 #[(0, .int .u8 (cc : Int))]).run Tryd.prog Wq.drew = .ok (.slice (some ⟨Wq.heap.size, 0, none⟩) 1 1) (Wq.drew.alloc (.cells #[.int .u8 (cc : Int)] 5)) := run_buildCell (P := Tryd.prog) Wq.drew 50 5 (.int .u8 (cc : Int)) _ _ Tryd.underlying50 info5 rfl
                      have Rw : Row (Wq.drew.alloc (.cells #[.int .u8 (cc : Int)] 5)) Wq.heap.size #[.int .u8 (cc : Int)] 5 := Row.new Wq.drew _ 5
                      have Nd_ : New Wq.drew (Wq.drew.alloc (.cells #[.int .u8 (cc : Int)] 5)) := (New.refl _).alloc _
                      have hcv := conv_byteR hc16' (Wq.drew.alloc (.cells #[.int .u8 (cc : Int)] 5)) Wq.heap.size (Rw.has 0 rfl)
                      generalize Wq.drew.alloc (.cells #[.int .u8 (cc : Int)] 5) = Wn at hb1' Rw Nd_ hcv
                      have hSn := hS.new Nd_
                      refine wpPre_run (some 114) (.slice (some ⟨Wq.heap.size, 0, none⟩) 1 1) Wn (by rfl) (by rfl) (by rfl) (exec_buildSlice (by rfl) (by rfl) hb1') hSn ?_
                      simp only [Act.put, List.setIfInBounds_toArray, List.set_cons_zero, List.set_cons_succ]
                      refine wpPre_run (some 115) (.string (bs [UInt8.ofNat cc])) Wn (by rfl) (by rfl) (by rfl) (exec_convert (by rfl) (by rfl) hcv) hSn ?_
                      simp only [Act.put, List.setIfInBounds_toArray, List.set_cons_zero, List.set_cons_succ]
                      have hsz1 : (bs [UInt8.ofNat cc]).size ≤ 1 := Nat.le_refl _
                      have hadd : ∀ w : World, (Op.stringOp .add E (bs [UInt8.ofNat cc])).run Tryd.prog w = .ok (.string (bs (e ++ [UInt8.ofNat cc]))) w := fun w => by
                        unfold Op.stringOp
                        simp only []
                        rw [if_neg (by show ¬ (((E.size + (bs [UInt8.ofNat cc]).size : Nat) : Int) > 9223372036854775807); omega), hE3]; rfl
                      refine wpPre_run (some 116) (.string (bs (e ++ [UInt8.ofNat cc]))) Wn (by rfl) (by rfl) (by rfl) (by go_simp) hSn ?_
                      simp only [Act.put, List.setIfInBounds_toArray, List.set_cons_zero, List.set_cons_succ]
                      refine wpPre_run (some 117) (.pointer (some ⟨GA, j, none⟩)) Wn (by rfl) (by rfl) (by rfl) (by go_simp) hSn ?_
                      simp only [Act.put, List.setIfInBounds_toArray, List.set_cons_zero, List.set_cons_succ]
                      refine wpPre_nil ?_
                      have Nw : New Wq Wn := (New.drew Wq).trans Nd_
                      have Pn := HPt.out.after Nw
                      have cn := hSn.tell (GA, j, .string E) (by simp)
                      have fn := tx_froz Pn j
                      have Pn2 := tx_set Pn hjq (e ++ [UInt8.ofNat cc])
                      rw [List.set_set] at Pn2
                      have Pm3 := (HPm.out.after Nw).of (w' := Wn.setCell ⟨GA, j, none⟩ (.string (bs (e ++ [UInt8.ofNat cc])))) (G := fun g => g = GB) (fun b hb _ => Below.heap_setCell _ _ _ _ (by show b ≠ GA; omega)) (fun _ h _ => h)
                      have S3 := HS2.out.trans ((Step.new (F := fun g => g = GA ∨ g = GB) Nw).trans (Step.setCell (F := fun g => g = GA ∨ g = GB) Wn (a := ⟨GA, j, none⟩) (.inl rfl) (.string (bs (e ++ [UInt8.ofNat cc])))))
                      have HP3 : Hid (Pl (Wn.setCell ⟨GA, j, none⟩ (.string (bs (e ++ [UInt8.ofNat cc])))) (fun g => g = GA) 9 1 (.slice (some ⟨GA, 0, none⟩) t.length t.length) ((q.set j (childP 3 e cc)).map txC)) := by
                        show Pl _ _ _ _ _ _
                        rw [HCP.out]; exact Pn2
                      clear Pn Pn2 hcv hb1' Rw Nd_ hadd hE3 hS cq
                      go_wp2_with fail
                      exact ⟨⟨cc + 1, q.set j (childP 3 e cc), mt.set j true, by omega, by go_num, HKS.out, HP3.out, Pm3, S3⟩, by simp [intOf]; omega⟩
                    · have HCP : Hid (childP kd e cc = e) := if_neg hk3
                      go_wp2_with fail
                      exact ⟨⟨cc + 1, q.set j (childP kd e cc), mt.set j true, by omega, by go_num, HKS.out, by rw [HCP.out]; exact HPt.out, HPm.out, HS2.out⟩, by simp [intOf]; omega⟩
                · obtain rfl : cc = 16 := by omega
                  have HG6 := HK5.out.1 _ hkg.out
                  have HG : Hid (rN t (k + 1) = some (acc', q, mt)) := HG6
                  clear HG6
                  go_wp2_with fail
                  exact ⟨⟨k + 1, acc', q, mt, by omega, by go_num, HG.out, HQ5.out.of (fun b hb hlt => hSz.out.block b hlt (fun h => by omega)) (fun _ h _ => h), hPz.out, hMz.out, hBz.out, hN6, Nat.lt_of_lt_of_le (show GB < W5.heap.size by omega) hSz.out.size⟩, by simp [intOf]; omega⟩
    · obtain rfl : k = t.length := by omega
      have hok := HOK.out (Nat.le_refl _) hrn.out
      have hal : acc.length ≤ t.length := hok.few
      obtain ⟨a5, c5, rfl, _⟩ := hq5.out.form
      have hbb := rbuild_any hq5.out.ls (by omega) (fun p hp => ⟨by have := (hok.pair p hp).1; omega, (hok.pair p hp).2⟩)
      rw [List.length_map] at hq5 hbb
      rw [List.length_map]
      clear hok
      go_wp2_with fail
      refine Calls.mono hbb ?_
      rintro _ Wb ⟨Nb, ⟨hm, rfl⟩ | ⟨hm, vt, vp, rfl, Qt, Qp⟩⟩
      · have HN : Hid (readF t = none) := rd_acc hrn.out (fun h => by rw [h.1] at hm; cases hm)
        have HBb := hRB.out.after Nb
        clear hm hbb
        go_wp2_with (first
            | (refine wpList_alloc_at (by rfl) 12 (by rfl) 43 (by rfl) _ _ _ info32 ?_; intro W6 R6 N6)
            | (refine wpList_store_new (by rfl) 43 _ _ (by rfl) Wb.heap.size #[.slice none 0 0, .slice none 0 0, .bool false] (by rfl) (by rfl) 43 _ R6 i32 rfl (both_one _ _ _ _ _ _ _) ?_; intro W7 R7 B7; have N7 : New Wb W7 := B7.new N6 (Nat.le_refl _); have x2 := R7.has 2 (v := .bool false) rfl; have HB7 := HBb.after N7)
            | refine wpList_build0 (by rfl) 57 (by rfl) _ built37_0 ?_
            | (refine wpList_store_new (by rfl) 57 _ _ (by rfl) w.heap.size #[.slice none 0 0, .bool false] (by rfl) (by rfl) 57 _ HB7 i37 rfl (got_one _ _ _ _) ?_; intro Wz Rz Bz))
        exact bodyPost_ret (v := .agg #[.slice none 0 0, .bool false]) (results_cell (by rfl) _ _ w.heap.size 57 _ (0, 0) _ (by rfl) Rz Tryd.underlying57 rfl i37) rfl ⟨Bz.new ((N.trans Nb).trans N7) (Nat.le_refl _), .inl ⟨HN.out, rfl⟩⟩
      · have hk16 := build_k16 hm
        have hbf := build_few hm
        have HM1 : Hid (mayB acc = true) := hm
        have HBb := hRB.out.after Nb
        obtain ⟨at_, ct, rfl, _⟩ := Qt.form
        obtain ⟨ap, cp, rfl, _⟩ := Qp.form
        obtain ⟨nt, hnt⟩ : ∃ n, ((buildN acc).map ndC).length = n := ⟨_, rfl⟩
        obtain ⟨np, hnp⟩ : ∃ n, (((trieL acc).map (·.2)).map txC).length = n := ⟨_, rfl⟩
        rw [hnt] at Qt
        rw [hnt, hnp]
        have hsm := fun {W : World} (n : New Wb W) => refSame_any (Qt.ls.after n) (HPT.out.after (((N.trans Nb)).trans n)) hk16 HTK.out.k16 (by omega) (by omega)
        obtain ⟨db, hdb⟩ : ∃ b, decide (buildN acc = t) = b := ⟨_, rfl⟩
        rw [hdb] at hsm
        have HDB : Hid (decide (buildN acc = t) = db) := hdb
        clear hm hbb Qp hk16 hdb hnt hnp
        cases db
        · have HN : Hid (readF t = none) := rd_acc hrn.out (fun h => of_decide_eq_false HDB.out h.2)
          go_wp2_with (first
            | (refine wpList_alloc_at (by rfl) 12 (by rfl) 43 (by rfl) _ _ _ info32 ?_; intro W6 R6 N6)
            | (refine wpList_store_new (by rfl) 43 _ _ (by rfl) Wb.heap.size #[.slice at_ nt ct, .slice ap np cp, .bool true] (by rfl) (by rfl) 43 _ R6 i32 rfl (both_one _ _ _ _ _ _ _) ?_; intro W7 R7 B7; have N7 : New Wb W7 := B7.new N6 (Nat.le_refl _); have x2 := R7.has 2 (v := .bool true) rfl; have x0 := R7.has 0 (v := .slice at_ nt ct) rfl)
            | (go_at_call 37; refine Calls.mono (hsm N7) ?_; rintro _ W8 ⟨rfl, N8⟩; have HB7 := (HBb.after N7).after N8)
            | refine wpList_build0 (by rfl) 57 (by rfl) _ built37_0 ?_
            | (refine wpList_store_new (by rfl) 57 _ _ (by rfl) w.heap.size #[.slice none 0 0, .bool false] (by rfl) (by rfl) 57 _ HB7 i37 rfl (got_one _ _ _ _) ?_; intro Wz Rz Bz))
          exact bodyPost_ret (v := .agg #[.slice none 0 0, .bool false]) (results_cell (by rfl) _ _ w.heap.size 57 _ (0, 0) _ (by rfl) Rz Tryd.underlying57 rfl i37) rfl ⟨Bz.new (((N.trans Nb).trans N7).trans N8) (Nat.le_refl _), .inl ⟨HN.out, rfl⟩⟩
        · obtain ⟨s, hs, hsa⟩ := rN_read.2 acc to met hrn.out HM1.out (of_decide_eq_true HDB.out)
          have HSS : Hid (readF t = some s ∧ s.1 = acc) := ⟨hs, hsa⟩
          clear hs hsa
          go_wp2_with (first
            | (refine wpList_alloc_at (by rfl) 12 (by rfl) 43 (by rfl) _ _ _ info32 ?_; intro W6 R6 N6)
            | (refine wpList_store_new (by rfl) 43 _ _ (by rfl) Wb.heap.size #[.slice at_ nt ct, .slice ap np cp, .bool true] (by rfl) (by rfl) 43 _ R6 i32 rfl (both_one _ _ _ _ _ _ _) ?_; intro W7 R7 B7; have N7 : New Wb W7 := B7.new N6 (Nat.le_refl _); have x2 := R7.has 2 (v := .bool true) rfl; have x0 := R7.has 0 (v := .slice at_ nt ct) rfl)
            | (go_at_call 37; refine Calls.mono (hsm N7) ?_; rintro _ W8 ⟨rfl, N8⟩; have HB7 := (HBb.after N7).after N8)
            | refine wpList_build2 (by rfl) 57 _ _ (by rfl) _ _ (by rfl) (by rfl) _ (built37_1 _ _ _) ?_
            | (refine wpList_store_new (by rfl) 57 _ _ (by rfl) w.heap.size #[.slice a5 acc.length c5, .bool true] (by rfl) (by rfl) 57 _ HB7 i37 rfl (got_one _ _ _ _) ?_; intro Wz Rz Bz))
          exact bodyPost_ret (v := .agg #[.slice a5 acc.length c5, .bool true]) (results_cell (by rfl) _ _ w.heap.size 57 _ (0, 0) _ (by rfl) Rz Tryd.underlying57 rfl i37) rfl ⟨Bz.new (((N.trans Nb).trans N7).trans N8) (Nat.le_refl _), .inr ⟨s, _, HSS.out.1, rfl, by
            rw [HSS.out.2]
            exact ((((hq5.out.after Nb).after N7).after N8).but Bz (by omega)).mono (fun b hb _ => by have : GB < b := hb; show w.heap.size ≤ b; omega)⟩⟩

end Go.Proofs.YtjpjcojabjkaaaaDoor
namespace Go.Proofs.YtjpjcojabjkaaaaDoor
open Go.RowKit
set_option maxRecDepth 20000
/-- A slice copied behind nothing, an empty one too. -/
theorem run_copy_all {w : World} (T t ty : TypeId) (k : Nat) (z : Value) (bytes : Nat) (hT : Tryd.prog.underlying T = some (.slice t)) (hi : (Tryd.prog.info? t).map (fun i => (i.zero, i.size, i.bytes)) = some (some z, k, bytes)) (hz : z.cells.size = k) (hk : 0 < k) (hb : bytes ≤ 1000)
    {v : Value} {es : List (List Value)} (P : Ls w k v es) (he : ∀ e ∈ es, e.length = k) (hone : ∀ e ∈ es, ∀ u ∈ e, u.oneCell' = true) (hn : es.length ≤ 1000000) :
    ∃ v' w', (Builtin.append_ #[T, T] ty #[.slice (some ⟨w.heap.size, 0, none⟩) 0 0, v]).run Tryd.prog (w.alloc (.cells #[] t)) = .ok v' w' ∧ Pl w' (Fresh w) t k v' es ∧ New w w' := by
  have N : New w (w.alloc (.cells #[] t)) := (New.refl w).alloc _
  by_cases h0 : 0 < es.length
  · obtain ⟨v', w', h1, h2, h3, _⟩ := run_copy_ls T t ty k z bytes hT hi hz hk hb P he hone h0 hn (Row.new w #[] t) N (Nat.le_refl _)
    exact ⟨v', w', h1, h2, h3⟩
  · obtain ⟨i0, hi0, hz0, hz1, hz2⟩ := info_parts hi
    obtain rfl : es = [] := List.eq_nil_of_length_eq_zero (by omega)
    obtain ⟨a, c, rfl, _⟩ := P
    refine ⟨.slice (some ⟨w.heap.size, 0, none⟩) 0 0, w.alloc (.cells #[] t), ?_, ⟨(fun e he => by cases he), ⟨by simp, .inr ⟨w.heap.size, 0, #[], rfl, Nat.zero_le _, Row.new w #[] t, Nat.le_refl _, by unfold maxLen; omega, by simp, by simp⟩⟩, (fun g hg => by cases hg; exact Nat.le_refl _)⟩, N⟩
    cases a with
    | none => simp [Builtin.append_, run_underlying hT, sizeOf, typeInfo, hi0, Builtin.lenOf, Builtin.firstCells, storeCells]
    | some x =>
      have hld := run_loadCells_list (P := Tryd.prog) (w.alloc (.cells #[] t)) x [] (fun j v hv => by simp at hv)
      rw [List.length_nil] at hld
      simp [Builtin.append_, run_underlying hT, sizeOf, typeInfo, hi0, Builtin.lenOf, Builtin.firstCells, storeCells, hld]

theorem field_paths (a : Option Addr) (n c : Nat) (b : Option Addr) (m d : Nat) (x : Bool) (w : World) : (Instr.field 43 (.agg #[.slice a n c, .slice b m d, .bool x]) 1).run Tryd.prog w = .ok (.slice b m d) w := by
  simp [Instr.field, run_underlying Tryd.underlying43, asAgg, part, Tryd.isAgg41, Tryd.sizeOf41]
def bX (l : List Pr) : List Nd := if mayB l then buildN l else []
def pX (l : List Pr) : List Bt := if mayB l then (trieL l).map (·.2) else []
def rL (t : List Nd) : List Pr := match readF t with | none => [] | some s => s.1
def rP (t : List Nd) : List Bt := match readF t with | none => [] | some s => s.2
theorem Ls.nil (w : World) (k : Nat) : Ls w k (.slice none 0 0) [] := ⟨none, 0, rfl, Nat.le_refl _, fun h => absurd rfl h⟩
theorem t_build {w : World} {v : Value} {l : List Pr} (P : Ls w 2 v (l.map prC)) (hl : l.length ≤ 10000) (hk : ∀ p ∈ l, p.1.length ≤ 4000 ∧ p.2.length ≤ 4000) :
    Calls Tryd.prog 48 #[v] w fun e w' => ∃ va, e = .returned (.tuple #[va, .bool (mayB l)]) ∧ Ls w' 20 va ((bX l).map ndC) ∧ New w w' := by
  cases h : mayB l
  · refine (build_no P hl hk h).mono ?_
    rintro e w' ⟨rfl, n⟩
    exact ⟨_, rfl, by unfold bX; rw [h]; exact Ls.nil _ _, n⟩
  · refine (build_yes P hl hk h).mono ?_
    rintro e w' ⟨va, rfl, Q, n⟩
    exact ⟨_, rfl, by unfold bX; rw [h]; exact Q.ls, n⟩
theorem r_build {w : World} {v : Value} {l : List Pr} (P : Ls w 2 v (l.map prC)) (hl : l.length ≤ 10000) (hk : ∀ p ∈ l, p.1.length ≤ 4000 ∧ p.2.length ≤ 4000) :
    Calls Tryd.prog 19 #[v] w fun e w' => ∃ (a : Option Addr) (n c : Nat) (b : Option Addr) (m d : Nat), e = .returned (.agg #[.slice a n c, .slice b m d, .bool (mayB l)]) ∧ Ls w' 20 (.slice a n c) ((bX l).map ndC) ∧ Ls w' 1 (.slice b m d) ((pX l).map txC) ∧ New w w' := by
  refine (rbuild_any P hl hk).mono ?_
  rintro e w' ⟨n, ⟨h, rfl⟩ | ⟨h, vt, vp, rfl, Q1, Q2⟩⟩
  · exact ⟨_, _, _, _, _, _, by rw [h], by unfold bX; rw [h]; exact Ls.nil _ _, by unfold pX; rw [h]; exact Ls.nil _ _, n⟩
  · obtain ⟨a, c, rfl, _⟩ := Q1.form
    obtain ⟨b, d, rfl, _⟩ := Q2.form
    exact ⟨_, _, _, _, _, _, by rw [h], by unfold bX; rw [h]; exact Q1.ls, by unfold pX; rw [h]; exact Q2.ls, n⟩
theorem r_pairs {w : World} {v : Value} {t : List Nd} (P : Ls w 20 v (t.map ndC)) (K : TOk t) :
    Calls Tryd.prog 22 #[v] w fun e w' => ∃ (a : Option Addr) (n c : Nat), e = .returned (.agg #[.slice a n c, .bool (readF t).isSome]) ∧ Ls w' 2 (.slice a n c) ((rL t).map prC) ∧ New w w' := by
  refine (rpairs_any P K).mono ?_
  rintro e w' ⟨n, ⟨h, rfl⟩ | ⟨s, va, h, rfl, Q⟩⟩
  · exact ⟨_, _, _, by rw [h]; rfl, by unfold rL; rw [h]; exact Ls.nil _ _, n⟩
  · obtain ⟨a, c, rfl, _⟩ := Q.form
    exact ⟨_, _, _, by rw [h]; rfl, by unfold rL; rw [h]; exact Q.ls, n⟩
theorem bX_ok (l : List Pr) : (∀ x ∈ bX l, x.kids.length = 16) ∧ (bX l).length ≤ 3 * l.length := by
  unfold bX
  cases h : mayB l
  · exact ⟨fun x hx => by simp at hx, by simp⟩
  · exact ⟨build_k16 h, build_few h⟩
theorem rL_ok {t : List Nd} (K : TOk t) : (rL t).length ≤ 10000 ∧ (∀ p ∈ rL t, p.1.length ≤ 4000 ∧ p.2.length ≤ 4000) ∧ (rP t).length ≤ 30000 ∧ (readF t ≠ none → pX (rL t) = rP t) ∧ (readF t = none → rP t = []) := by
  unfold rL rP
  cases h : readF t with
  | none => exact ⟨by simp, fun p hp => by simp at hp, by simp, fun h => absurd rfl h, fun _ => rfl⟩
  | some s =>
    obtain ⟨h1, h2, h3⟩ := readF_ok h
    have hf := readF_few K h
    refine ⟨hf, fun p hp => ?_, ?_, fun _ => ?_, fun h => by cases h⟩
    · have := okP_key p ((mayB_rise _ h1).2 p hp); omega
    · show s.2.length ≤ 30000
      rw [h3, List.length_map]
      have := build_few h1
      unfold buildN at this
      rw [List.length_map] at this
      omega
    · show pX s.1 = s.2
      unfold pX; rw [h1, h3]; rfl

end Go.Proofs.YtjpjcojabjkaaaaDoor
namespace Go.Proofs.YtjpjcojabjkaaaaDoor.trieTells
set_option linter.unusedVariables false

end Go.Proofs.YtjpjcojabjkaaaaDoor.trieTells
namespace Go.Proofs.YtjpjcojabjkaaaaDoor
end Go.Proofs.YtjpjcojabjkaaaaDoor
