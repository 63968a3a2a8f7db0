/-
  What the document's own disk leaves behind a crash. Two lists of writes that are alike; what a disk leaves behind Shrink.
-/
import Derived.Test.YtkcoclpbkealgaaDoorGar
import Derived.Lib.ConvBytes
import Derived.Test.YtkcoclpbkealgaaDoorGaq
namespace Go.Proofs.YtkcoclpbkealgaaDoor
open Go.RowKit
set_option maxRecDepth 20000

theorem put_snoc {α : Type} (l r : List α) (o : Nat) (v : α) (h : o + r.length < l.length) : put l o (r ++ [v]) = (put l o r).set (o + r.length) v := by
  apply List.ext_getElem?
  intro j
  have hl : (put l o r).length = l.length := put_length _ _ _ (by omega)
  by_cases e : j = o + r.length
  · subst e
    rw [List.getElem?_set_self (by omega), get_put_in l o (r ++ [v]) (by omega) r.length (by simp), List.getElem?_append_right (Nat.le_refl _), Nat.sub_self]; rfl
  · rw [List.getElem?_set_ne (Ne.symm e)]
    by_cases h1 : o ≤ j ∧ j < o + r.length
    · obtain ⟨k, rfl⟩ : ∃ k, j = o + k := ⟨j - o, by omega⟩
      rw [get_put_in _ _ _ (by omega) _ (by simp; omega), get_put_in _ _ _ (by omega) _ (by omega), List.getElem?_append_left (by omega)]
    · rw [get_put_out _ _ _ (by simp; omega) _ (by simp; omega), get_put_out _ _ _ (by omega) _ (by omega)]
/-- The first j bytes of sector s of b over a. -/
def tearK (a b : List UInt8) (s j : Nat) : List UInt8 := put a (64 * s) ((sec b s).take j)
theorem tearK_zero (a b : List UInt8) (s : Nat) : tearK a b s 0 = a := by unfold tearK; rw [List.take_zero, put_nil]
theorem tearK_full {a b : List UInt8} (hb : b.length = 256) {s : Nat} (hs : s < 4) : tearK a b s 64 = put a (64 * s) (sec b s) := by
  unfold tearK; rw [List.take_of_length_le (by rw [sec_length hb hs]; exact Nat.le_refl _)]
theorem tearK_length {a b : List UInt8} (ha : a.length = 256) {s j : Nat} (hs : s < 4) (hj : j ≤ 64) : (tearK a b s j).length = 256 := by
  unfold tearK
  rw [put_length _ _ _ (by rw [List.length_take, ha]; omega), ha]
theorem tearK_next {a b : List UInt8} (ha : a.length = 256) (hb : b.length = 256) {s j : Nat} (hs : s < 4) (hj : j < 64) : (tearK a b s j).set (64 * s + j) (b.getD (64 * s + j) 0) = tearK a b s (j + 1) := by
  unfold tearK
  have hl := sec_length hb hs
  have hlt : ((sec b s).take j).length = j := by rw [List.length_take]; omega
  have e : (sec b s).take (j + 1) = (sec b s).take j ++ [b.getD (64 * s + j) 0] := by
    rw [List.take_add_one, List.getElem?_eq_getElem (by omega)]
    congr 1
    have := List.getElem?_eq_getElem (l := sec b s) (i := j) (by omega)
    unfold sec at this
    rw [List.getElem?_take, if_pos hj, List.getElem?_drop] at this
    rw [List.getD_eq_getElem?_getD, this]; rfl
  rw [e, put_snoc _ _ _ _ (by rw [hlt, ha]; omega), hlt]

/-- The bytes lie in block B, and may be written. -/
def Lies (w : World) (B : Nat) (l : List UInt8) : Prop :=
  (∀ (j : Nat) c, l[j]? = some c → w.cell? ⟨B, j, none⟩ = some (.int .u8 (c.toNat : Int))) ∧ ∀ j : Nat, j < l.length → w.frozen? ⟨B, j, none⟩ = false
theorem Lies.set {w : World} {B : Nat} {l : List UInt8} (h : Lies w B l) (j : Nat) (hj : j < l.length) (c : UInt8) : Lies (w.setCell ⟨B, j, none⟩ (.int .u8 (c.toNat : Int))) B (l.set j c) := by
  refine ⟨fun i d hd => ?_, fun i hi => ?_⟩
  · by_cases e : i = j
    · subst e
      rw [List.getElem?_set_self hj] at hd
      cases hd
      exact World.cell?_setCell_same' _ _ _ (by rw [h.1 i _ (List.getElem?_eq_getElem hj)]; rfl)
    · rw [List.getElem?_set_ne (Ne.symm e)] at hd
      rw [World.cell?_setCell_other _ _ _ _ (by simp)]
      exact h.1 i d hd
  · rw [List.length_set] at hi
    have := h.2 i hi
    simpa using this
theorem Lies.lt {w : World} {B : Nat} {l : List UInt8} (h : Lies w B l) (h0 : 0 < l.length) : B < w.heap.size := World.block_lt_of_cell? w _ (h.1 0 _ (List.getElem?_eq_getElem h0))
theorem Lies.after {w w' : World} {B : Nat} {l : List UInt8} (h : Lies w B l) (k : New w w') (h0 : 0 < l.length) : Lies w' B l := by
  have hb := h.lt h0
  refine ⟨fun j c hc => (k.cell (p := ⟨B, j, none⟩) hb).trans (h.1 j c hc), fun j hj => ?_⟩
  rw [← h.2 j hj]
  unfold World.frozen?
  rw [k.block B hb]
theorem conv_text (s : ByteArray) (w : World) : ∃ (w1 : World) (cap : Nat), (convert 9 22 (.string s)).run Tryd.prog w = .ok (.slice (some ⟨w.heap.size, 0, none⟩) s.size cap) w1 ∧ New w w1 ∧ Lies w1 w.heap.size (L s) := by
  refine ⟨_, _, Lib.run_convert_string_bytes w 9 22 5 s Tryd.underlying9 Tryd.underlying22 Tryd.underlying5, ?_, ?_, ?_⟩
  · exact ⟨rfl, rfl, rfl, by rw [Lib.bytesWorld_size]; omega, fun k hk => Lib.bytesWorld_at_old w 5 s k (by omega)⟩
  · intro j c hc
    have hj : j < s.size := by rw [← L_size]; exact (List.getElem?_eq_some_iff.1 hc).1
    rw [Lib.bytesWorld_cell w 5 s j hj]
    have : s.data.toList.getD j 0 = c := by rw [List.getD_eq_getElem?_getD]; rw [show s.data.toList[j]? = some c from hc]; rfl
    rw [this]
  · intro j hj
    rw [L_size] at hj
    have hb : j < (Lib.bytesCells w 5 s).size := by
      unfold Lib.bytesCells
      simp
      have : s.data.size = s.size := rfl
      omega
    unfold World.frozen?
    simp only [Lib.bytesWorld_at_new]
    simp
    omega
theorem conv_back {w : World} {B n cap : Nat} {l : List UInt8} (hn : l.length = n) (h : Lies w B l) :
    (convert 22 9 (.slice (some ⟨B, 0, none⟩) n cap)).run Tryd.prog w = .ok (.string (bs l)) w := by
  subst hn
  exact run_convert_bytes_back w 22 9 5 ⟨B, 0, none⟩ cap l Tryd.underlying22 Tryd.underlying5 Tryd.underlying9 (fun j hj => by
    have ha : (Addr.add ⟨B, 0, none⟩ j) = ⟨B, j, none⟩ := by simp [Addr.add]; intro h; exact h.symm
    rw [ha]
    exact h.1 j _ (List.getElem?_eq_getElem hj))


theorem bs_get (l : List UInt8) (m : Nat) (h : m < (bs l).size) : (bs l)[m] = l.getD m 0 := by
  have := L_get (bs l) m h
  rw [L_bs] at this
  rw [List.getD_eq_getElem?_getD, this]; rfl
theorem bit_letter (c k : Nat) (hc : c < 256) : (bits .and .u8 ((c : Int) / 2 ^ k) 1 == 1) = bitOf c k := by
  have h := bit_test c k hc
  rw [Int.natCast_ediv, Int.natCast_pow] at h
  rw [show ((2 : Nat) : Int) = 2 from rfl] at h
  rw [h]
  cases bitOf c k <;> rfl

set_option maxRecDepth 20000 in
set_option maxHeartbeats 4000000 in
theorem refcrash_any {w : World} {F : Nat → Prop} {p : Nat} {S : St} (D : Rd w F p S) (a : Option Addr) (c : Nat) (cs : List UInt8) (hB : Bytes w a cs) (hF : 0 < cs.length → ∀ x, a = some x → ¬ F x.block) (hcs : cs.length ≤ 4611686018427387904) :
    Calls Tryd.prog 26 #[.pointer (some ⟨p, 0, none⟩), .slice a cs.length c] w fun e w' => e = .returned (.tuple #[]) ∧ RLeft F p w (S.crash cs) w' := by
  have HD : Hid (Rd w F p S) := D
  have hfew := D.ok.few
  have HB : Hid (Bytes w a cs ∧ (0 < cs.length → ∀ x, a = some x → ¬ F x.block)) := ⟨hB, hF⟩
  clear hB hF D
  obtain ⟨K, hK⟩ : ∃ K, min cs.length S.ws.length = K := ⟨_, rfl⟩
  have HC : Hid (S.crash cs = { S with ps := crashN S.ps S.ws cs K, ws := [], fuse := -1, down := false }) := by show S.crash cs = _; unfold St.crash crashed; rw [hK]
  have hK1 : K ≤ cs.length := by omega
  have hK2 : K ≤ S.ws.length := by omega
  have HK : Hid (min cs.length S.ws.length = K) := hK
  clear hK
  generalize S.crash cs = S' at HC ⊢
  go_enter Tryd.func26, Tryd.ntmps26
  go_wp2_with fail
  go_loopw [4] (fun u wr => ∃ i : Nat, i ≤ K ∧ u = .int .i64 (i : Int) ∧ RLeft F p w { S with ps := crashN S.ps S.ws cs i } wr) (fun u _ => K - (intOf u).toNat)
  case atStart => exact ⟨0, by omega, rfl, F, HD.out, Step.refl _ _⟩
  case round =>
    obtain ⟨i, hi, rfl, F', D4, S4⟩ := hrel
    rename World => w1
    have hpl := D4.lt
    by_cases hin : i < K
    · have hin1 : (i : Int) < (S.ws.length : Int) := by omega
      have hin2 : (i : Int) < (cs.length : Int) := by omega
      obtain ⟨hx1, hx2⟩ := HD.out.ok.at (i := i) (by omega)
      have HL : Hid (crashN S.ps S.ws cs (i + 1) = (crashN S.ps S.ws cs i).set (S.ws.getD i (0, [])).1 (tear ((crashN S.ps S.ws cs i).getD (S.ws.getD i (0, [])).1 []) (S.ws.getD i (0, [])).2 (cs.getD i 0).toNat)) := rfl
      have hll := crashN_length S.ps S.ws cs i
      generalize crashN S.ps S.ws cs i = lp at D4 HL hll
      obtain ⟨b1, d1, b2, d2, _, k1, k2, _, _, hf, R, P1, P2⟩ := D4.open
      simp only at k1 k2 R P1 P2
      obtain ⟨g1, _, e1, hg1, _, _⟩ := P1.full (by rw [List.length_map]; omega)
      rw [List.length_map] at e1
      cases e1
      obtain ⟨g2, _, e2, hg2, _, _⟩ := P2.full (by rw [List.length_map]; omega)
      rw [List.length_map] at e2
      cases e2
      obtain ⟨y0, y1⟩ := P2.tell (i := i) (by omega)
      obtain ⟨xa, rfl, hxa⟩ := (HB.out.1.stepMore S4 HB.out.2) (by omega)
      have hby := hxa i (by omega)
      clear hxa
      have hc256 : (cs.getD i 0).toNat < 256 := UInt8.toNat_lt _
      generalize (cs.getD i 0).toNat = cb at hby HL hc256
      generalize S.ws.getD i (0, []) = x at HL hx1 hx2 y0 y1
      obtain ⟨at_, d⟩ := x
      simp only at HL hx1 hx2 y0 y1
      have hpg : (lp.getD at_ []).length = 256 := by
        have h : at_ < lp.length := by omega
        rw [List.getD_eq_getElem?_getD, List.getElem?_eq_getElem h]; exact D4.ok.page _ (List.getElem_mem h)
      have z0 : w1.cell? ⟨g1, at_, none⟩ = some (.string (bs (lp.getD at_ []))) := P1.text (by omega)
      generalize lp.getD at_ [] = pg at hpg HL z0
      have HH : Hid (Row w1 p #[.int .i64 (S.lim : Int), .slice (some ⟨g1, 0, none⟩) lp.length d1, .slice (some ⟨g2, 0, none⟩) S.ws.length d2, .int .i64 S.fuse, .bool S.down] 63 ∧ Rd w1 F' p { S with ps := lp } ∧ Pl w1 (fun g => F' g ∧ g ≠ p) 9 1 (.slice (some ⟨g1, 0, none⟩) lp.length d1) (lp.map textL) ∧ Pl w1 (fun g => F' g ∧ g ≠ p ∧ (Value.slice (some ⟨g1, 0, none⟩) lp.length d1).ownBlock ≠ some g) 76 2 (.slice (some ⟨g2, 0, none⟩) S.ws.length d2) (S.ws.map tellL)) := ⟨R, D4, P1, P2⟩
      rw [hll] at k1
      clear D4 hf R P1 P2
      have hxa : (at_ : Int) < (S.ps.length : Int) := by omega
      have hne := NewW.ne w1
      have q1 : ∀ q : NewW w1, q.v.cell? ⟨p, 1, none⟩ = some (.slice (some ⟨g1, 0, none⟩) S.ps.length d1) := fun q => NewW.cell k1 q
      have q2 : ∀ q : NewW w1, q.v.cell? ⟨p, 2, none⟩ = some (.slice (some ⟨g2, 0, none⟩) S.ws.length d2) := fun q => NewW.cell k2 q
      have q3 : ∀ q : NewW w1, q.v.cell? ⟨g2, i * 2, none⟩ = some (.int .i64 (at_ : Int)) := fun q => NewW.cell y0 q
      have q4 : ∀ q : NewW w1, q.v.cell? ⟨g1, at_, none⟩ = some (.string (bs pg)) := fun q => NewW.cell z0 q
      go_wp2_with fail
      refine region_first 14 2 w1 (New.refl w1) (by kernel_rfl) (by kernel_rfl) ?_
      simp only [List.take_succ_cons, List.take_zero, List.drop_succ_cons, List.drop_zero, List.take_nil]
      iterate 14 (go_big_quiet_step (fail))
      refine wpQuiet_nil ?_
      rintro W5 ⟨⟨_, N5⟩, rfl⟩
      obtain ⟨W6, cap6, hcv, N6, L6⟩ := conv_text (bs pg) W5
      have hB6 := N5.size
      have hsz : (bs pg).size = 256 := by rw [bs_size, hpg]
      rw [L_bs] at L6
      rw [hsz] at hcv
      have N56 := N5.trans N6
      clear q1 q2 q3 q4 hne
      generalize W5.heap.size = B at hcv L6 hB6
      go_wp2_with fail
      have HT0 : Hid (tearN pg d cb 0 = pg) := rfl
      have HT : Hid (∀ s, tearN pg d cb (s + 1) = if bitOf cb s then put (tearN pg d cb s) (64 * s) (sec d s) else tearN pg d cb s) := fun s => rfl
      have HTL : Hid (∀ s, s ≤ 4 → (tearN pg d cb s).length = 256) := fun s hs => tearN_length hpg hx2 hs
      go_loopw [6] (fun u wr2 => ∃ s : Nat, s ≤ 4 ∧ u = .int .i64 (s : Int) ∧ Lies wr2 B (tearN pg d cb s) ∧ New w1 wr2) (fun u _ => 4 - (intOf u).toNat)
      case atStart => exact ⟨0, by omega, rfl, L6, N56⟩
      case round =>
        clear L6 N56
        obtain ⟨s, hs, rfl, L7, N7⟩ := hrel
        rename World => w2
        by_cases hs4 : s < 4
        · have hs4' : (s : Int) < 4 := by omega
          have ht7 := HTL.out s (by omega)
          have hbl := bit_letter cb s hc256
          have HTS : Hid (tearN pg d cb (s + 1) = if bitOf cb s then put (tearN pg d cb s) (64 * s) (sec d s) else tearN pg d cb s) := HT.out s
          generalize tearN pg d cb s = T at L7 ht7 HTS
          have HT7 : Hid (T.length = 256) := ht7
          have hsd : (bs d).size = 256 := by rw [bs_size, hx2]
          clear ht7
          go_wp2_with fail
          go_loopw [7] (fun u wr3 => ∃ m : Nat, 64 * s ≤ m ∧ m ≤ 64 * s + 64 ∧ u = .int .i64 (m : Int) ∧ Lies wr3 B (tearK T d s (m - 64 * s)) ∧ (bitOf cb s = false → m = 64 * s) ∧ New w1 wr3) (fun u _ => 64 * s + 64 - (intOf u).toNat)
          case atStart => exact ⟨64 * s, by omega, by omega, by go_num, by rw [Nat.sub_self, tearK_zero]; exact L7, fun _ => rfl, N7⟩
          case round =>
            clear L7 N7
            obtain ⟨m, hm1, hm2, rfl, L8, hb8, N8⟩ := hrel
            have hby8 := (N8.cell (World.block_lt_of_cell? _ _ hby)).trans hby
            have k28 := (N8.cell (World.block_lt_of_cell? _ _ k2)).trans k2
            have y18 := (N8.cell (World.block_lt_of_cell? _ _ y1)).trans y1
            have HL8 : Hid (Lies wr B (tearK T d s (m - 64 * s)) ∧ (bitOf cb s = false → m = 64 * s)) := ⟨L8, hb8⟩
            clear L8 hb8
            cases hbit : bitOf cb s with
            | true =>
              rw [hbit] at hbl
              by_cases hm : m < 64 * s + 64
              · have hm' : (m : Int) < 64 * (s : Int) + 64 := by omega
                have hm256 : m < 256 := by omega
                have hm256' : (m : Int) < 256 := by omega
                have hlen : (tearK T d s (m - 64 * s)).length = 256 := tearK_length HT7.out hs4 (by omega)
                have hc8 := HL8.out.1.1 m _ (List.getElem?_eq_getElem (by omega))
                have hf8 := HL8.out.1.2 m (by omega)
                have hnx := tearK_next (a := T) (b := d) HT7.out hx2 hs4 (j := m - 64 * s) (by omega)
                rw [show 64 * s + (m - 64 * s) = m by omega, show m - 64 * s + 1 = m + 1 - 64 * s by omega] at hnx
                have HX : Hid ((tearK T d s (m - 64 * s)).set m (d.getD m 0) = tearK T d s (m + 1 - 64 * s)) := hnx
                generalize (tearK T d s (m - 64 * s))[m] = old at hc8
                clear hnx hlen
                have HB6 : Hid (w1.heap.size ≤ B) := hB6
                have HG : Hid (∀ h : m < (bs d).size, (bs d)[m] = d.getD m 0) := fun h => bs_get d m h
                go_wp2_with fail
                refine ⟨⟨m + 1, by omega, by omega, by go_num, ?_, (fun h => by cases h), N8.setCell HB6.out _⟩, by simp [intOf]; omega⟩
                rw [← HX.out, HG.out]
                exact HL8.out.1.set m (by rw [tearK_length HT7.out hs4 (by omega)]; exact hm256) _
              · obtain rfl : m = 64 * s + 64 := by omega
                have hm' : ¬ ((64 * s + 64 : Nat) : Int) < 64 * (s : Int) + 64 := by omega
                have LL := HL8.out.1
                rw [show 64 * s + 64 - 64 * s = 64 by omega, tearK_full hx2 hs4] at LL
                have HTT := HTS.out
                rw [hbit, if_pos rfl] at HTT
                rw [← HTT] at LL
                have HLL : Hid (Lies wr B (tearN pg d cb (s + 1))) := LL
                clear LL HTT
                go_wp2_with fail
                exact ⟨⟨s + 1, by omega, by go_num, HLL.out, N8⟩, by simp [intOf]; omega⟩
            | false =>
              rw [hbit] at hbl
              obtain rfl : m = 64 * s := HL8.out.2 hbit
              have hm' : ((64 * s : Nat) : Int) < 64 * (s : Int) + 64 := by omega
              have LL := HL8.out.1
              rw [Nat.sub_self, tearK_zero] at LL
              have HTT := HTS.out
              rw [hbit, if_neg (by decide)] at HTT
              rw [← HTT] at LL
              have HLL : Hid (Lies wr B (tearN pg d cb (s + 1))) := LL
              clear LL HTT
              go_wp2_with fail
              exact ⟨⟨s + 1, by omega, by go_num, HLL.out, N8⟩, by simp [intOf]; omega⟩
        · obtain rfl : s = 4 := by omega
          have htl := HTL.out 4 (by omega)
          have LL : Lies w2 B (tear pg d cb) := L7
          have htl' : (tear pg d cb).length = 256 := htl
          have HL' : Hid (crashN S.ps S.ws cs (i + 1) = lp.set at_ (tear pg d cb)) := HL.out
          generalize tear pg d cb = T at LL htl' HL'
          have hne := NewW.ne w2
          have k17 := (N7.cell (World.block_lt_of_cell? _ _ k1)).trans k1
          have k27 := (N7.cell (World.block_lt_of_cell? _ _ k2)).trans k2
          have y07 := (N7.cell (World.block_lt_of_cell? _ _ y0)).trans y0
          have z07 := (N7.cell (World.block_lt_of_cell? _ _ z0)).trans z0
          have q1 : ∀ q : NewW w2, q.v.cell? ⟨p, 1, none⟩ = some (.slice (some ⟨g1, 0, none⟩) S.ps.length d1) := fun q => NewW.cell k17 q
          have q2 : ∀ q : NewW w2, q.v.cell? ⟨p, 2, none⟩ = some (.slice (some ⟨g2, 0, none⟩) S.ws.length d2) := fun q => NewW.cell k27 q
          have q3 : ∀ q : NewW w2, q.v.cell? ⟨g2, i * 2, none⟩ = some (.int .i64 (at_ : Int)) := fun q => NewW.cell y07 q
          have q4 : ∀ q : NewW w2, (convert 22 9 (.slice (some ⟨B, 0, none⟩) 256 cap6)).run Tryd.prog q.v = .ok (.string (bs T)) q.v := fun q => conv_back htl' (LL.after q.h (by omega))
          have HTT : Hid (T.length = 256) := htl'
          clear LL L7 htl htl' k1 k2 y0 y1 z0 hby k17 k27 y07 HT HT0 HTL HL
          go_wp2_with fail
          refine region_first 15 1 w2 (New.refl w2) (by kernel_rfl) (by kernel_rfl) ?_
          simp only [List.take_succ_cons, List.take_zero, List.drop_succ_cons, List.drop_zero, List.take_nil]
          iterate 15 (go_big_quiet_step (fail))
          refine wpQuiet_nil ?_
          rintro W5 ⟨⟨_, N5⟩, rfl⟩
          obtain ⟨hRow, hRd, hP1, hP2⟩ := HH.out
          have NN : New w1 W5 := N7.trans N5
          have z5 := (N5.cell (World.block_lt_of_cell? _ _ z07)).trans z07
          have zf := (hP1.after NN).frozen at_
          clear q1 q2 q3 q4 hne z07 hRow hRd hP2
          go_wp2_with fail
          have Q6 := (HH.out.2.2.1.after NN).setOne (i := at_) (by rw [List.length_map]; omega) (.string (bs T))
          obtain ⟨D6, S6⟩ := Rd.setPage HH.out.2.1 HH.out.1 HH.out.2.2.2 NN (But.setCell W5 g1 at_ (.string (bs T))) hg1 Q6 HTT.out
          refine ⟨⟨i + 1, by omega, by go_num, F', ?_, S4.trans S6⟩, by simp [intOf]; omega⟩
          rw [HL'.out]
          exact D6
    · obtain rfl : i = K := by omega
      obtain ⟨b1, d1, b2, d2, _, _, k2, k3, k4, hf, _⟩ := D4.open
      have f2 := hf 2
      have f3 := hf 3
      have f4 := hf 4
      have HD4 : Hid (Rd w1 F' p { S with ps := crashN S.ps S.ws cs i }) := D4
      have HFin : Hid (RLeft F p w S' (((w1.setCell ⟨p, 2, none⟩ (.slice none 0 0)).setCell ⟨p, 4, none⟩ (.bool false)).setCell ⟨p, 3, none⟩ (.int .i64 (-1)))) := by
        show RLeft F p w S' _
        rw [HC.out]
        refine ⟨F', ((D4.noWait.down false).fuse (-1) (by omega) (by omega)), ((S4.trans (Step.setCell _ (a := ⟨p, 2, none⟩) D4.base _)).trans (Step.setCell _ (a := ⟨p, 4, none⟩) D4.base _)).trans (Step.setCell _ (a := ⟨p, 3, none⟩) D4.base _)⟩
      have k2' : w1.cell? ⟨p, 2, none⟩ = some (.slice b2 S.ws.length d2) := k2
      have hex : (¬ (i : Int) < (S.ws.length : Int)) ∨ ((i : Int) < (S.ws.length : Int) ∧ ¬ (i : Int) < (cs.length : Int)) := by have := HK.out; omega
      clear D4 hf k2
      rcases hex with hex | ⟨hex, hey⟩
      · go_wp2_with fail
        go_end0
        exact ⟨rfl, HFin.out⟩
      · have hey' : (cs.length : Int) ≤ (i : Int) := by omega
        go_wp2_with fail
        go_end0
        exact ⟨rfl, HFin.out⟩

end Go.Proofs.YtkcoclpbkealgaaDoor
namespace Go.Proofs.YtkcoclpbkealgaaDoor
open Go.RowKit
set_option maxRecDepth 20000

set_option maxRecDepth 20000 in
set_option maxHeartbeats 2000000 in
theorem writes_same {w : World} {F G : Nat → Prop} (a b : Option Addr) (c d : Nat) (l : List (Nat × List UInt8)) (hl : Pl w F 76 2 (.slice a l.length c) (l.map tellL)) (hm : Pl w G 76 2 (.slice b l.length d) (l.map tellL)) (h63 : l.length ≤ 1000) :
    Calls Tryd.prog 31 #[.slice a l.length c, .slice b l.length d] w fun e w' => e = .returned (.bool true) ∧ New w w' := by
  have HA : Hid (Pl w F 76 2 (.slice a l.length c) (l.map tellL) ∧ Pl w G 76 2 (.slice b l.length d) (l.map tellL)) := ⟨hl, hm⟩
  clear hl hm
  go_enter Tryd.func31, Tryd.ntmps31
  go_wp2_with fail
  go_loopw [5] (fun u wr => ∃ i : Nat, u = .int .i64 (i : Int) ∧ i ≤ l.length ∧ New w wr) (fun u _ => l.length - (intOf u).toNat)
  case atStart => exact ⟨0, rfl, by omega, New.refl w⟩
  case round =>
    obtain ⟨i, rfl, hi, N⟩ := hrel
    by_cases hin : i < l.length
    · have hin' : (i : Int) < (l.length : Int) := by omega
      have PA := HA.out.1.after N
      have PB := HA.out.2.after N
      obtain ⟨g1, _, e1, _⟩ := PA.full (by rw [List.length_map]; omega)
      rw [List.length_map] at e1
      cases e1
      obtain ⟨g2, _, e2, _⟩ := PB.full (by rw [List.length_map]; omega)
      rw [List.length_map] at e2
      cases e2
      have hx := map_getD tellL l i (0, []) hin
      obtain ⟨hpi, hpe⟩ := List.getElem?_eq_some_iff.1 hx
      generalize l.getD i (0, []) = x at hpe hx
      obtain ⟨xa, xd⟩ := x
      have q1 : ∀ q : NewW wr, q.v.rangeAt g1 (i * 2) [.int .i64 (xa : Int), .string (bs xd)] := fun q => by
        have := (PA.after q.h).range hpi
        rw [hpe] at this
        exact this
      have q2 : ∀ q : NewW wr, q.v.rangeAt g2 (i * 2) [.int .i64 (xa : Int), .string (bs xd)] := fun q => by
        have := (PB.after q.h).range hpi
        rw [hpe] at this
        exact this
      have hne := NewW.ne wr
      clear PA PB hx hpe hpi
      go_wp2_with fail
      refine region_first 9 0 wr (New.refl wr) (by kernel_rfl) (by kernel_rfl) ?_
      simp only [List.take_succ_cons, List.drop_succ_cons, List.drop_zero, List.take_nil]
      iterate 3 (go_big_quiet_step (fail))
      refine wpQuiet_load_mid (by rfl) 76 _ (by rfl) g1 (i * 2) (by rfl) [.int .i64 (xa : Int), .string (bs xd)] q1 _ Tryd.underlying76 rfl i82 ?_
      simp only [Act.put, List.setIfInBounds_toArray, List.set_cons_zero, List.set_cons_succ]
      iterate 3 (go_big_quiet_step (fail))
      refine wpQuiet_load_mid (by rfl) 76 _ (by rfl) g2 (i * 2) (by rfl) [.int .i64 (xa : Int), .string (bs xd)] q2 _ Tryd.underlying76 rfl i82 ?_
      simp only [Act.put, List.setIfInBounds_toArray, List.set_cons_zero, List.set_cons_succ]
      iterate 1 (go_big_quiet_step (fail))
      refine wpQuiet_nil ?_
      rintro w4 ⟨⟨_, N4⟩, rfl⟩
      go_wp2_with fail
      exact ⟨⟨i + 1, by go_num, by omega, N.trans N4⟩, by simp [intOf]; omega⟩
    · obtain rfl : i = l.length := by omega
      go_wp2_with fail
      go_ret
      exact ⟨rfl, N⟩

theorem Disk.cut {w0 w W : World} {F : Nat → Prop} {p k : Nat} {S : St} {b1 : Option Addr} {d1 : Nat} {v2 v : Value} {ws : List (Nat × List UInt8)} (S0 : Step F F w0 w) (D : Disk w F p S) (R : Row w p #[.int .i64 (S.lim : Int), .slice b1 S.ps.length d1, v2, .int .i64 S.fuse, .bool S.down] 81)
    (P1 : Pl w (fun g => F g ∧ g ≠ p) 85 256 (.slice b1 S.ps.length d1) (S.ps.map cellsL)) (N : New w W) (Q : Pl W (Fresh w) 113 257 v (ws.map waitL)) (hk : k ≤ S.ps.length) (hok : Ok { S with ps := S.ps.take k, ws := ws }) :
    Left F p w0 { S with ps := S.ps.take k, ws := ws } ((W.setCell ⟨p, 1, none⟩ (.slice b1 k d1)).setCell ⟨p, 2, none⟩ v) := by
  have hpl := D.lt
  have hsz := N.size
  have e : ∀ b, b ≠ p → ((W.setCell ⟨p, 1, none⟩ (.slice b1 k d1)).setCell ⟨p, 2, none⟩ v).heap[b]? = W.heap[b]? := fun b hb => (Below.heap_setCell _ _ _ _ hb).trans (Below.heap_setCell _ _ _ _ hb)
  have hn : ∀ g, v.ownBlock = some g → w.heap.size ≤ g := fun g hg => Q.foot g hg
  have Pt : Pl w (fun g => F g ∧ g ≠ p) 85 256 (.slice b1 k d1) ((S.ps.take k).map cellsL) := by
    rw [List.map_take]
    rcases P1.cases with ⟨hv, he⟩ | ⟨g, c, hv, _⟩
    · simp only [Value.slice.injEq] at hv
      obtain ⟨rfl, h0, rfl⟩ := hv
      obtain rfl : k = 0 := by omega
      rw [List.take_zero]
      exact Pl.nil _ _ _ _
    · simp only [Value.slice.injEq] at hv
      obtain ⟨rfl, _, rfl⟩ := hv
      exact P1.take (by rw [List.length_map]; exact hk)
  refine ⟨Wide F w0 _, Disk.build (F := F) (w := w0) (v1 := .slice b1 k d1) (v2 := v) (G1 := fun g => F g ∧ g ≠ p) (G2 := fun g => w.heap.size ≤ g) D.base hok (((R.after N).set 1 _).set 2 _) ?_ ?_ ?_ ?_, ?_⟩
  · exact (Pt.after N).of (fun b hb _ => e b hb.2) (fun _ h _ => h)
  · exact Q.of (fun b hb _ => e b (by have : w.heap.size ≤ b := hb; omega)) (fun _ h _ => h)
  · intro g hg
    have := Pt.foot g hg
    exact ⟨.inl this.1, this.2⟩
  · intro g hg
    have h1 := hn g hg
    refine ⟨.inr (Nat.le_trans S0.size h1), by omega, fun h => ?_⟩
    have := Pt.lt h
    omega
  · exact (((S0.trans (Step.new N)).trans (Step.setCell W (a := ⟨p, 1, none⟩) D.base _)).trans (Step.setCell _ (a := ⟨p, 2, none⟩) D.base _)).widen

end Go.Proofs.YtkcoclpbkealgaaDoor
