/-
  FlushAll; New. A pool is made; a good page; pages for a disk; are two lists of numbers alike? Pages for a disk; are two lists of numbers alike? The laws' own small run, without memory. The laws' own small run: it tells true.
-/
import Derived.Test.YtkcoclpbkealgaaDoorGam
import Derived.Test.YtkcoclpbkealgaaDoorGai
import Derived.Test.YtkcoclpbkealgaaDoorGah
import Derived.Test.YtkcoclpbkealgaaDoorGaj
namespace Go.Proofs.YtkcoclpbkealgaaDoor
open Go.RowKit
set_option maxRecDepth 20000

/-- Pages, each once, each dirty in its frame. -/
structure Dy (S : PS) (l : List Nat) : Prop where
  nodup : l.Nodup
  dirty : ∀ a ∈ l, ∃ i, idx (a : Int) (keys S.fs) = some i ∧ (S.fm i).dirty = true
theorem dirties_sub : ∀ {fs : List Fm}, (∀ f ∈ fs, f.dirty = true → f.data ≠ []) → (dirties fs).Sublist (held fs)
  | [], _ => List.Sublist.refl _
  | f :: fs, h => by
    have ih := dirties_sub (fs := fs) fun f2 hf => h f2 (by simp [hf])
    unfold dirties held keys at *
    simp only [List.filter_cons, List.map_cons, List.filterMap_cons, id]
    cases hd : f.dirty
    · simp only [Bool.false_eq_true, if_false]
      cases hk : f.key with
      | none => exact ih
      | some x => exact List.Sublist.cons _ ih
    · simp only [if_true, List.map_cons]
      rw [key_of (h f (by simp) hd)]
      exact List.Sublist.cons_cons _ ih
theorem Inv.dirty_full {S : PS} (h : Inv S) : ∀ f ∈ S.fs, f.dirty = true → f.data ≠ [] := fun f hf hd e => by rw [h.none f hf e] at hd; cases hd
theorem Dy.start {S : PS} (h : Inv S) : Dy S (sorted (dirties S.fs)) := by
  have hp : (sorted (dirties S.fs)).Perm (dirties S.fs) := List.mergeSort_perm _ _
  refine ⟨hp.nodup_iff.2 ((nodup_some h.apart).sublist (dirties_sub h.dirty_full)), fun a ha => ?_⟩
  have ha2 := hp.subset ha
  unfold dirties at ha2
  obtain ⟨f, hf, rfl⟩ := List.mem_map.1 ha2
  obtain ⟨hf1, hf2⟩ := List.mem_filter.1 hf
  obtain ⟨i, hi, rfl⟩ := mem_getD hf1
  exact ⟨i, idx_eq h.apart (by rw [keys_at hi, key_of (h.dirty_full _ hf1 hf2)]) rfl, hf2⟩
theorem Dy.next {S : PS} {a i : Nat} {l : List Nat} (h : Dy S (a :: l)) (hi : idx (a : Int) (keys S.fs) = some i) : Dy (S.write i).2 l := by
  obtain ⟨hil, _, hat⟩ := idx_full hi
  refine ⟨(List.nodup_cons.1 h.nodup).2, fun x hx => ?_⟩
  obtain ⟨j, hj, hd⟩ := h.dirty x (by simp [hx])
  refine ⟨j, by rw [PS.write_keys hil]; exact hj, ?_⟩
  have hne : i ≠ j := fun e => by
    subst e
    obtain ⟨_, _, hat2⟩ := idx_full hj
    have : x = a := by omega
    exact (List.nodup_cons.1 h.nodup).1 (this ▸ hx)
  show ((S.write i).2.fs.getD j noFm).dirty = true
  rw [PS.write_fs]
  split
  · rw [getD_set_other hne]; exact hd
  · exact hd
theorem flushL_cons {a i : Nat} {l : List Nat} {S : PS} (hi : idx (a : Int) (keys S.fs) = some i) : flushL (a :: l) S = if (S.write i).1 = 0 then flushL l (S.write i).2 else S.write i := by
  rw [flushL, hi]; rfl
theorem aside_pl {p g b : Nat} {F F' : Nat → Prop} {w w' : World} {t : TypeId} {k : Nat} {v : Value} {es : List (List Value)} (h : Pl w (fun x => ¬ own p g b F x) t k v es) (s : Step (own p g b F) (own p g b F') w w') : Pl w' (fun x => ¬ own p g b F' x) t k v es :=
  h.of (fun b hb hlt => s.block b hlt hb) (fun b hb hlt h2 => (s.foot b h2).elim hb (by omega))
theorem Bits.own_lt {w : World} {m p g b q : Nat} {Fd : Nat → Prop} {d : St} {fs : List Fm} {hand : Nat} {ks : List (Option Nat)} (B : Bits w m p g b q Fd d fs hand ks) : ∀ x, own p g b Fd x → x < w.heap.size := fun x hx => by
  rcases hx with rfl | rfl | rfl | hx
  · exact B.row.lt
  · exact B.g_lt
  · exact B.b_lt
  · exact B.disk.inside x hx

set_option maxHeartbeats 4000000 in
theorem flush_any {w : World} {m p g b q : Nat} {Fd : Nat → Prop} {S : PS} (P : Pool w m p g b q Fd S) (hm : m < 1000) :
    Calls Tryd.prog 21 #[.pointer (some ⟨p, 0, none⟩)] w fun e w' => e = .returned (.int .i64 S.flush.1) ∧ PLeft p g b q Fd m w S.flush.2 w' := by
  have hdi := dirty_any P
  have HP : Hid (Pool w m p g b q Fd S) := P
  have HD : Hid (Dy S (sorted (dirties S.fs))) := Dy.start P.inv
  obtain ⟨l, hl⟩ : ∃ l, sorted (dirties S.fs) = l := ⟨_, rfl⟩
  have hlen : l.length ≤ 64 := by rw [← hl, sorted_length]; exact Nat.le_trans (dirties_le _) P.inv.most
  rw [hl] at hdi HD
  obtain ⟨r, hr⟩ : ∃ r, S.flush = r := ⟨_, rfl⟩
  have HR : Hid (flushL l S = r) := by show flushL l S = r; rw [← hr, PS.flush, hl]
  rw [hr]
  clear P hl hr
  go_enter Tryd.func21, Tryd.ntmps21
  go_wp2_with fail
  refine hdi.mono ?_
  rintro _ w1 ⟨v, rfl, Q1, N1⟩
  obtain ⟨av, cv, hv, _⟩ := Q1.form
  rw [intsL_length] at hv
  subst hv
  have HQ : Hid (Pl w1 (fun x => ¬ own p g b Fd x) 3 1 (.slice av l.length cv) (intsL l)) := Q1.mono fun x hx _ h2 => by have := HP.out.bits.own_lt x h2; have h3 : w.heap.size ≤ x := hx; omega
  clear Q1 hdi
  go_wp2_with fail
  go_loopw [11] (fun u wr => ∃ (k : Nat) (S' : PS) (F' : Nat → Prop), u = .int .i64 (k : Int) ∧ k ≤ l.length ∧ Hid (Pool wr m p g b q F' S' ∧ Step (own p g b Fd) (own p g b F') w wr ∧ Dy S' (l.drop k) ∧ flushL (l.drop k) S' = r ∧ Pl wr (fun x => ¬ own p g b F' x) 3 1 (.slice av l.length cv) (intsL l))) (fun u _ => l.length - (intOf u).toNat)
  case atStart => exact ⟨0, S, Fd, rfl, by omega, HP.out.after N1, Step.new N1, HD.out, HR.out, HQ.out⟩
  case round =>
    obtain ⟨k, S', F', rfl, hk, HI⟩ := hrel
    by_cases h : k < l.length
    · obtain ⟨P', s', D', e', Q'⟩ := HI.out
      rw [List.drop_eq_getElem_cons h] at D' e'
      obtain ⟨i, hi, hd⟩ := D'.dirty _ List.mem_cons_self
      have hla : l.getD k 0 = l[k] := by rw [List.getD_eq_getElem?_getD, List.getElem?_eq_getElem h]; rfl
      obtain ⟨g0, c0, e0, _⟩ := Q'.full (by rw [intsL_length]; omega)
      rw [intsL_length] at e0
      cases e0
      have kk := Q'.num h
      rw [hla] at kk
      rw [flushL_cons hi] at e'
      have D2 := D'.next hi
      obtain ⟨hil, hif, hia⟩ := idx_full hi
      have hal := P'.inv.at_le P'.bits.disk.ok hil hif
      have hlk := P'.bits.look1 (l[k] : Int) (by omega) (by omega)
      rw [hi] at hlk
      simp only [Option.getD_some] at hlk
      have hw := write_any' P' hm hil hd
      have c2 : wr.cell? ⟨p, 2, none⟩ = some (.map (some b)) := P'.bits.row.cell 2
      have HS : Hid (Step (own p g b Fd) (own p g b F') w wr ∧ Pl wr (fun x => ¬ own p g b F' x) 3 1 (.slice (some ⟨g0, 0, none⟩) l.length cv) (intsL l)) := ⟨s', Q'⟩
      obtain ⟨x, hx⟩ : ∃ x, l[k] = x := ⟨_, rfl⟩
      rw [hx] at kk hlk
      obtain ⟨y, hy⟩ : ∃ y, S'.write i = y := ⟨_, rfl⟩
      rw [hy] at hw e' D2
      have HD2 : Hid (Dy y.2 (l.drop (k + 1))) := D2
      have HE2 : Hid ((if y.1 = 0 then flushL (l.drop (k + 1)) y.2 else y) = r) := e'
      have h' : (k : Int) < (l.length : Int) := by omega
      clear P' s' D' e' Q' hi hd hla D2 hil hif hia hal hx hy HI HQ HD HR HP
      go_wp2_with fail
      refine hw.mono ?_
      rintro _ w2 ⟨rfl, F2, P2, s2⟩
      clear hw hlk
      by_cases he : y.1 = 0
      · rw [he]
        have HG : Hid (Pool w2 m p g b q F2 y.2 ∧ Step (own p g b Fd) (own p g b F2) w w2 ∧ Dy y.2 (l.drop (k + 1)) ∧ flushL (l.drop (k + 1)) y.2 = r ∧ Pl w2 (fun x => ¬ own p g b F2 x) 3 1 (.slice (some ⟨g0, 0, none⟩) l.length cv) (intsL l)) := ⟨P2, HS.out.1.trans s2, HD2.out, by have := HE2.out; rw [if_pos he] at this; exact this, aside_pl HS.out.2 s2⟩
        clear P2 s2
        go_wp2_with fail
        exact ⟨⟨k + 1, y.2, F2, by simp, by omega, HG.out⟩, by simp [intOf]; omega⟩
      · have HG : Hid (y = r ∧ PLeft p g b q Fd m w y.2 w2) := ⟨by have := HE2.out; rw [if_neg he] at this; exact this, F2, P2, HS.out.1.trans s2⟩
        obtain ⟨z, hz⟩ : ∃ z, y.1 = z := ⟨_, rfl⟩
        have HZ : Hid (y.1 = z) := hz
        rw [hz] at he ⊢
        clear P2 s2 hz
        go_wp2_with fail
        go_ret
        obtain ⟨e1, e2⟩ := HG.out
        rw [← e1]
        exact ⟨ret_int HZ.out.symm, e2⟩
    · obtain rfl : k = l.length := by omega
      go_wp2_with fail
      go_ret
      obtain ⟨P', s', _, e', _⟩ := HI.out
      rw [List.drop_length] at e'
      rw [← e']
      exact ⟨rfl, F', P', s'⟩
end Go.Proofs.YtkcoclpbkealgaaDoor
namespace Go.Proofs.YtkcoclpbkealgaaDoor
open Go.RowKit Go.Maps
set_option maxRecDepth 20000

def startP (d : St) (n : Nat) : PS := ⟨d, List.replicate n noFm, 0⟩
theorem keys_start (n : Nat) : keys (List.replicate n noFm) = List.replicate n none := by unfold keys; rw [List.map_replicate]; rfl
theorem idx_start (a : Int) (n : Nat) : idx a (List.replicate n none) = none := by
  unfold idx
  exact List.findIdx?_eq_none_iff.2 fun x hx => by rw [(List.mem_replicate.1 hx).2]; rfl
theorem apart_start (n : Nat) : Apart (List.replicate n none) := fun i _ _ hi _ => by
  have := List.mem_of_getElem? hi
  exact absurd (List.mem_replicate.1 this).2 (by simp)
theorem inv_start {d : St} {n : Nat} (h1 : 1 ≤ n) (h2 : n ≤ 64) : Inv (startP d n) := by
  have hm : ∀ f ∈ (startP d n).fs, f = noFm := fun f hf => (List.mem_replicate.1 hf).2
  have hl : (startP d n).fs.length = n := List.length_replicate
  refine ⟨by omega, by omega, by show 0 < _; omega, fun f hf _ => hm f hf, fun f hf h => absurd (by rw [hm f hf]; rfl) h, fun f hf h => absurd (by rw [hm f hf]; rfl) h, ?_⟩
  show Apart (keys (List.replicate n noFm))
  rw [keys_start]; exact apart_start n
theorem nd_start (n : Nat) : nd (List.replicate n noFm) = 0 := by
  unfold nd
  rw [List.filter_eq_nil_iff.2 fun f hf => by rw [(List.mem_replicate.1 hf).2]; decide]; rfl
theorem map_start (n : Nat) : MapOf (.map []) (List.replicate n none) := fun a => by rw [idx_start]; exact ⟨rfl, rfl⟩
theorem built92 (q : Addr) (g : Addr) (n c b : Nat) : Tryd.prog.built 92 [(0, .pointer (some q)), (1, .slice (some g) n c), (2, .map (some b))] = some #[.pointer (some q), .slice (some g) n c, .map (some b), .int .i64 0] := by kernel_rfl

/-- A new pool. -/
def MadeP (w : World) (q : Nat) (Fd : Nat → Prop) (d : St) (n : Nat) (e : Ending) (w' : World) : Prop :=
  ∃ p g b, e = .returned (.tuple #[.pointer (some ⟨p, 0, none⟩), .bool true]) ∧ (∀ m, d.ws.length ≤ m → Pool w' m p g b q Fd (startP d n)) ∧ w.heap.size ≤ p ∧ w.heap.size ≤ g ∧ w.heap.size ≤ b ∧ New w w'
set_option maxHeartbeats 4000000 in
theorem newpool_any {w : World} {q : Nat} {Fd : Nat → Prop} {d : St} (D : Disk w Fd q d) (hT : Tab w) (h0 : ¬ Fd 0) (n : Nat) (h1 : 1 ≤ n) (h64 : n ≤ 64) :
    Calls Tryd.prog 12 #[.pointer (some ⟨q, 0, none⟩), .int .i64 (n : Int)] w fun e w' => MadeP w q Fd d n e w' := by
  obtain ⟨W, hmk, QW, NW⟩ := run_make_pl w 89 103 (.agg (fmL noFm).toArray) n 5 40 Tryd.underlying89 info103 rfl (by decide) (by omega) (by decide)
  have hmm := @run_makeMap Tryd.prog
  have t1 : ¬ (n : Int) < 1 := by omega
  have t2 : ¬ (64 : Int) < (n : Int) := by omega
  have HD : Hid (Disk w Fd q d ∧ Tab w ∧ ¬ Fd 0) := ⟨D, hT, h0⟩
  have HQ : Hid (Pl W (fun g => g = w.heap.size) 103 5 (.slice (some ⟨w.heap.size, 0, none⟩) n n) (List.replicate n (fmL noFm)) ∧ New w W) := ⟨QW, NW⟩
  have HN : Hid (1 ≤ n ∧ n ≤ 64) := ⟨h1, h64⟩
  clear D hT h0 QW NW
  go_enter Tryd.func12, Tryd.ntmps12
  go_wp2_with (first | (refine wpList_build3 (by rfl) _ _ _ _ (by rfl) _ _ _ (by rfl) (by rfl) (by rfl) _ (built92 _ _ _ _ _) ?_) | (refine wpList_box_at (by rfl) 21 (by rfl) 92 _ (by rfl) _ (by rfl) ?_; intro W3 R3 M3))
  go_ret2
  obtain ⟨D, hT, h0⟩ := HD.out
  obtain ⟨QW, NW⟩ := HQ.out
  obtain ⟨h1, h64⟩ := HN.out
  have M2 : New W (W.alloc (.map #[] 0)) := (New.refl W).alloc _
  have NN : New w W3 := (NW.trans M2).trans M3
  have hWs : w.heap.size < W.heap.size := QW.lt (g := w.heap.size) rfl
  have hws := NW.size
  have hs1 : (W.alloc (.map #[] 0)).heap.size = W.heap.size + 1 := World.size_alloc _ _
  rw [hs1] at R3
  have hg0 : 0 < w.heap.size := hT.1
  refine ⟨_, w.heap.size, W.heap.size, rfl, fun m hm => ?_, by omega, Nat.le_refl _, hws, NN⟩
  have lt : ∀ x, Fd x → x < w.heap.size := D.inside
  refine ⟨inv_start h1 h64, ?_, fun f hf => ?_, ?_⟩
  · show Bits W3 m (W.heap.size + 1) w.heap.size W.heap.size q Fd d (List.replicate n noFm) 0 (keys (List.replicate n noFm))
    rw [keys_start]
    exact {
      tab := hT.after NN
      row := by rw [List.length_replicate]; exact R3
      pl := by rw [List.length_replicate, List.map_replicate]; exact QW.after (M2.trans M3)
      map := ⟨.map [], (owns_of (World.ownsMap_made W Tryd.prog 3 (plainElem Tryd.prog 3)) (M3.block _ (by rw [hs1]; omega))).mono (Nat.zero_le _), map_start n⟩
      disk := D.after NN
      keys := apart_start n
      pg := by omega
      pb := by omega
      gb := by omega
      np := fun h => by have := lt _ h; omega
      ng := fun h => by have := lt _ h; omega
      nb := fun h => by have := lt _ h; omega
      n0 := h0
      p0 := by omega
      g0 := by omega
      b0 := by omega }
  · rw [(List.mem_replicate.1 hf).2]; exact Nat.zero_le _
  · show d.ws.length + nd (List.replicate n noFm) ≤ m
    rw [nd_start]; omega
theorem newpool_no {w : World} (q : Nat) (n : Int) (h : n < 1 ∨ 64 < n) :
    Calls Tryd.prog 12 #[.pointer (some ⟨q, 0, none⟩), .int .i64 n] w fun e w' => e = .returned (.tuple #[.pointer none, .bool false]) ∧ w' = w := by
  by_cases h1 : n < 1
  · go_enter Tryd.func12, Tryd.ntmps12
    go_wp2_with fail
    go_ret2
    exact ⟨rfl, rfl⟩
  · have h2 : 64 < n := by omega
    clear h
    go_enter Tryd.func12, Tryd.ntmps12
    go_wp2_with fail
    go_ret2
    exact ⟨rfl, rfl⟩
theorem newpool_nil {w : World} (n : Int) : Calls Tryd.prog 12 #[.pointer none, .int .i64 n] w fun e w' => e = .returned (.tuple #[.pointer none, .bool false]) ∧ w' = w := by
  go_enter Tryd.func12, Tryd.ntmps12
  go_wp2_with fail
  go_ret2
  exact ⟨rfl, rfl⟩

/-- A page with a right sum. -/
def goodL (n : Nat) (v : UInt8) : List UInt8 := pageB (frOf 1 n 0 [v])
theorem goodL_length (n : Nat) (v : UInt8) : (goodL n v).length = 256 := pageB_length (by show ([v] ++ List.replicate (243 - 1) 0).length = 243; rw [List.length_append, List.length_replicate]; rfl)
theorem goodL_right (n : Nat) (v : UInt8) : rightB (goodL n v) = true := (rightB_iff _).2 (right_page (by show ([v] ++ List.replicate (243 - 1) 0).length = 243; rw [List.length_append, List.length_replicate]; rfl))
theorem built111 (k : Int) (s : ByteArray) : Tryd.prog.built 111 [(0, .int .i64 k), (2, .string s)] = some #[.int .i64 k, .int .i64 0, .string s] := by kernel_rfl
theorem wpList_build02 {P : Program} {w : World} {ops : Array Oper} {rest : List Oper} {o : Oper} {a : Act} {Q : Exit → Act → World → Prop} (hgd : o.guard = none) (t : TypeId) (x0 x1 : Operand) (ho : o.op = .build t #[(0, x0), (2, x1)]) (v0 v1 : Value) (h0 : a.eval x0 = v0) (h1 : a.eval x1 = v1) (cs : Array Value) (hb : P.built t [(0, v0), (2, v1)] = some cs)
    (h : wpList P ops Q rest (a.put o.dst (.agg cs)) w) : wpList P ops Q (o :: rest) a w := by
  have hv : ((#[(0, x0), (2, x1)] : Array (Nat × Operand)).map fun (i, x) => (i, a.eval x)).toList = [(0, v0), (2, v1)] := by simp [h0, h1]
  refine wpList_build hgd t _ ho (by rw [hv, hb]; rfl) ?_
  rw [hv, hb]
  exact h
theorem one_byte (v : UInt8) (w : World) : (convert 22 9 (.slice (some ⟨w.heap.size, 0, none⟩) 1 1)).run Tryd.prog (w.alloc (.cells #[.int .u8 (v.toNat : Int)] 5)) = .ok (.string (bs [v])) (w.alloc (.cells #[.int .u8 (v.toNat : Int)] 5)) :=
  conv_own (B := 0) (l := [v]) rfl ⟨rfl, .inr ⟨w.heap.size, 1, #[.int .u8 (v.toNat : Int)], rfl, Nat.zero_le _, Row.new w _ 5, Nat.le_refl _, by unfold maxLen; omega, rfl, rfl⟩⟩
set_option maxHeartbeats 2000000 in
theorem good_any (n : Nat) (hn : n < 65536) (v : UInt8) (w : World) : Calls Tryd.prog 19 #[.int .i64 (n : Int), .int .u8 (v.toNat : Int)] w fun e w' => e = .returned (.string (bs (goodL n v))) ∧ New w w' := by
  have hc := one_byte v w
  have hp := refPut_yes 1 n 0 (by decide) (by decide) hn (by decide) (bs [v]) (by rw [bs_size]; show 1 ≤ 243; decide)
  rw [L_bs] at hp
  change ∀ w, Calls Tryd.prog 49 #[.agg #[.int .i64 1, .int .i64 0, .string (bs [v])], .int .i64 (n : Int)] w fun e w' => e = .returned (.string (bs (goodL n v))) ∧ New w w' at hp
  go_enter Tryd.func19, Tryd.ntmps19
  go_wp2_with (first | (refine wpList_build02 (by rfl) _ _ _ (by rfl) _ _ (by rfl) (by rfl) _ (built111 _ _) ?_))
  refine (hp _).mono ?_
  rintro _ w1 ⟨rfl, n1⟩
  go_wp2_with fail
  go_ret
  exact ⟨rfl, ((New.refl w).alloc _).trans n1⟩
end Go.Proofs.YtkcoclpbkealgaaDoor
namespace Go.Proofs.YtkcoclpbkealgaaDoor
open Go.RowKit
set_option maxRecDepth 20000

/-- The page of that number: right, or not. -/
def pgL (i : Nat) (v : UInt8) : List UInt8 := if v.toNat < 200 then goodL i v else fillL v
theorem pgL_length (i : Nat) (v : UInt8) : (pgL i v).length = 256 := by unfold pgL; split; exact goodL_length _ _; exact fillL_length v
def pagesL (cs : List UInt8) : List (List UInt8) := cs.mapIdx pgL
theorem pagesL_length (cs : List UInt8) : (pagesL cs).length = cs.length := by unfold pagesL; rw [List.length_mapIdx]
theorem pagesL_get {cs : List UInt8} {i : Nat} (h : i < cs.length) : (pagesL cs).getD i [] = pgL i (cs.getD i 0) := by
  unfold pagesL
  rw [List.getD_eq_getElem?_getD, List.getElem?_mapIdx, List.getElem?_eq_getElem h, List.getD_eq_getElem?_getD, List.getElem?_eq_getElem h]; rfl
theorem pagesL_next {cs : List UInt8} {i : Nat} (h : i < cs.length) : (pagesL cs).take (i + 1) = (pagesL cs).take i ++ [pgL i (cs.getD i 0)] := by
  have hi : i < (pagesL cs).length := by rw [pagesL_length]; exact h
  rw [List.take_succ_eq_append_getElem hi, ← pagesL_get h, List.getD_eq_getElem?_getD, List.getElem?_eq_getElem hi]; rfl

theorem wpList_build_text {w : World} {ops : Array Oper} {rest : List Oper} {o : Oper} {a : Act} {Q : Exit → Act → World → Prop} (hgd : o.guard = none) (x : Operand) (ho : o.op = .buildSlice 28 1 #[(0, x)]) (l : List UInt8) (hx : a.eval x = .string (bs l))
    (h : ∀ W', Row W' w.heap.size (textL l).toArray 9 → New w W' → wpList Tryd.prog ops Q rest (a.put o.dst (.slice (some ⟨w.heap.size, 0, none⟩) 1 1)) W') : wpList Tryd.prog ops Q (o :: rest) a w :=
  wpList_run hgd _ _ (exec_buildSlice ho hx (run_buildCell w 28 9 (.string (bs l)) _ _ Tryd.underlying28 info9 rfl)) (h _ (Row.new w _ 9) ((New.refl w).alloc _))
theorem text_one (x : List UInt8) : ∀ v ∈ textL x, v.oneCell' = true := fun v hv => by
  obtain rfl : v = .string (bs x) := by simpa [textL] using hv
  rfl

set_option maxHeartbeats 4000000 in
theorem lawpages_any (w : World) (a : Option Addr) (c : Nat) (cs : List UInt8) (hB : Bytes w a cs) (hl : cs.length ≤ 1000) :
    Calls Tryd.prog 10 #[.slice a cs.length c] w fun e w' => ∃ v, e = .returned v ∧ Pl w' (Fresh w) 9 1 v ((pagesL cs).map textL) ∧ New w w' := by
  obtain ⟨n, hn⟩ : ∃ n, cs.length = n := ⟨_, rfl⟩
  have HB : Hid (Bytes w a cs) := hB
  have HN : Hid (cs.length = n) := hn
  rw [hn] at hl ⊢
  clear hB hn
  go_enter Tryd.func10, Tryd.ntmps10
  go_wp2_with fail
  go_loopw [3, 4] (fun v u wr => ∃ i : Nat, u = .int .i64 (i : Int) ∧ i ≤ n ∧ Hid (Pl wr (Fresh w) 9 1 v (((pagesL cs).take i).map textL) ∧ New w wr)) (fun _ u _ => n - (intOf u).toNat)
  case atStart => exact ⟨0, rfl, by omega, Pl.nil _ _ _ _, New.refl _⟩
  case round =>
    obtain ⟨i, rfl, hi, HI⟩ := hrel
    by_cases h : i < n
    · have hic : i < cs.length := by rw [HN.out]; exact h
      obtain ⟨x, rfl, hx⟩ := (HB.out.after HI.out.2) (by omega)
      have k0 := hx i hic
      have HX : Hid ((pagesL cs).take (i + 1) = (pagesL cs).take i ++ [pgL i (cs.getD i 0)]) := pagesL_next hic
      have HL : Hid ((((pagesL cs).take i).map textL).length ≤ 1000000) := by show (((pagesL cs).take i).map textL).length ≤ 1000000; rw [List.length_map, List.length_take]; omega
      have h' : (i : Int) < (n : Int) := by omega
      generalize cs.getD i 0 = b at k0 HX
      clear hx hic
      have HF : Hid (∀ {W2 W3 W4 : World} {cap3 g3 : Nat} {v : Value}, New wr W2 → New W2 W3 → Pl wr (Fresh w) 9 1 v (((pagesL cs).take i).map textL) → Pl W4 (fun b => Fresh w b ∨ W3.heap.size ≤ b) 9 1 (.slice (some ⟨g3, 0, none⟩) ((((pagesL cs).take i).map textL).length + 1) cap3) (((pagesL cs).take i).map textL ++ [textL (pgL i b)]) → W3.grownBy W4 v.ownBlock → Pl W4 (Fresh w) 9 1 (.slice (some ⟨g3, 0, none⟩) ((((pagesL cs).take i).map textL).length + 1) cap3) (((pagesL cs).take (i + 1)).map textL) ∧ New w W4) := fun {W2 W3 W4 cap3 g3 v} n2 n3 Q0 Q4 G4 => by
        have h1 := HI.out.2.size
        have h2 := n2.size
        have h3 := n3.size
        refine ⟨?_, ((HI.out.2.trans n2).trans n3).grown G4 fun k hk => Q0.foot k hk⟩
        rw [HX.out, List.map_append]
        refine Q4.mono fun b hb _ => hb.elim id fun hb => ?_
        show w.heap.size ≤ b
        omega
      by_cases hb : b.toNat < 200
      · have hb' : (b.toNat : Int) < 200 := by omega
        have hp : pgL i b = goodL i b := by unfold pgL; rw [if_pos hb]
        have hg := good_any i (by omega) b
        rw [← hp] at hg
        clear hp
        generalize pgL i b = t at hg HF HX
        go_wp2_with fail
        refine (hg _).mono ?_
        rintro _ w2 ⟨rfl, n2⟩
        go_wp2_with (first
          | (refine wpList_build_text (by rfl) _ (by rfl) t (by rfl) ?_; intro w3 R3 n3)
          | (refine wpList_append_pl (HI.out.1.after (n2.trans n3)) (by rfl) _ _ 28 (by rfl) Tryd.underlying28 _ _ info9 rfl (by decide) w2.heap.size (textL t) 9 R3 rfl (text_one _) HL.out (by decide) (by rfl) (by rfl) ?_; intro g3 cap3 w4 Q4 G4))
        have G := HF.out n2 n3 HI.out.1 Q4 G4
        simp only [List.length_map, List.length_take] at G
        exact ⟨⟨i + 1, by simp, by omega, G⟩, by simp [intOf]; omega⟩
      · have hb' : ¬ (b.toNat : Int) < 200 := by omega
        have hp : pgL i b = fillL b := by unfold pgL; rw [if_neg hb]
        have hg := fill_any b
        rw [← hp] at hg
        clear hp
        generalize pgL i b = t at hg HF HX
        go_wp2_with fail
        refine (hg _).mono ?_
        rintro _ w2 ⟨rfl, n2⟩
        go_wp2_with (first
          | (refine wpList_build_text (by rfl) _ (by rfl) t (by rfl) ?_; intro w3 R3 n3)
          | (refine wpList_append_pl (HI.out.1.after (n2.trans n3)) (by rfl) _ _ 28 (by rfl) Tryd.underlying28 _ _ info9 rfl (by decide) w2.heap.size (textL t) 9 R3 rfl (text_one _) HL.out (by decide) (by rfl) (by rfl) ?_; intro g3 cap3 w4 Q4 G4))
        have G := HF.out n2 n3 HI.out.1 Q4 G4
        simp only [List.length_map, List.length_take] at G
        exact ⟨⟨i + 1, by simp, by omega, G⟩, by simp [intOf]; omega⟩
    · obtain rfl : i = n := by omega
      go_wp2_with fail
      go_ret
      obtain ⟨h1, h2⟩ := HI.out
      rw [List.take_of_length_le (by rw [pagesL_length, HN.out]; exact Nat.le_refl _)] at h1
      exact ⟨_, rfl, h1, h2⟩

/-- A disk out of such pages. -/
theorem texts_of {w : World} {F : Nat → Prop} {a : Option Addr} {n c : Nat} {l : List (List UInt8)} (h : Pl w F 9 1 (.slice a n c) (l.map textL)) : Texts w a (l.map bs) ∧ n = l.length := by
  have := Pl.texts (l := l.map bs) (by rw [List.map_map]; exact h)
  rwa [List.length_map] at this
theorem from_pages {w w0 : World} {v : Value} {l : List (List UInt8)} (h : Pl w (Fresh w0) 9 1 v (l.map textL)) (hs : ∀ x ∈ l, x.length = 256) (lim : Nat) (h1 : 1 ≤ lim) (h2 : lim ≤ 200) (h3 : l.length ≤ lim) :
    Calls Tryd.prog 9 #[v, .int .i64 (lim : Int)] w fun e w' => New w w' ∧ ∃ p F, e = .returned (.tuple #[.pointer (some ⟨p, 0, none⟩), .bool true]) ∧ Disk w' F p ⟨lim, l, [], -1, false⟩ ∧ ∀ b, F b → w.heap.size ≤ b := by
  obtain ⟨a, c, rfl, _⟩ := h.form
  obtain ⟨hT, hn⟩ := texts_of h
  have := from_any w a c (l.map bs) hT (lim : Int) (by rw [List.length_map]; omega)
  rw [List.length_map] at this
  rw [List.length_map]
  have hB : fromB (l.map bs) (lim : Int) = true := by
    unfold fromB
    rw [Bool.and_eq_true]
    refine ⟨decide_eq_true ⟨by omega, by omega, by rw [List.length_map]; omega⟩, List.all_eq_true.2 fun t ht => ?_⟩
    obtain ⟨x, hx, rfl⟩ := List.mem_map.1 ht
    rw [bs_size, hs x hx]; rfl
  refine this.mono fun e w' hm => ?_
  unfold Made at hm
  rw [hB] at hm
  obtain ⟨n1, hm⟩ := hm
  rw [if_pos rfl] at hm
  have hL : (l.map bs).map L = l := by rw [List.map_map, show (L ∘ bs) = id from funext fun x => L_bs x, List.map_id]
  rw [hL, Int.toNat_natCast] at hm
  exact ⟨n1, hm⟩

set_option maxHeartbeats 2000000 in
theorem ints_any {w : World} {F G : Nat → Prop} {u v : Value} {l : List Nat} (h1 : Pl w F 3 1 u (intsL l)) (h2 : Pl w G 3 1 v (intsL l)) (hl : l.length ≤ 100000) :
    Calls Tryd.prog 27 #[u, v] w fun e w' => e = .returned (.bool true) ∧ New w w' := by
  obtain ⟨a, c, rfl, _⟩ := h1.form
  obtain ⟨b, d, rfl, _⟩ := h2.form
  rw [intsL_length]
  rw [intsL_length] at h1 h2
  obtain ⟨n, hn⟩ : ∃ n, l.length = n := ⟨_, rfl⟩
  have H1 : Hid (Pl w F 3 1 (.slice a n c) (intsL l)) := by rw [hn] at h1; exact h1
  have H2 : Hid (Pl w G 3 1 (.slice b n d) (intsL l)) := by rw [hn] at h2; exact h2
  have HN : Hid (l.length = n) := hn
  rw [hn] at hl ⊢
  clear h1 h2 hn
  go_enter Tryd.func27, Tryd.ntmps27
  go_wp2_with fail
  go_loopw [5] (fun u wr => ∃ i : Nat, u = .int .i64 (i : Int) ∧ i ≤ n ∧ New w wr) (fun u _ => n - (intOf u).toNat)
  case atStart => exact ⟨0, rfl, by omega, New.refl _⟩
  case round =>
    obtain ⟨i, rfl, hi, hN⟩ := hrel
    by_cases h : i < n
    · have P1 := H1.out.after hN
      have P2 := H2.out.after hN
      have hil : i < l.length := by rw [HN.out]; exact h
      obtain ⟨g1, c1, e1, _⟩ := P1.full (by rw [intsL_length]; omega)
      obtain ⟨g2, c2, e2, _⟩ := P2.full (by rw [intsL_length]; omega)
      rw [intsL_length, HN.out] at e1 e2
      cases e1
      cases e2
      have k1 := P1.num hil
      have k2 := P2.num hil
      generalize l.getD i 0 = x at k1 k2
      clear P1 P2 hil
      go_wp2_with fail
      go_quiet (fail)
      go_wp2_with fail
      exact ⟨⟨i + 1, by simp, by omega, hN.trans (New.drewN _ _)⟩, by simp [intOf]; omega⟩
    · obtain rfl : i = n := by omega
      go_wp2_with fail
      go_ret
      exact ⟨rfl, hN⟩
end Go.Proofs.YtkcoclpbkealgaaDoor
namespace Go.Proofs.YtkcoclpbkealgaaDoor

section
variable {A B C X Y : List UInt8}
def dk (A B C X : List UInt8) (ws : List (Nat × List UInt8)) : St := ⟨9, [A, B, C, X], ws, -1, false⟩
theorem wk1 (rA : rightB A = true) : (startP (dk A B C X []) 2).fetch 0 = ⟨0, A, ⟨dk A B C X [], [⟨0, A, 1, false, true⟩, noFm], 0⟩⟩ := by
  simp [PS.fetch, PS.readIn, PS.find, PS.bump, PS.setF, PS.fm, startP, keys, Fm.key, idx, isAt, freeAt, St.read, latest, latestN, dk, noFm, rA, List.findIdx?_cons]
theorem wk2 (a0 : A ≠ []) (rB : rightB B = true) : PS.fetch ⟨dk A B C X [], [⟨0, A, 1, false, true⟩, noFm], 0⟩ 1 = ⟨0, B, ⟨dk A B C X [], [⟨0, A, 1, false, true⟩, ⟨1, B, 1, false, true⟩], 0⟩⟩ := by
  simp [PS.fetch, PS.readIn, PS.find, PS.bump, PS.setF, PS.fm, keys, Fm.key, idx, isAt, freeAt, St.read, latest, latestN, dk, noFm, rB, a0, List.findIdx?_cons]
theorem wk3 (a0 : A ≠ []) (b0 : B ≠ []) : PS.fetch ⟨dk A B C X [], [⟨0, A, 1, false, true⟩, ⟨1, B, 1, false, true⟩], 0⟩ 2 = ⟨5, [], ⟨dk A B C X [], [⟨0, A, 1, false, true⟩, ⟨1, B, 1, false, true⟩], 0⟩⟩ := by
  simp [PS.fetch, PS.readIn, PS.find, chooseN, keys, Fm.key, idx, isAt, freeAt, dk, a0, b0, List.findIdx?_cons]
theorem wk4 (a0 : A ≠ []) (b0 : B ≠ []) : PS.unpin ⟨dk A B C X [], [⟨0, A, 1, false, true⟩, ⟨1, B, 1, false, true⟩], 0⟩ 0 = (0, ⟨dk A B C X [], [⟨0, A, 0, false, true⟩, ⟨1, B, 1, false, true⟩], 0⟩) := by
  simp [PS.unpin, PS.setF, PS.fm, keys, Fm.key, idx, isAt, dk, a0, b0, List.findIdx?_cons]
theorem wk5 (a0 : A ≠ []) (b0 : B ≠ []) (rC : rightB C = true) : PS.fetch ⟨dk A B C X [], [⟨0, A, 0, false, true⟩, ⟨1, B, 1, false, true⟩], 0⟩ 2 = ⟨0, C, ⟨dk A B C X [], [⟨2, C, 1, false, true⟩, ⟨1, B, 1, false, true⟩], 1⟩⟩ := by
  simp [PS.fetch, PS.readIn, PS.find, chooseN, PS.vacate, PS.bump, PS.setF, PS.fm, keys, Fm.key, idx, isAt, freeAt, St.read, latest, latestN, dk, noFm, rC, a0, b0, List.findIdx?_cons]
theorem wk6 (b0 : B ≠ []) (c0 : C ≠ []) (y : Y.length = 256) : PS.put ⟨dk A B C X [], [⟨2, C, 1, false, true⟩, ⟨1, B, 1, false, true⟩], 1⟩ 1 Y = (0, ⟨dk A B C X [], [⟨2, C, 1, false, true⟩, ⟨1, Y, 1, true, true⟩], 1⟩) := by
  simp [PS.put, PS.lay, PS.setF, PS.fm, keys, Fm.key, idx, isAt, dk, b0, c0, y, List.findIdx?_cons]
theorem wk7 (c0 : C ≠ []) (y0 : Y ≠ []) : PS.fetch ⟨dk A B C X [], [⟨2, C, 1, false, true⟩, ⟨1, Y, 1, true, true⟩], 1⟩ 3 = ⟨5, [], ⟨dk A B C X [], [⟨2, C, 1, false, true⟩, ⟨1, Y, 1, true, true⟩], 1⟩⟩ := by
  simp [PS.fetch, PS.readIn, PS.find, chooseN, keys, Fm.key, idx, isAt, freeAt, dk, c0, y0, List.findIdx?_cons]
theorem wk8 (c0 : C ≠ []) (y : Y.length = 256) (y0 : Y ≠ []) : PS.flush ⟨dk A B C X [], [⟨2, C, 1, false, true⟩, ⟨1, Y, 1, true, true⟩], 1⟩ = (0, ⟨dk A B C X [(1, Y)], [⟨2, C, 1, false, true⟩, ⟨1, Y, 1, false, true⟩], 1⟩) := by
  simp [PS.flush, flushL, dirties, sorted, PS.write, St.write, St.burn, PS.fm, keys, Fm.key, idx, isAt, dk, c0, y0, y, List.findIdx?_cons]
theorem wk9 : (dk A B C X [(1, Y)]).read 1 = (0, Y) := by
  simp [St.read, latest, latestN, dk]
theorem wk10 (c0 : C ≠ []) (y0 : Y ≠ []) : sorted (held [⟨2, C, 1, false, true⟩, ⟨1, Y, 1, false, true⟩]) = [1, 2] := by
  simp [held, keys, Fm.key, c0, y0, sorted, List.mergeSort]
theorem wk11 (c0 : C ≠ []) (y0 : Y ≠ []) : PS.unpin ⟨dk A B C X [(1, Y)], [⟨2, C, 1, false, true⟩, ⟨1, Y, 1, false, true⟩], 1⟩ 0 = (1, ⟨dk A B C X [(1, Y)], [⟨2, C, 1, false, true⟩, ⟨1, Y, 1, false, true⟩], 1⟩) := by
  simp [PS.unpin, keys, Fm.key, idx, isAt, c0, y0, List.findIdx?_cons]
theorem wk12 : sorted (dirties [⟨2, C, 1, false, true⟩, ⟨1, Y, 1, false, true⟩]) = [] := by
  simp [dirties, sorted]
end
end Go.Proofs.YtkcoclpbkealgaaDoor
namespace Go.Proofs.YtkcoclpbkealgaaDoor
open Go.RowKit
set_option maxRecDepth 20000

/-- A pool and its disk, all of it made since w0. -/
structure Up (w0 w : World) (m p g b q : Nat) (F : Nat → Prop) (S : PS) : Prop where
  pool : Pool w m p g b q F S
  above : Above w0.heap.size w0 w (own p g b F)
theorem Up.left {w0 w w' : World} {m m' p g b q : Nat} {F : Nat → Prop} {S S' : PS} (h : Up w0 w m p g b q F S) (k : PLeft p g b q F m' w S' w') : ∃ F', Up w0 w' m' p g b q F' S' := by
  obtain ⟨F', P', s'⟩ := k
  exact ⟨F', P', h.above.step s'⟩
theorem Up.new {w0 w w' : World} {m p g b q : Nat} {F : Nat → Prop} {S : PS} (h : Up w0 w m p g b q F S) (n : New w w') : Up w0 w' m p g b q F S := ⟨h.pool.after n, h.above.new n⟩
theorem Above.toNew {w0 w : World} {F : Nat → Prop} (h : Above w0.heap.size w0 w F) : New w0 w := h.below
theorem goodL_ne (n : Nat) (v : UInt8) : goodL n v ≠ [] := fun e => by have := goodL_length n v; rw [e] at this; cases this
theorem pagesL4 : pagesL [1, 2, 3, 250] = [goodL 0 1, goodL 1 2, goodL 2 3, fillL 250] := rfl
theorem lit4 (w : World) : Bytes (w.alloc (.cells #[.int .u8 1, .int .u8 2, .int .u8 3, .int .u8 250] 5)) (some ⟨w.heap.size, 0, none⟩) [1, 2, 3, 250] := fun _ => ⟨_, rfl, fun i hi => by
  have hr : Row (w.alloc (.cells #[.int .u8 1, .int .u8 2, .int .u8 3, .int .u8 250] 5)) w.heap.size #[.int .u8 1, .int .u8 2, .int .u8 3, .int .u8 250] 5 := Row.new w _ 5
  rw [Addr.add_mid, Nat.zero_add, hr.cell]
  match i, hi with
  | 0, _ => rfl
  | 1, _ => rfl
  | 2, _ => rfl
  | 3, _ => rfl⟩
/-- A new pool over a disk of the call's own. -/
theorem MadeP.up {w0 w w' : World} {q n : Nat} {Fd : Nat → Prop} {d : St} {e : Ending} (h : MadeP w q Fd d n e w') (hF : ∀ x, Fd x → w0.heap.size ≤ x) (hN : New w0 w) : ∃ p g b, e = .returned (.tuple #[.pointer (some ⟨p, 0, none⟩), .bool true]) ∧ ∀ m, d.ws.length ≤ m → Up w0 w' m p g b q Fd (startP d n) := by
  obtain ⟨p, g, b, he, hP, hp, hg, hb, n1⟩ := h
  have hs := hN.size
  refine ⟨p, g, b, he, fun m hm => ⟨hP m hm, hN.trans n1, fun x hx => ?_, Nat.le_trans hs n1.size⟩⟩
  rcases hx with rfl | rfl | rfl | hx
  · omega
  · omega
  · omega
  · exact hF x hx
theorem lit12 (w : World) : Pl (w.alloc (.cells #[.int .i64 1, .int .i64 2] 3)) (fun x => x = w.heap.size) 3 1 (.slice (some ⟨w.heap.size, 0, none⟩) 2 2) (intsL [1, 2]) :=
  Pl.make (es := intsL [1, 2]) (cur := #[.int .i64 1, .int .i64 2]) (fun e he => by unfold intsL at he; obtain ⟨n, _, rfl⟩ := List.mem_map.1 he; rfl) (Row.new w _ 3) (Nat.le_refl _) (by unfold maxLen; omega) rfl rfl rfl

set_option maxHeartbeats 8000000 in
theorem wakes8 (w : World) (hT : Tab w) : Calls Tryd.prog 8 #[] w fun e w' => e = .returned (.bool true) ∧ New w w' := by
  have hpg := lawpages_any (w.alloc (.cells #[.int .u8 1, .int .u8 2, .int .u8 3, .int .u8 250] 5)) (some ⟨w.heap.size, 0, none⟩) 4 [1, 2, 3, 250] (lit4 w) (by decide)
  rw [pagesL4] at hpg
  have hsz : ∀ x ∈ [goodL 0 1, goodL 1 2, goodL 2 3, fillL 250], x.length = 256 := fun x hx => by
    simp only [List.mem_cons, List.not_mem_nil, or_false] at hx
    rcases hx with rfl | rfl | rfl | rfl
    · exact goodL_length _ _
    · exact goodL_length _ _
    · exact goodL_length _ _
    · exact fillL_length _
  have HSZ : Hid (∀ x ∈ [goodL 0 1, goodL 1 2, goodL 2 3, fillL 250], x.length = 256) := hsz
  have hA0 := goodL_ne 0 1
  have hB0 := goodL_ne 1 2
  have hC0 := goodL_ne 2 3
  have hY0 := goodL_ne 1 9
  have hY := goodL_length 1 9
  have e1 := wk1 (B := goodL 1 2) (C := goodL 2 3) (X := fillL 250) (goodL_right 0 1)
  have e2 := wk2 (C := goodL 2 3) (X := fillL 250) hA0 (goodL_right 1 2)
  have e3 := wk3 (C := goodL 2 3) (X := fillL 250) hA0 hB0
  have e4 := wk4 (C := goodL 2 3) (X := fillL 250) hA0 hB0
  have e5 := wk5 (X := fillL 250) hA0 hB0 (goodL_right 2 3)
  have e6 := wk6 (A := goodL 0 1) (X := fillL 250) hB0 hC0 hY
  have e7 := wk7 (A := goodL 0 1) (B := goodL 1 2) (X := fillL 250) hC0 hY0
  have e8 := wk8 (A := goodL 0 1) (B := goodL 1 2) (X := fillL 250) hC0 hY hY0
  have e9 := wk9 (A := goodL 0 1) (B := goodL 1 2) (C := goodL 2 3) (X := fillL 250) (Y := goodL 1 9)
  have e10 := wk10 hC0 hY0
  have e11 := wk11 (A := goodL 0 1) (B := goodL 1 2) (X := fillL 250) hC0 hY0
  have e12 := wk12 (C := goodL 2 3) (Y := goodL 1 9)
  have HG1 : ∀ w, Calls Tryd.prog 19 #[.int .i64 1, .int .u8 9] w fun e w' => e = .returned (.string (bs (goodL 1 9))) ∧ New w w' := good_any 1 (by decide) 9
  have HG0 : ∀ w, Calls Tryd.prog 19 #[.int .i64 0, .int .u8 1] w fun e w' => e = .returned (.string (bs (goodL 0 1))) ∧ New w w' := good_any 0 (by decide) 1
  have hy2 : L (bs (goodL 1 9)) = goodL 1 9 := L_bs _
  generalize goodL 0 1 = A at *
  generalize goodL 1 2 = B at *
  generalize goodL 2 3 = C at *
  generalize goodL 1 9 = Y at *
  generalize fillL 250 = X at *
  have HE : Hid ((startP (dk A B C X []) 2).fetch 0 = ⟨0, A, ⟨dk A B C X [], [⟨0, A, 1, false, true⟩, noFm], 0⟩⟩ ∧ PS.fetch ⟨dk A B C X [], [⟨0, A, 1, false, true⟩, noFm], 0⟩ 1 = ⟨0, B, ⟨dk A B C X [], [⟨0, A, 1, false, true⟩, ⟨1, B, 1, false, true⟩], 0⟩⟩ ∧ PS.fetch ⟨dk A B C X [], [⟨0, A, 1, false, true⟩, ⟨1, B, 1, false, true⟩], 0⟩ 2 = ⟨5, [], ⟨dk A B C X [], [⟨0, A, 1, false, true⟩, ⟨1, B, 1, false, true⟩], 0⟩⟩) := ⟨e1, e2, e3⟩
  have HE4 : Hid (PS.unpin ⟨dk A B C X [], [⟨0, A, 1, false, true⟩, ⟨1, B, 1, false, true⟩], 0⟩ 0 = (0, ⟨dk A B C X [], [⟨0, A, 0, false, true⟩, ⟨1, B, 1, false, true⟩], 0⟩)) := e4
  have HE5 : Hid (PS.fetch ⟨dk A B C X [], [⟨0, A, 0, false, true⟩, ⟨1, B, 1, false, true⟩], 0⟩ 2 = ⟨0, C, ⟨dk A B C X [], [⟨2, C, 1, false, true⟩, ⟨1, B, 1, false, true⟩], 1⟩⟩) := e5
  have HE6 : Hid (PS.put ⟨dk A B C X [], [⟨2, C, 1, false, true⟩, ⟨1, B, 1, false, true⟩], 1⟩ 1 Y = (0, ⟨dk A B C X [], [⟨2, C, 1, false, true⟩, ⟨1, Y, 1, true, true⟩], 1⟩)) := e6
  have HE7 : Hid (PS.fetch ⟨dk A B C X [], [⟨2, C, 1, false, true⟩, ⟨1, Y, 1, true, true⟩], 1⟩ 3 = ⟨5, [], ⟨dk A B C X [], [⟨2, C, 1, false, true⟩, ⟨1, Y, 1, true, true⟩], 1⟩⟩) := e7
  have HE8 : Hid (PS.flush ⟨dk A B C X [], [⟨2, C, 1, false, true⟩, ⟨1, Y, 1, true, true⟩], 1⟩ = (0, ⟨dk A B C X [(1, Y)], [⟨2, C, 1, false, true⟩, ⟨1, Y, 1, false, true⟩], 1⟩)) := e8
  have HE9 : Hid ((dk A B C X [(1, Y)]).read 1 = (0, Y) ∧ sorted (held [⟨2, C, 1, false, true⟩, ⟨1, Y, 1, false, true⟩]) = [1, 2] ∧ PS.unpin ⟨dk A B C X [(1, Y)], [⟨2, C, 1, false, true⟩, ⟨1, Y, 1, false, true⟩], 1⟩ 0 = (1, ⟨dk A B C X [(1, Y)], [⟨2, C, 1, false, true⟩, ⟨1, Y, 1, false, true⟩], 1⟩) ∧ sorted (dirties [⟨2, C, 1, false, true⟩, ⟨1, Y, 1, false, true⟩]) = []) := ⟨e9, e10, e11, e12⟩
  have HY2 : Hid (L (bs Y) = Y) := hy2
  have HT : Hid (Tab w) := hT
  clear e1 e2 e3 e4 e5 e6 e7 e8 e9 e10 e11 e12 hA0 hB0 hC0 hY0 hY hy2 hsz hT
  go_enter Tryd.func8, Tryd.ntmps8
  go_wp2_with fail
  refine hpg.mono ?_
  rintro _ w1 ⟨v1, rfl, Q1, n1⟩
  clear hpg
  have N1 : New w w1 := ((New.refl w).alloc _).trans n1
  have hfr := from_pages Q1 HSZ.out 9 (by decide) (by decide) (by show 4 ≤ 9; decide)
  clear Q1 n1 HSZ
  go_wp2_with fail
  refine hfr.mono ?_
  rintro _ w2 ⟨n2, q, Fd, rfl, D2, hF2⟩
  clear hfr
  have N2 := N1.trans n2
  have hs1 := N1.size
  have hF2' : ∀ x, Fd x → w.heap.size ≤ x := fun x hx => Nat.le_trans hs1 (hF2 x hx)
  have h02 : ¬ Fd 0 := fun h => by have h1 := hF2' 0 h; have h2 := HT.out.1; omega
  have hnp := newpool_any D2 (HT.out.after N2) h02 2 (by decide) (by decide)
  clear D2 hs1 hF2 h02
  go_wp2_with fail
  refine hnp.mono ?_
  intro e w3 hm3
  obtain ⟨p, g, b, rfl, hU⟩ := hm3.up hF2' N2
  clear hm3 hnp
  have U3 := hU 0 (Nat.le_refl _)
  clear hU hF2' N1 N2 n2
  have hc := fetch_any U3.pool (by decide) 0 (by decide) (by decide)
  change Calls Tryd.prog 14 #[.pointer (some ⟨p, 0, none⟩), .int .i64 0] w3 fun e w' => e = .returned (.tuple #[.string (bs ((startP (dk A B C X []) 2).fetch 0).t), .int .i64 ((startP (dk A B C X []) 2).fetch 0).e]) ∧ PLeft p g b q Fd 2 w3 ((startP (dk A B C X []) 2).fetch 0).S w' at hc
  rw [HE.out.1] at hc
  dsimp only at hc
  go_wp2_with fail
  refine hc.mono ?_
  rintro _ w4 ⟨rfl, l4⟩
  obtain ⟨F4, U4⟩ := U3.left l4
  clear hc l4 U3
  have hc := fetch_any U4.pool (by decide) 1 (by decide) (by decide)
  rw [HE.out.2.1] at hc
  dsimp only at hc
  go_wp2_with fail
  refine hc.mono ?_
  rintro _ w5 ⟨rfl, l5⟩
  obtain ⟨F5, U5⟩ := U4.left l5
  clear hc l5 U4
  have hc := fetch_any U5.pool (by decide) 2 (by decide) (by decide)
  rw [HE.out.2.2] at hc
  dsimp only at hc
  go_wp2_with fail
  refine hc.mono ?_
  rintro _ w6 ⟨rfl, l6⟩
  obtain ⟨F6, U6⟩ := U5.left l6
  clear hc l6 U5
  have hc := unpin_any U6.pool (by decide) 0 (by decide) (by decide)
  rw [HE4.out] at hc
  dsimp only at hc
  go_wp2_with fail
  refine hc.mono ?_
  rintro _ w7 ⟨rfl, l7⟩
  obtain ⟨F7, U7⟩ := U6.left l7
  clear hc l7 U6
  have hc := fetch_any U7.pool (by decide) 2 (by decide) (by decide)
  rw [HE5.out] at hc
  dsimp only at hc
  go_wp2_with fail
  refine hc.mono ?_
  rintro _ w8 ⟨rfl, l8⟩
  obtain ⟨F8, U8⟩ := U7.left l8
  clear hc l8 U7
  go_wp2_with fail
  refine (HG1 _).mono ?_
  rintro _ w85 ⟨rfl, n85⟩
  have U85 := U8.new n85
  clear U8 n85
  have hc := put_any' U85.pool (by decide) 1 (by decide) (by decide) (bs Y)
  rw [HY2.out, HE6.out] at hc
  dsimp only at hc
  go_wp2_with fail
  refine hc.mono ?_
  rintro _ w9 ⟨rfl, l9⟩
  obtain ⟨F9, U9⟩ := U85.left l9
  clear hc l9 U85
  have hc := fetch_any U9.pool (by decide) 3 (by decide) (by decide)
  rw [HE7.out] at hc
  dsimp only at hc
  go_wp2_with fail
  refine hc.mono ?_
  rintro _ w10 ⟨rfl, l10⟩
  obtain ⟨F10, U10⟩ := U9.left l10
  clear hc l10 U9
  have hc := flush_any U10.pool (by decide)
  rw [HE8.out] at hc
  dsimp only at hc
  go_wp2_with fail
  refine hc.mono ?_
  rintro _ w11 ⟨rfl, l11⟩
  obtain ⟨F11, U11⟩ := U10.left l11
  clear hc l11 U10
  have hc := read_any U11.pool.bits.disk 1
  dsimp only at hc
  rw [HE9.out.1] at hc
  dsimp only at hc
  go_wp2_with fail
  refine hc.mono ?_
  rintro _ w12 ⟨rfl, n12⟩
  have U12 := U11.new n12
  clear hc n12 U11
  have hc := held_any U12.pool (by decide)
  dsimp only at hc
  rw [HE9.out.2.1] at hc
  go_wp2_with fail
  refine hc.mono ?_
  rintro _ w13 ⟨v13, rfl, Q13, n13⟩
  have U13 := U12.new n13
  have Q13' := Q13
  clear hc n13
  have hc := unpin_any U13.pool (by decide) 0 (by decide) (by decide)
  rw [HE9.out.2.2.1] at hc
  dsimp only at hc
  go_wp2_with fail
  refine hc.mono ?_
  rintro _ w14 ⟨rfl, l14⟩
  obtain ⟨F14, P14, s14⟩ := l14
  have U14 : Up w w14 _ p g b q F14 _ := ⟨P14, U13.above.step s14⟩
  have Q14 : Pl w14 (fun x => w12.heap.size ≤ x) 3 1 v13 (intsL [1, 2]) := Q13.of (fun x hx hlt => s14.block x hlt (fun h => by have h1 := U12.pool.bits.own_lt x h; have h2 : w12.heap.size ≤ x := hx; omega)) (fun _ h _ => h)
  clear hc U13 U12 P14 s14 Q13 Q13'
  go_wp2_with fail
  refine (HG0 _).mono ?_
  rintro _ w15 ⟨rfl, n15⟩
  have U15 := U14.new n15
  have Q15 := Q14.after n15
  clear U14 Q14 n15
  go_wp2_with fail
  refine (HG1 _).mono ?_
  rintro _ w16 ⟨rfl, n16⟩
  have U16 := U15.new n16
  have Q16 := Q15.after n16
  clear U15 Q15 n16
  have n17 : New w16 (w16.alloc (.cells #[.int .i64 1, .int .i64 2] 3)) := (New.refl w16).alloc _
  have hci := ints_any (Q16.after n17) (lit12 w16) (by decide)
  go_wp2_with fail
  refine hci.mono ?_
  rintro _ w18 ⟨rfl, n18⟩
  have U18 := (U16.new n17).new n18
  clear U16 n17 n18 hci Q16
  have hcd := dirty_any U18.pool
  dsimp only at hcd
  rw [HE9.out.2.2.2] at hcd
  go_wp2_with fail
  refine hcd.mono ?_
  rintro _ w19 ⟨v19, rfl, Q19, n19⟩
  obtain ⟨a19, c19, rfl, _⟩ := Q19.form
  have U19 := U18.new n19
  clear U18 n19 hcd Q19
  go_wp2_with fail
  go_ret
  exact ⟨rfl, U19.above.toNew⟩
end Go.Proofs.YtkcoclpbkealgaaDoor
