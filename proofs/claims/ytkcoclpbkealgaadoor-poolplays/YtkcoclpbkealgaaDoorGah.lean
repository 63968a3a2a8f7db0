/-
  What Crash leaves. What From and New make. What Pages and Waiting tell. What a disk's calls leave, above a place; a region whose first operations read. Rows of pages in memory; a disk in memory; what a call may change. The sum as the program tells it: stepHalf, Add, Of: what each returns, for every rest and every text, where the table of steps lies as its initialiser lays it. What Add and Of return: the sum of a text behind another's sum, for every sum and every text. What Put returns: a number's four bytes, the highest first, for every number; the document's own Put as well. What joined and num return: the number whose bytes a text is, the highest first; at most four.
-/
import Derived.Test.YtkcoclpbkealgaaDoorGag
import Derived.Test.YtkcoclpbkealgaaDoorRows
import Derived.Test.YtkcoclpbkealgaaDoorGaa
import Derived.Deep.AppendLies
import Derived.OwnWalk
import Derived.Laws.BytesString
import Derived.WalkKit
import Derived.WalkSpells
import Derived.WalkLawsBesides
import Derived.RowKit3
import Derived.Below
import Derived.Laws.BitsLemmas
namespace Go.Proofs.YtkcoclpbkealgaaDoor
open Go.RowKit
set_option maxRecDepth 20000

/-- A list of bytes that is read. -/
def Bytes (w : World) (a : Option Addr) (cs : List UInt8) : Prop := 0 < cs.length → ∃ x, a = some x ∧ ∀ i, i < cs.length → w.cell? (x.add i) = some (.int .u8 ((cs.getD i 0).toNat : Int))
theorem add_block (x : Addr) (i : Nat) : (x.add i).block = x.block := by unfold Addr.add; split <;> rfl
theorem Bytes.of {w w' : World} {a : Option Addr} {cs : List UInt8} (h : Bytes w a cs) (e : ∀ x, a = some x → x.block < w.heap.size → w'.heap[x.block]? = w.heap[x.block]?) : Bytes w' a cs := fun h0 => by
  obtain ⟨x, rfl, hx⟩ := h h0
  refine ⟨x, rfl, fun i hi => ?_⟩
  have hb := World.block_lt_of_cell? w _ (hx i hi)
  rw [add_block] at hb
  rw [World.cell?_of_block (w := w) (a := x.add i) (by rw [add_block]; exact e x rfl hb)]
  exact hx i hi
theorem Bytes.step {w w' : World} {F F' : Nat → Prop} {a : Option Addr} {cs : List UInt8} (h : Bytes w a cs) (k : Step F F' w w') (hF : ∀ x, a = some x → ¬ F x.block) : Bytes w' a cs := h.of fun x hx hb => k.block _ hb (hF x hx)
theorem Bytes.stepMore {w w' : World} {F F' : Nat → Prop} {a : Option Addr} {cs : List UInt8} (h : Bytes w a cs) (k : Step F F' w w') (hF : 0 < cs.length → ∀ x, a = some x → ¬ F x.block) : Bytes w' a cs := fun h0 => (h.of fun x hx hb => k.block _ hb (hF h0 x hx)) h0
theorem Bytes.after {w w' : World} {a : Option Addr} {cs : List UInt8} (h : Bytes w a cs) (k : New w w') : Bytes w' a cs := h.of fun _ _ hb => k.block _ hb

theorem Disk.noWait {w : World} {F : Nat → Prop} {p : Nat} {S : St} (h : Disk w F p S) : Disk (w.setCell ⟨p, 2, none⟩ (.slice none 0 0)) F p { S with ws := [] } := by
  obtain ⟨v1, v2, R, r1, r2⟩ := h.has
  have e : ∀ b, b ≠ p → (w.setCell ⟨p, 2, none⟩ (.slice none 0 0)).heap[b]? = w.heap[b]? := fun b hb => Below.heap_setCell _ _ _ _ hb
  exact ⟨⟨h.ok.page, (by intro x hx; cases hx), h.ok.lim, h.ok.len, Nat.zero_le _, h.ok.lo, h.ok.hi⟩, h.base, fun b hb => by simpa [World.setCell] using h.inside b hb, v1, .slice none 0 0, R.set 2 _, r1.of (fun b hb _ => e b hb.2) (fun _ h _ => h), Pl.nil _ _ _ _⟩
theorem Disk.setPage {w W5 W6 : World} {F : Nat → Prop} {p g n c i : Nat} {S : St} {v2 : Value} {q : List UInt8} (D : Disk w F p S) (R : Row w p #[.int .i64 (S.lim : Int), .slice (some ⟨g, 0, none⟩) n c, v2, .int .i64 S.fuse, .bool S.down] 81)
    (P2 : Pl w (fun b => F b ∧ b ≠ p ∧ (Value.slice (some ⟨g, 0, none⟩) n c).ownBlock ≠ some b) 113 257 v2 (S.ws.map waitL)) (N : New w W5) (B : But g W5 W6) (hg : F g ∧ g ≠ p)
    (Q : Pl W6 (fun b => F b ∧ b ≠ p) 85 256 (.slice (some ⟨g, 0, none⟩) n c) ((S.ps.map cellsL).set i (cellsL q))) (hq : q.length = 256) : Disk W6 F p { S with ps := S.ps.set i q } ∧ Step F F w W6 := by
  refine ⟨⟨⟨?_, ?_, D.ok.lim, ?_, D.ok.few, D.ok.lo, D.ok.hi⟩, D.base, fun b hb => ?_, .slice (some ⟨g, 0, none⟩) n c, v2, (R.after N).of (B.block p (Ne.symm hg.2)), ?_, ?_⟩, (Step.new N).trans (B.step hg.1)⟩
  · exact set_all (P := fun l => l.length = 256) D.ok.page hq
  · intro x hx
    have := D.ok.wait x hx
    exact ⟨by show x.1 < (S.ps.set i q).length; rw [List.length_set]; exact this.1, this.2⟩
  · show (S.ps.set i q).length ≤ S.lim
    rw [List.length_set]; exact D.ok.len
  · rw [B.size]; exact Nat.lt_of_lt_of_le (D.inside b hb) N.size
  · show Pl _ _ 85 256 _ ((S.ps.set i q).map cellsL)
    rw [List.map_set]; exact Q
  · exact (P2.after N).of (fun b hb _ => B.block b (fun e => hb.2.2 (by rw [e]; rfl))) (fun _ h _ => h)

theorem wpList_min {P : Program} {w : World} {ops : Array Oper} {rest : List Oper} {o : Oper} {a : Act} {Q : Exit → Act → World → Prop} (hgd : o.guard = none) (s t : Operand) (ho : o.op = .call { callee := .builtin .min, args := #[s, t], argTypes := #[3, 3] }) (x y k : Int) (hx : a.eval s = .int .i64 x) (hy : a.eval t = .int .i64 y)
    (hk : (if y < x then y else x) = k) (h : wpList P ops Q rest (a.put o.dst (.int .i64 k)) w) : wpList P ops Q (o :: rest) a w := by
  refine wpList_run hgd _ w ?_ h
  unfold execOp
  simp only [ho, resolve, invoke, builtin, Sem.run_bind, Sem.run_pure, Result.andThen_ok, List.map_toArray, List.map_cons, List.map_nil, hx, hy, run_min_int2, hk]

theorem crash_nil (a : Option Addr) (n c : Nat) (w : World) : Calls Tryd.prog 25 #[.pointer none, .slice a n c] w fun e w' => e = .returned (.tuple #[]) ∧ w' = w := by
  go_enter Tryd.func25, Tryd.ntmps25
  go_wp2_with fail
  refine bodyPost_ret (results_none rfl _ _ _) rfl ?_
  exact ⟨rfl, rfl⟩

set_option maxRecDepth 20000 in
set_option maxHeartbeats 2000000 in
theorem crash_more {w : World} {F : Nat → Prop} {p : Nat} {S : St} (D : Disk w F p S) (a : Option Addr) (c : Nat) (cs : List UInt8) (hB : Bytes w a cs) (hF : 0 < cs.length → ∀ x, a = some x → ¬ F x.block) (hcs : cs.length ≤ 4611686018427387904) :
    Calls Tryd.prog 25 #[.pointer (some ⟨p, 0, none⟩), .slice a cs.length c] w fun e w' => e = .returned (.tuple #[]) ∧ Left F p w (S.crash cs) w' := by
  have HD : Hid (Disk w F p S) := D
  obtain ⟨a1, c1, a2, c2, _, h1, h2, _, _, hf, R, P1, P2⟩ := D.open
  clear D h1 hf R P1 P2
  have hfew := HD.out.ok.few
  have HB : Hid (Bytes w a cs ∧ (0 < cs.length → ∀ x, a = some x → ¬ F x.block)) := ⟨hB, hF⟩
  clear hB hF
  obtain ⟨K, hK⟩ : ∃ K, min cs.length S.ws.length = K := ⟨_, rfl⟩
  have hmin : (if (S.ws.length : Int) < (cs.length : Int) then (S.ws.length : Int) else (cs.length : Int)) = (K : Int) := by split <;> omega
  have HK : Hid (K = min cs.length S.ws.length) := hK.symm
  have hK1 : K ≤ cs.length := by omega
  have hK2 : K ≤ S.ws.length := by omega
  clear hK
  go_enter Tryd.func25, Tryd.ntmps25
  go_wp2_with (refine wpList_min (by rfl) _ _ (by rfl) (cs.length : Int) (S.ws.length : Int) (K : Int) (by rfl) (by rfl) hmin ?_)
  clear hmin h2
  go_loopw [16] (fun i wr => ∃ k : Nat, k ≤ K ∧ i = .int .i64 (k : Int) ∧ Left F p w { S with ps := crashN S.ps S.ws cs k } wr) (fun i _ => K - (intOf i).toNat)
  case atStart => exact ⟨0, by omega, rfl, Left.refl HD.out⟩
  case round =>
    obtain ⟨k, hk, rfl, F', D4, S4⟩ := hrel
    have hpl := D4.lt
    by_cases hlt : k < K
    · have hlt' : (k : Int) < (K : Int) := by omega
      have hkc : (k : Int) < (cs.length : Int) := by omega
      have hkw : (k : Int) < (S.ws.length : Int) := by omega
      have hx := map_getD waitL S.ws k (0, []) (by omega)
      obtain ⟨hx1, hx2⟩ := HD.out.ok.at (i := k) (by omega)
      have HL : Hid (crashN S.ps S.ws cs (k + 1) = (crashN S.ps S.ws cs k).set (S.ws.getD k (0, [])).1 (tear ((crashN S.ps S.ws cs k).getD (S.ws.getD k (0, [])).1 []) (S.ws.getD k (0, [])).2 (cs.getD k 0).toNat)) := rfl
      have hll := crashN_length S.ps S.ws cs k
      generalize S.ws.getD k (0, []) = x at hx hx1 hx2 HL
      obtain ⟨at_, d⟩ := x
      simp only at hx1 hx2
      generalize crashN S.ps S.ws cs k = lp at D4 HL hll
      have hpg : (lp.getD at_ []).length = 256 := by
        have h : at_ < lp.length := by omega
        rw [List.getD_eq_getElem?_getD, List.getElem?_eq_getElem h]; exact D4.ok.page _ (List.getElem_mem h)
      have hpx := map_getD cellsL lp at_ [] (by omega)
      obtain ⟨b1, d1, b2, d2, _, k1, k2, _, _, hf, R, P1, P2⟩ := D4.open
      simp only at k1 k2 R P1 P2
      obtain ⟨g1, _, e1, hg1, _, _⟩ := P1.full (by rw [List.length_map]; omega)
      rw [List.length_map] at e1
      cases e1
      obtain ⟨g2, _, e2, hg2, _, _⟩ := P2.full (by rw [List.length_map]; omega)
      rw [List.length_map] at e2
      cases e2
      rw [hll] at k1 R P1 P2
      obtain ⟨xa, rfl, hxa⟩ := (HB.out.1.stepMore S4 HB.out.2) (by omega)
      have hby := hxa k (by omega)
      have hxb : xa.block < wr.heap.size := by have := World.block_lt_of_cell? wr _ hby; rwa [add_block] at this
      clear hxa
      have hc256 : (cs.getD k 0).toNat < 256 := UInt8.toNat_lt _
      generalize (cs.getD k 0).toNat = cb at hby HL hc256
      generalize lp.getD at_ [] = pg at hpg hpx HL
      have hx1' : (at_ : Int) < (S.ps.length : Int) := by omega
      have ht := torn_any pg d hpg hx2 cb hc256
      have HD4 : Hid (Disk wr F' p { S with ps := lp }) := D4
      have HR : Hid (Row wr p #[.int .i64 (S.lim : Int), .slice (some ⟨g1, 0, none⟩) S.ps.length d1, .slice (some ⟨g2, 0, none⟩) S.ws.length d2, .int .i64 S.fuse, .bool S.down] 81) := R
      clear D4 hf R HK
      go_wp2_with (first
        | refine wpList_load_pl (by rfl) 113 _ (by rfl) _ 113 257 g2 _ _ k _ _ _ P2 hx (by rfl) Tryd.underlying113 rfl (by rw [waitL_length hx2]; exact i80) ?_
        | (refine wpList_alloc_new (by rfl) 113 (by rfl) _ _ _ info80 ?_; intro W1 R1 M1)
        | (refine wpList_store_new (by rfl) 113 _ _ (by rfl) wr.heap.size (waitL (at_, d)).toArray (by rfl) (by rfl) 113 _ R1 (by rw [List.size_toArray, waitL_length hx2]; exact i80) (by rw [List.size_toArray, List.size_toArray, waitL_length (x := (at_, d)) hx2, waitL_length (x := (0, zeros)) zeros_length]) (waitL_all _) ?_; intro W2 R2 B2; have M2 : New wr W2 := B2.new M1 (Nat.le_refl _)))
      have hne := NewW.ne W2
      have P1w := P1.after M2
      have hq1 : ∀ q : NewW W2, q.v.cell? ⟨p, 1, none⟩ = some (.slice (some ⟨g1, 0, none⟩) S.ps.length d1) := fun q => NewW.cell ((M2.cell hpl).trans k1) q
      have hq0 : ∀ q : NewW W2, q.v.cell? ⟨wr.heap.size, 0, none⟩ = some (.int .i64 (at_ : Int)) := fun q => NewW.cell (waitL_at R2) q
      have hqb : ∀ q : NewW W2, q.v.cell? (xa.add k) = some (.int .u8 (cb : Int)) := fun q => by
        rw [q.h.cell (p := xa.add k) (by rw [add_block]; exact Nat.lt_of_lt_of_le hxb M2.size), M2.cell (p := xa.add k) (by rw [add_block]; exact hxb)]
        exact hby
      obtain ⟨hpi, hpe⟩ := List.getElem?_eq_some_iff.1 hpx
      have hqp : ∀ q : NewW W2, q.v.rangeAt g1 (at_ * 256) (cellsL pg) := fun q => by
        have := (P1w.after q.h).range hpi
        rw [hpe] at this
        exact this
      have hqd : ∀ q : NewW W2, q.v.rangeAt wr.heap.size 1 (cellsL d) := fun q => waitL_range (R2.after q.h) hx2
      clear k1 k2 hby hpe
      refine region_ord [0, 1, 2, 3, 4, 5, 6, 7, 8, 9, 10, 11, 12, 13, 14, 15, 16, 17, 18, 19, 20, 21] [22] W2 (New.refl W2) (by kernel_rfl) (by kernel_rfl) ?_
      simp only [pick, List.getElem?_cons_succ, List.getElem?_cons_zero, Option.toList_some, List.cons_append, List.nil_append]
      iterate 13 (go_big_quiet_step (fail))
      refine wpQuiet_load_mid (by rfl) 85 _ (by rfl) g1 (at_ * 256) (by rfl) (cellsL pg) hqp _ Tryd.underlying85 rfl (by rw [cellsL_length, hpg]; exact i77) ?_
      simp only [Act.put, List.setIfInBounds_toArray, List.set_cons_zero, List.set_cons_succ]
      iterate 1 (go_big_quiet_step (fail))
      refine wpQuiet_load_mid (by rfl) 85 _ (by rfl) wr.heap.size 1 (by rfl) (cellsL d) hqd _ Tryd.underlying85 rfl (by rw [cellsL_length, hx2]; exact i77) ?_
      simp only [Act.put, List.setIfInBounds_toArray, List.set_cons_zero, List.set_cons_succ]
      iterate 6 (go_big_quiet_step (first | (go_at_call 53; exact Calls.neww (ht _))))
      refine wpQuiet_nil ?_
      rintro W5 ⟨⟨_, N5⟩, rfl⟩
      have P15 := P1w.after N5
      have htl : (tear pg d cb).length = 256 := tear_length hpg hx2
      clear hq1 hq0 hqb hqp hqd hne ht
      go_wp2_with (refine wpList_store_pl (by rfl) 85 _ _ (by rfl) _ 85 256 g1 _ _ at_ _ (cellsL (tear pg d cb)) P15 (by rw [List.length_map]; omega) (by rfl) (by rfl) (by rw [cellsL_length, htl]) (by rw [cellsL_size, htl]; exact i77) (cellsL_one _) ?_; intro W6 Q6 B6)
      obtain ⟨D6, S6⟩ := Disk.setPage HD4.out HR.out P2 (M2.trans N5) B6 hg1 Q6 htl
      refine ⟨⟨k + 1, by omega, by go_num, F', ?_, S4.trans S6⟩, by simp [intOf]; omega⟩
      rw [HL.out]
      exact D6
    · obtain rfl : k = K := by omega
      obtain ⟨b1, d1, b2, d2, _, _, k2, k3, k4, hf, _⟩ := D4.open
      have f2 := hf 2
      have f3 := hf 3
      have f4 := hf 4
      have HD4 : Hid (Disk wr F' p { S with ps := crashN S.ps S.ws cs k }) := D4
      clear D4 hf
      go_wp2_with fail
      go_end0
      refine ⟨rfl, F', ?_, ((S4.trans (Step.setCell _ (a := ⟨p, 2, none⟩) HD4.out.base _)).trans (Step.setCell _ (a := ⟨p, 3, none⟩) HD4.out.base _)).trans (Step.setCell _ (a := ⟨p, 4, none⟩) HD4.out.base _)⟩
      unfold St.crash crashed
      rw [← HK.out]
      exact (HD4.out.noWait.fuse (-1) (by omega) (by omega)).down false
theorem crash_any {w : World} {F : Nat → Prop} {p : Nat} {S : St} (D : Disk w F p S) (a : Option Addr) (c : Nat) (cs : List UInt8) (hB : Bytes w a cs) (hF : ∀ x, a = some x → ¬ F x.block) (hcs : cs.length ≤ 4611686018427387904) :
    Calls Tryd.prog 25 #[.pointer (some ⟨p, 0, none⟩), .slice a cs.length c] w fun e w' => e = .returned (.tuple #[]) ∧ Left F p w (S.crash cs) w' := crash_more D a c cs hB (fun _ => hF) hcs

end Go.Proofs.YtkcoclpbkealgaaDoor
namespace Go.Proofs.YtkcoclpbkealgaaDoor
open Go.RowKit
set_option maxRecDepth 20000

/-- A list of texts that is read. -/
def Texts (w : World) (a : Option Addr) (ts : List ByteArray) : Prop := 0 < ts.length → ∃ x, a = some x ∧ ∀ i, i < ts.length → w.cell? (x.add i) = some (.string (ts.getD i ⟨#[]⟩))
theorem Texts.of {w w' : World} {a : Option Addr} {ts : List ByteArray} (h : Texts w a ts) (e : ∀ x, a = some x → x.block < w.heap.size → w'.heap[x.block]? = w.heap[x.block]?) : Texts w' a ts := fun h0 => by
  obtain ⟨x, rfl, hx⟩ := h h0
  refine ⟨x, rfl, fun i hi => ?_⟩
  have hb := World.block_lt_of_cell? w _ (hx i hi)
  rw [add_block] at hb
  rw [World.cell?_of_block (w := w) (a := x.add i) (by rw [add_block]; exact e x rfl hb)]
  exact hx i hi
theorem Texts.after {w w' : World} {a : Option Addr} {ts : List ByteArray} (h : Texts w a ts) (k : New w w') : Texts w' a ts := h.of fun _ _ hb => k.block _ hb
theorem Texts.step {w w' : World} {F F' : Nat → Prop} {a : Option Addr} {ts : List ByteArray} (h : Texts w a ts) (k : Step F F' w w') (hF : ∀ x, a = some x → ¬ F x.block) : Texts w' a ts := h.of fun x hx hb => k.block _ hb (hF x hx)

/-- May such a disk be made? -/
def fromB (ts : List ByteArray) (lim : Int) : Bool := decide (1 ≤ lim ∧ lim ≤ 200 ∧ (ts.length : Int) ≤ lim) && ts.all fun t => t.size == 256
/-- A new disk, or none. -/
def Made (w : World) (ok : Bool) (S : St) (e : Ending) (w' : World) : Prop :=
  New w w' ∧ if ok then ∃ p F, e = .returned (.tuple #[.pointer (some ⟨p, 0, none⟩), .bool true]) ∧ Disk w' F p S ∧ ∀ b, F b → w.heap.size ≤ b else e = .returned (.tuple #[.pointer none, .bool false])

set_option maxRecDepth 20000 in
set_option maxHeartbeats 2000000 in
theorem from_any (w : World) (a : Option Addr) (c : Nat) (ts : List ByteArray) (hT : Texts w a ts) (lim : Int) (hcs : ts.length ≤ 4611686018427387904) :
    Calls Tryd.prog 9 #[.slice a ts.length c, .int .i64 lim] w fun e w' => Made w (fromB ts lim) ⟨lim.toNat, ts.map L, [], -1, false⟩ e w' := by
  have HT : Hid (Texts w a ts) := hT
  clear hT
  by_cases h1 : lim < 1
  · have HB : Hid (fromB ts lim = false) := by show _ = _; unfold fromB; rw [decide_eq_false (by omega)]; rfl
    go_enter Tryd.func9, Tryd.ntmps9
    go_wp2_with fail
    go_ret2
    exact ⟨New.refl w, by rw [HB.out]; rfl⟩
  · by_cases h2 : 200 < lim
    · have HB : Hid (fromB ts lim = false) := by show _ = _; unfold fromB; rw [decide_eq_false (by omega)]; rfl
      go_enter Tryd.func9, Tryd.ntmps9
      go_wp2_with fail
      go_ret2
      exact ⟨New.refl w, by rw [HB.out]; rfl⟩
    · by_cases h3 : lim < (ts.length : Int)
      · have HB : Hid (fromB ts lim = false) := by show _ = _; unfold fromB; rw [decide_eq_false (by omega)]; rfl
        go_enter Tryd.func9, Tryd.ntmps9
        go_wp2_with fail
        go_ret2
        exact ⟨New.refl w, by rw [HB.out]; rfl⟩
      · obtain ⟨n, rfl⟩ : ∃ n : Nat, lim = (n : Int) := ⟨lim.toNat, by omega⟩
        have hn1 : 1 ≤ n := by omega
        have hn2 : n ≤ 200 := by omega
        have hn3 : ts.length ≤ n := by omega
        have HB : Hid (fromB ts (n : Int) = ts.all fun t => t.size == 256) := by show _ = _; unfold fromB; rw [decide_eq_true ⟨by omega, by omega, by omega⟩]; rfl
        go_enter Tryd.func9, Tryd.ntmps9
        go_wp2_with fail
        go_loopw [26] (fun i wr => ∃ k : Nat, k ≤ ts.length ∧ i = .int .i64 (k : Int) ∧ (∀ j, j < k → (ts.getD j ⟨#[]⟩).size = 256) ∧ New w wr ∧ ∃ F', Disk wr F' w.heap.size ⟨n, (ts.take k).map L, [], -1, false⟩ ∧ ∀ b, F' b → w.heap.size ≤ b) (fun i _ => ts.length - (intOf i).toNat)
        case atStart =>
          refine ⟨0, by omega, rfl, fun j hj => absurd hj (by omega), (New.refl w).alloc _, fun b => b = w.heap.size, ?_, fun b hb => Nat.le_of_eq hb.symm⟩
          exact ⟨⟨(by intro q hq; simp at hq), (by intro x hx; cases hx), hn2, by simp, Nat.zero_le _, (by show (-9223372036854775808 : Int) ≤ -1; omega), (by show (-1 : Int) ≤ 9223372036854775807; omega)⟩, rfl, fun b hb => by rw [hb]; simp, _, _, Row.new w _ 81, by simpa using Pl.nil _ _ _ _, by simpa using Pl.nil _ _ _ _⟩
        case round =>
          obtain ⟨k, hk, rfl, hall, N1, F', D4, hF4⟩ := hrel
          have hpl := D4.lt
          have HA : Hid (∀ j, j < k → (ts.getD j ⟨#[]⟩).size = 256) := hall
          clear hall
          by_cases hlt : k < ts.length
          · have hlt' : (k : Int) < (ts.length : Int) := by omega
            obtain ⟨xa, rfl, hxa⟩ := (HT.out.after N1) (by omega)
            have hby := hxa k hlt
            clear hxa
            have hmem : ts.getD k ⟨#[]⟩ ∈ ts := by rw [List.getD_eq_getElem?_getD, List.getElem?_eq_getElem hlt]; exact List.getElem_mem hlt
            have HL : Hid ((ts.take (k + 1)).map L = (ts.take k).map L ++ [L (ts.getD k ⟨#[]⟩)]) := by
              show _ = _
              rw [List.take_add_one, List.getElem?_eq_getElem hlt, List.map_append, List.getD_eq_getElem?_getD, List.getElem?_eq_getElem hlt]; rfl
            have HS : Hid ((ts.getD k ⟨#[]⟩).size = 256 → ∀ j, j < k + 1 → (ts.getD j ⟨#[]⟩).size = 256) := fun h j hj => by
              by_cases e : j = k
              · rw [e]; exact h
              · exact HA.out j (by omega)
            have HM : Hid ((ts.getD k ⟨#[]⟩).size ≠ 256 → (ts.all fun t => t.size == 256) = false) := fun h => by
              rw [List.all_eq_false]; exact ⟨_, hmem, by simpa using h⟩
            generalize ts.getD k ⟨#[]⟩ = t at hby HL HS HM
            clear hmem
            by_cases hs : t.size = 256
            · have hL : (L t).length = 256 := by rw [L_size]; exact hs
              have hlp : ((ts.take k).map L).length = k := by rw [List.length_map, List.length_take]; omega
              generalize (ts.take k).map L = lp at D4 HL hlp
              obtain ⟨a1, c1, a2, c2, _, k1, _, _, _, hf, R, P1, P2⟩ := D4.open
              simp only at k1 R P1 P2
              rw [hlp] at k1 R P1 P2
              have P1t := Disk.turned P1 P2
              have HD4 : Hid (Disk wr F' w.heap.size ⟨n, lp, [], -1, false⟩) := D4
              clear D4
              go_wp2_with fail
              have hS : HasCell ⟨w.heap.size, 1, none⟩ (.slice a1 k c1) wr.drew := HasCell.of k1
              refine region_take [0, 1, 2, 3, 4, 5] [6, 7, 8, 9, 10] 11 (HasCell ⟨w.heap.size, 1, none⟩ (.slice a1 k c1)) hS (by kernel_rfl) (by kernel_rfl) (fun d _ _ _ _ h => by cases d <;> exact h) ?_
              simp only [pick, List.getElem?_cons_succ, List.getElem?_cons_zero, Option.toList_some, List.cons_append, List.nil_append]
              have hne : Nonempty (CellW ⟨w.heap.size, 1, none⟩ (.slice a1 k c1)) := ⟨⟨wr, k1⟩⟩
              have hq2 : ∀ q : CellW ⟨w.heap.size, 1, none⟩ (.slice a1 k c1), q.v.cell? ⟨w.heap.size, 1, none⟩ = some (.slice a1 k c1) := fun q => q.h
              unfold HasCell
              repeat (go_big_quiet_step (fail))
              refine wpQuiet_nil ?_
              have NW0 : New wr wr.drew := New.drew wr
              clear hq2 hne hS
              refine wpPre_call (some 39) 38 #[.string t] (by rfl) (by rfl) (by rfl) (by go_simp) ?_
              refine (pageOf_any t hs _).mono ?_
              rintro _ W1 ⟨rfl, N1'⟩
              have M1 : New wr W1 := NW0.trans N1'
              refine ⟨_, rfl, HasCell.of ((M1.cell hpl).trans k1), ?_⟩
              simp only [Act.put, List.setIfInBounds_toArray, List.set_cons_zero, List.set_cons_succ]
              have hb1 := run_buildOne W1 78 85 (cellsL (L t)).toArray _ _ _ Tryd.underlying78 info77 (by rw [cellsL_size, hL]) (by decide) (by decide)
              have R2 := Row.new W1 (cellsL (L t)).toArray 85
              have M2 : New wr (W1.alloc (.cells (cellsL (L t)).toArray 85)) := M1.alloc _
              generalize W1.alloc (.cells (cellsL (L t)).toArray 85) = W2 at hb1 R2 M2
              refine wpPre_run (some 40) _ W2 (by rfl) (by rfl) (by rfl) (exec_buildSlice (by rfl) (by rfl) hb1) (HasCell.of ((M2.cell hpl).trans k1)) ?_
              simp only [Act.put, List.setIfInBounds_toArray, List.set_cons_zero, List.set_cons_succ]
              obtain ⟨g3, cap3, W3, hb2, Q3, G3⟩ := run_append_pl (P1t.after M2) 78 78 Tryd.underlying78 _ _ info77 info77_size (by decide) W1.heap.size (cellsL (L t)) 85 R2 (by rw [cellsL_length, hL]) (cellsL_one _) (by rw [List.length_map]; omega) (by decide)
              have R3 : Row W3 w.heap.size _ 81 := (R.after M2).of (G3.block w.heap.size (Nat.lt_of_lt_of_le hpl M2.size) (fun e => (P1t.foot _ e.symm).2.1 rfl))
              have hs3 : W3.cell? ⟨w.heap.size, 1, none⟩ = some (.slice a1 k c1) := R3.cell 1
              have hf3 := R3.frozen 1
              refine wpPre_run (some 41) _ W3 (by rfl) (by rfl) (by rfl) (exec_append (by rfl) (by rfl) (by rfl) hb2) (HasCell.of hs3) ?_
              simp only [Act.put, List.setIfInBounds_toArray, List.set_cons_zero, List.set_cons_succ]
              refine wpPre_run (some 42) (.pointer (some ⟨w.heap.size, 0, none⟩)) W3 (by rfl) (by rfl) (by rfl) (by go_simp) (HasCell.of hs3) ?_
              simp only [Act.put, List.setIfInBounds_toArray, List.set_cons_zero, List.set_cons_succ]
              refine wpPre_run (some 43) (.pointer (some ⟨w.heap.size, 1, none⟩)) W3 (by rfl) (by rfl) (by rfl) (by go_simp) (HasCell.of hs3) ?_
              simp only [Act.put, List.setIfInBounds_toArray, List.set_cons_zero, List.set_cons_succ]
              refine wpPre_nil ?_
              clear hb1 hb2 k1 hf
              go_wp2_with fail
              have hlen : (lp.map cellsL).length + 1 = k + 1 := by rw [List.length_map]; omega
              rw [hlen] at Q3
              obtain ⟨F5, D5, S5⟩ := Disk.addPage (Step.refl F' wr) HD4.out.base HD4.out R P2 P1t M2 G3 Q3 hL (by show lp.length < n; omega)
              obtain ⟨B5, hF5, _⟩ := S5.below N1 N1.size hF4
              refine ⟨⟨k + 1, by omega, by go_num, HS.out hs, B5, F5, ?_, hF5⟩, by simp [intOf]; omega⟩
              rw [HL.out]
              exact D5
            · have hs' : ¬ (t.size : Int) = 256 := by omega
              have HB' : Hid (fromB ts (n : Int) = false) := by show _ = _; rw [HB.out]; exact HM.out hs
              clear D4
              go_wp2_with fail
              go_ret2
              exact ⟨N1, by rw [HB'.out]; rfl⟩
          · obtain rfl : k = ts.length := by omega
            have HB' : Hid (fromB ts (n : Int) = true) := by
              show _ = _
              rw [HB.out, List.all_eq_true]
              intro t ht
              obtain ⟨j, hj, rfl⟩ := List.getElem_of_mem ht
              have := HA.out j hj
              rw [List.getD_eq_getElem?_getD, List.getElem?_eq_getElem hj] at this
              simpa using this
            rw [List.take_length] at D4
            have HD4 : Hid (Disk wr F' w.heap.size ⟨n, ts.map L, [], -1, false⟩) := D4
            clear D4
            go_wp2_with fail
            go_ret2
            refine ⟨N1, ?_⟩
            rw [HB'.out]
            exact ⟨_, F', rfl, HD4.out, hF4⟩

/-- A page of one byte. -/
def fillL (v : UInt8) : List UInt8 := List.replicate 256 v
theorem fillL_length (v : UInt8) : (fillL v).length = 256 := by unfold fillL; rw [List.length_replicate]

set_option maxRecDepth 20000 in
set_option maxHeartbeats 1000000 in
theorem fill_any (v : UInt8) (w : World) : Calls Tryd.prog 39 #[.int .u8 (v.toNat : Int)] w fun e w' => e = .returned (.string (bs (fillL v))) ∧ New w w' := by
  obtain ⟨i0, hi0, hz0, hz1, hz2⟩ := info_parts info5
  have hmk := run_make (P := Tryd.prog) w 22 5 i0 _ Tryd.underlying22 hi0 hz0 .i64 .i64 256 256 (by omega) (by omega) (by rw [hz2]; omega) (by omega)
  have hrow : madeCells (Value.int .u8 0).cells ((256 : Int).toNat * i0.size) = (cellsL zeros).toArray := by
    rw [hz1]
    apply Array.ext'
    show (madeCells #[Value.int .u8 0] 256).toList = _
    rw [toList_madeCells_one]
    unfold cellsL zeros
    rw [List.map_replicate]; rfl
  rw [hrow] at hmk
  have R0 := Row.new w (cellsL zeros).toArray 5
  have N0 : New w (w.alloc (.cells (cellsL zeros).toArray 5)) := (New.refl w).alloc _
  generalize w.alloc (.cells (cellsL zeros).toArray 5) = W at hmk R0 N0
  have hmk' : Sem.run Tryd.prog (Instr.makeSlice 22 (.int .i64 256) (.int .i64 256)) w = .ok (.slice (some ⟨w.heap.size, 0, none⟩) 256 256) W := hmk
  clear hmk hrow
  go_enter Tryd.func39, Tryd.ntmps39
  go_wp2_with fail
  clear hmk'
  go_loopw [4] (fun i wr => ∃ k : Nat, k ≤ 256 ∧ i = .int .i64 (k : Int) ∧ Row wr w.heap.size (cellsL (List.replicate k v ++ List.replicate (256 - k) 0)).toArray 5 ∧ New w wr) (fun i _ => 256 - (intOf i).toNat)
  case atStart => exact ⟨0, by omega, rfl, by simpa [zeros] using R0, N0⟩
  case round =>
    clear R0 N0
    obtain ⟨k, hk, rfl, R1, N1⟩ := hrel
    by_cases hlt : k < 256
    · have hlt' : (k : Int) < 256 := by omega
      have hsz : (cellsL (List.replicate k v ++ List.replicate (256 - k) 0)).toArray.size = 256 := by rw [cellsL_size, List.length_append, List.length_replicate, List.length_replicate]; omega
      have hc : ∃ u, wr.cell? ⟨w.heap.size, k, none⟩ = some u := ⟨_, by rw [R1.cell, Array.getElem?_eq_getElem (by omega)]⟩
      obtain ⟨u, hu⟩ := hc
      have hf := R1.frozen k
      have R2 := R1.set k (.int .u8 (v.toNat : Int))
      have he : (cellsL (List.replicate k v ++ List.replicate (256 - k) 0)).toArray.setIfInBounds k (.int .u8 (v.toNat : Int)) = (cellsL (List.replicate (k + 1) v ++ List.replicate (256 - (k + 1)) 0)).toArray := by
        rw [List.setIfInBounds_toArray]
        unfold cellsL
        rw [show Value.int .u8 (v.toNat : Int) = (fun (c : UInt8) => Value.int .u8 (c.toNat : Int)) v from rfl, ← List.map_set]
        congr 2
        rw [List.set_append_right _ _ (by simp), List.length_replicate, Nat.sub_self, show 256 - k = (256 - (k + 1)) + 1 by omega, List.replicate_succ, List.set_cons_zero, List.replicate_succ', List.append_assoc]
        rfl
      rw [he] at R2
      have HR : Hid (Row (wr.setCell ⟨w.heap.size, k, none⟩ (.int .u8 (v.toNat : Int))) w.heap.size (cellsL (List.replicate (k + 1) v ++ List.replicate (256 - (k + 1)) 0)).toArray 5) := R2
      clear R1 R2 he hsz
      go_wp2_with fail
      exact ⟨⟨k + 1, by omega, by go_num, HR.out, N1.setCell (Nat.le_refl _) _⟩, by simp [intOf]; omega⟩
    · obtain rfl : k = 256 := by omega
      have hcv : (convert 22 9 (.slice (some ⟨w.heap.size, 0, none⟩) 256 256)).run Tryd.prog wr = .ok (.string (bs (fillL v))) wr := by
        refine run_convert_bytes_back wr 22 9 5 ⟨w.heap.size, 0, none⟩ 256 (fillL v) Tryd.underlying22 Tryd.underlying5 Tryd.underlying9 (fun j hj => ?_)
        rw [Addr.add_mid, Nat.zero_add, R1.cell, List.getElem?_toArray, Nat.sub_self, List.replicate_zero, List.append_nil]
        exact cellsL_get (List.getElem?_eq_getElem hj)
      clear R1
      go_wp2_with fail
      go_ret
      exact ⟨rfl, N1⟩

end Go.Proofs.YtkcoclpbkealgaaDoor
namespace Go.Proofs.YtkcoclpbkealgaaDoor
open Go.RowKit
set_option maxRecDepth 20000

theorem made_flat (z : Array Value) (n : Nat) (hz : 0 < z.size) : (madeCells z (n * z.size)).toList = (List.replicate n z.toList).flatten := by
  have he : ∀ e ∈ List.replicate n z.toList, e.length = z.size := fun e h => by rw [(List.mem_replicate.1 h).2, Array.length_toList]
  apply List.ext_getElem?
  intro j
  by_cases hj : j < n * z.size
  · have hd : j / z.size < n := (Nat.div_lt_iff_lt_mul hz).2 hj
    have h1 := flat_cell he (i := j / z.size) (by rw [List.length_replicate]; exact hd) (j := j % z.size) (Nat.mod_lt _ hz)
    have h2 : j / z.size * z.size + j % z.size = j := by rw [Nat.mul_comm]; exact Nat.div_add_mod j z.size
    rw [h2, List.getElem_replicate] at h1
    have hm := Nat.mod_lt j hz
    rw [h1]
    unfold madeCells
    simp [hj, hm]
  · rw [List.getElem?_eq_none (by rw [Array.length_toList, size_madeCells]; omega), List.getElem?_eq_none (by rw [flat_length he, List.length_replicate]; omega)]
theorem run_make_pl (w : World) (T t : TypeId) (z : Value) (n k b : Nat) (hT : Tryd.prog.underlying T = some (.slice t)) (hi : (Tryd.prog.info? t).map (fun i => (i.zero, i.size, i.bytes)) = some (some z, k, b)) (hz : z.cells.size = k) (hk : 0 < k) (hn : n ≤ 1000000) (hb : b ≤ 1000) :
    ∃ W, (Instr.makeSlice T (.int .i64 (n : Int)) (.int .i64 (n : Int))).run Tryd.prog w = .ok (.slice (some ⟨w.heap.size, 0, none⟩) n n) W ∧ Pl W (fun g => g = w.heap.size) t k (.slice (some ⟨w.heap.size, 0, none⟩) n n) (List.replicate n z.cells.toList) ∧ New w W := by
  obtain ⟨i0, hi0, hz0, hz1, hz2⟩ := info_parts hi
  have hbb : b * n ≤ 1000 * 1000000 := Nat.mul_le_mul hb hn
  have h := run_make (P := Tryd.prog) w T t i0 z hT hi0 hz0 .i64 .i64 (n : Int) (n : Int) (by omega) (by omega) (by rw [hz2, ← Int.natCast_mul]; omega) (by omega)
  rw [Int.toNat_natCast, hz1] at h
  refine ⟨_, h, ?_, (New.refl w).alloc _⟩
  subst hz
  have := Pl.make (w := w.alloc (.cells (madeCells z.cells (n * z.cells.size)) t)) (F := fun g => g = w.heap.size) (t := t) (k := z.cells.size) (g := w.heap.size) (c := n) (es := List.replicate n z.cells.toList) (cur := madeCells z.cells (n * z.cells.size))
    (fun e h => by rw [(List.mem_replicate.1 h).2, Array.length_toList]) (Row.new w _ t) (by rw [List.length_replicate]; exact Nat.le_refl _) (by unfold maxLen; omega) (size_madeCells _ _) (by
      rw [List.length_replicate, made_flat _ _ hk, List.take_of_length_le]
      rw [flat_length (k := z.cells.size) (fun e h => by rw [(List.mem_replicate.1 h).2, Array.length_toList]), List.length_replicate]; exact Nat.le_refl _) rfl
  rw [List.length_replicate] at this
  exact this
theorem info9 : (Tryd.prog.info? 9).map (fun i => (i.zero, i.size, i.bytes)) = some (some (.string ⟨#[]⟩), 1, 16) := by kernel_rfl
theorem info82 : (Tryd.prog.info? 76).map (fun i => (i.zero, i.size, i.bytes)) = some (some (.agg #[.int .i64 0, .string ⟨#[]⟩]), 2, 24) := by kernel_rfl
theorem built82 (a : Int) (s : ByteArray) : Tryd.prog.built 76 [(0, .int .i64 a), (1, .string s)] = some #[.int .i64 a, .string s] := by kernel_rfl
theorem i82 : (Tryd.prog.info? 76).map (·.size) = some 2 := by kernel_rfl
/-- The first k are told. -/
theorem told_next {α : Type} (f : α → List Value) (l : List α) (d : α) (z : List Value) (n k : Nat) (hn : l.length = n) (hk : k < n) : ((l.take k).map f ++ List.replicate (n - k) z).set k (f (l.getD k d)) = (l.take (k + 1)).map f ++ List.replicate (n - (k + 1)) z := by
  have h1 : ((l.take k).map f).length = k := by rw [List.length_map, List.length_take]; omega
  rw [List.set_append_right _ _ (by omega), h1, Nat.sub_self, show n - k = (n - (k + 1)) + 1 by omega, List.replicate_succ, List.set_cons_zero, List.take_add_one, List.getElem?_eq_getElem (by omega), List.map_append, List.getD_eq_getElem?_getD, List.getElem?_eq_getElem (by omega), List.append_assoc]
  rfl

theorem pages_nil (w : World) : Calls Tryd.prog 34 #[.pointer none] w fun e w' => e = .returned (.slice none 0 0) ∧ w' = w := by
  go_enter Tryd.func34, Tryd.ntmps34
  go_wp2_with fail
  go_ret
  exact ⟨rfl, rfl⟩
theorem waiting_nil (w : World) : Calls Tryd.prog 32 #[.pointer none] w fun e w' => e = .returned (.slice none 0 0) ∧ w' = w := by
  go_enter Tryd.func32, Tryd.ntmps32
  go_wp2_with fail
  go_ret
  exact ⟨rfl, rfl⟩

set_option maxRecDepth 20000 in
set_option maxHeartbeats 1000000 in
theorem pages_any {w : World} {F : Nat → Prop} {p : Nat} {S : St} (D : Disk w F p S) :
    Calls Tryd.prog 34 #[.pointer (some ⟨p, 0, none⟩)] w fun e w' => ∃ v, e = .returned v ∧ Pl w' (Fresh w) 9 1 v ((latest S.ps S.ws).map textL) ∧ New w w' := by
  have hlt := latest_any D
  have hlen : (latest S.ps S.ws).length ≤ 200 := by rw [latest_length]; have := D.ok.len; have := D.ok.lim; omega
  have hpg := D.ok.latest _ (Nat.le_refl S.ws.length)
  change ∀ q ∈ latest S.ps S.ws, q.length = 256 at hpg
  have HG : Hid (∀ q ∈ latest S.ps S.ws, q.length = 256) := hpg
  clear D hpg
  generalize latest S.ps S.ws = lp at hlt hlen HG ⊢
  go_enter Tryd.func34, Tryd.ntmps34
  go_wp2_with fail
  refine hlt.mono ?_
  rintro _ w1 ⟨v, rfl, Q1, N1⟩
  clear hlt
  obtain ⟨av, cv, rfl, _⟩ := Q1.form
  rw [List.length_map] at Q1
  obtain ⟨W, hmk, QW, NW⟩ := run_make_pl w1 28 9 (.string ⟨#[]⟩) lp.length 1 16 Tryd.underlying28 info9 rfl (by decide) (by omega) (by decide)
  have HQ : Hid (Pl W (fun g => g = w1.heap.size) 9 1 (.slice (some ⟨w1.heap.size, 0, none⟩) lp.length lp.length) (List.replicate lp.length [.string ⟨#[]⟩])) := QW
  have HQ1 : Hid (Pl W (fun g => w.heap.size ≤ g ∧ g < w1.heap.size) 85 256 (.slice av lp.length cv) (lp.map cellsL)) := (Q1.mono fun b hb hlt => ⟨hb, hlt⟩).after NW
  rw [show (lp.map cellsL).length = lp.length by rw [List.length_map]]
  clear QW Q1
  go_wp2_with fail
  clear hmk
  have hw1 := N1.size
  go_loopw [16] (fun i wr => ∃ k : Nat, k ≤ lp.length ∧ i = .int .i64 (k : Int) ∧ Pl wr (fun g => g = w1.heap.size) 9 1 (.slice (some ⟨w1.heap.size, 0, none⟩) lp.length lp.length) ((lp.take k).map textL ++ List.replicate (lp.length - k) [.string ⟨#[]⟩]) ∧ Pl wr (fun g => w.heap.size ≤ g ∧ g < w1.heap.size) 85 256 (.slice av lp.length cv) (lp.map cellsL) ∧ New w wr ∧ w1.heap.size < wr.heap.size) (fun i _ => lp.length - (intOf i).toNat)
  case atStart => exact ⟨0, by omega, rfl, by simpa using HQ.out, HQ1.out, N1.trans NW, HQ.out.lt rfl⟩
  case round =>
    obtain ⟨k, hk, rfl, Q2, Q3, N2, hH⟩ := hrel
    by_cases hlt : k < lp.length
    · have hlt' : (k : Int) < (lp.length : Int) := by omega
      obtain ⟨g1, _, e1, hg1, _, _⟩ := Q3.full (by rw [List.length_map]; omega)
      rw [List.length_map] at e1
      cases e1
      have hx := map_getD cellsL lp k [] hlt
      have hd : (lp.getD k []).length = 256 := by rw [List.getD_eq_getElem?_getD, List.getElem?_eq_getElem hlt]; exact HG.out _ (List.getElem_mem hlt)
      have HL' : Hid (((lp.take k).map textL ++ List.replicate (lp.length - k) [Value.string ⟨#[]⟩]).set k (textL (lp.getD k [])) = (lp.take (k + 1)).map textL ++ List.replicate (lp.length - (k + 1)) [Value.string ⟨#[]⟩]) := told_next textL lp [] _ lp.length k rfl hlt
      generalize lp.getD k [] = d at hx hd HL'
      have ht := text_any d hd
      go_wp2_with (first
        | refine wpList_load_pl (by rfl) 85 _ (by rfl) _ 85 256 g1 _ _ k _ _ _ Q3 hx (by rfl) Tryd.underlying85 rfl (by rw [cellsL_length, hd]; exact i77) ?_
        | (refine wpList_alloc_new (by rfl) 85 (by rfl) _ _ _ info77 ?_; intro W1 R1 M1)
        | (refine wpList_store_new (by rfl) 85 _ _ (by rfl) wr.heap.size (cellsL d).toArray (by rfl) (by rfl) 85 _ R1 (by rw [cellsL_size, hd]; exact i77) (by rw [cellsL_size, cellsL_size, hd, zeros_length]) (cellsL_all _) ?_; intro W2 R2 B2; have M2 : New wr W2 := B2.new M1 (Nat.le_refl _))
        | (refine wpList_load_row (by rfl) 85 _ (by rfl) wr.heap.size (by rfl) 85 (cellsL d).toArray (0, 0) _ R2 Tryd.underlying85 rfl (by rw [cellsL_size, hd]; exact i77) ?_))
      refine (ht _).mono ?_
      rintro _ W3 ⟨rfl, N3⟩
      have M3 := M2.trans N3
      have Q23 := Q2.after M3
      have hkl : k < ((lp.take k).map textL ++ List.replicate (lp.length - k) [Value.string ⟨#[]⟩]).length := by rw [List.length_append, List.length_map, List.length_take, List.length_replicate]; omega
      have hth := Q23.there hkl 0 (by decide)
      rw [Nat.mul_one, Nat.add_zero] at hth
      obtain ⟨u, hu⟩ := Option.isSome_iff_exists.1 hth.1
      have hfz := hth.2
      have Q4 := Q23.set hkl (e := textL d) rfl
      rw [Nat.mul_one, HL'.out] at Q4
      have HQ4 : Hid (Pl (W3.setCell ⟨w1.heap.size, k, none⟩ (.string (bs d))) (fun g => g = w1.heap.size) 9 1 (.slice (some ⟨w1.heap.size, 0, none⟩) lp.length lp.length) ((lp.take (k + 1)).map textL ++ List.replicate (lp.length - (k + 1)) [.string ⟨#[]⟩])) := Q4
      clear Q4 hth
      go_wp2_with fail
      refine ⟨⟨k + 1, by omega, by go_num, HQ4.out, (Q3.after M3).of (fun b hb _ => Below.heap_setCell _ _ _ _ (by show b ≠ w1.heap.size; omega)) (fun _ h _ => h), (N2.trans M3).setCell (by show w.heap.size ≤ w1.heap.size; omega) _, ?_⟩, by simp [intOf]; omega⟩
      have := M3.size
      simp only [World.setCell, Array.size_modify]
      omega
    · obtain rfl : k = lp.length := by omega
      have HQ2 : Hid (Pl wr (Fresh w) 9 1 (.slice (some ⟨w1.heap.size, 0, none⟩) lp.length lp.length) (lp.map textL)) := by
        have := Q2.mono (G := Fresh w) (fun b hb _ => by rw [hb]; exact hw1)
        rw [List.take_length, Nat.sub_self, List.replicate_zero, List.append_nil] at this
        exact this
      clear Q2
      go_wp2_with fail
      go_ret
      exact ⟨_, rfl, HQ2.out, N2⟩

set_option maxRecDepth 20000 in
set_option maxHeartbeats 1000000 in
theorem waiting_any {w : World} {F : Nat → Prop} {p : Nat} {S : St} (D : Disk w F p S) :
    Calls Tryd.prog 32 #[.pointer (some ⟨p, 0, none⟩)] w fun e w' => ∃ v, e = .returned v ∧ Pl w' (Fresh w) 76 2 v (S.ws.map tellL) ∧ New w w' := by
  have hok := D.ok
  have hfew := hok.few
  have hpl := D.lt
  obtain ⟨a1, c1, a2, c2, _, _, h2, _, _, hf, _, _, P2⟩ := D.open
  have HP : Hid (Pl w (fun g => F g ∧ g ≠ p ∧ (Value.slice a1 S.ps.length c1).ownBlock ≠ some g) 113 257 (.slice a2 S.ws.length c2) (S.ws.map waitL)) := P2
  clear D hf P2
  obtain ⟨W, hmk, QW, NW⟩ := run_make_pl w 60 76 (.agg #[.int .i64 0, .string ⟨#[]⟩]) S.ws.length 2 24 Tryd.underlying60 info82 rfl (by decide) (by omega) (by decide)
  have HQ : Hid (Pl W (fun g => g = w.heap.size) 76 2 (.slice (some ⟨w.heap.size, 0, none⟩) S.ws.length S.ws.length) (List.replicate S.ws.length [.int .i64 0, .string ⟨#[]⟩])) := QW
  clear QW
  have k2 := (NW.cell (p := ⟨p, 2, none⟩) hpl).trans h2
  go_enter Tryd.func32, Tryd.ntmps32
  go_wp2_with fail
  clear hmk h2 k2
  go_loopw [19] (fun i wr => ∃ k : Nat, k ≤ S.ws.length ∧ i = .int .i64 (k : Int) ∧ Pl wr (fun g => g = w.heap.size) 76 2 (.slice (some ⟨w.heap.size, 0, none⟩) S.ws.length S.ws.length) ((S.ws.take k).map tellL ++ List.replicate (S.ws.length - k) [.int .i64 0, .string ⟨#[]⟩]) ∧ New w wr) (fun i _ => S.ws.length - (intOf i).toNat)
  case atStart => exact ⟨0, by omega, rfl, by simpa using HQ.out, NW⟩
  case round =>
    obtain ⟨k, hk, rfl, Q2, N2⟩ := hrel
    by_cases hlt : k < S.ws.length
    · have hlt' : (k : Int) < (S.ws.length : Int) := by omega
      obtain ⟨g2, _, e2, hg2, _, _⟩ := HP.out.full (by rw [List.length_map]; omega)
      rw [List.length_map] at e2
      cases e2
      have P2 := HP.out.after N2
      have hx := map_getD waitL S.ws k (0, []) hlt
      obtain ⟨_, hd⟩ := hok.at hlt
      have HL' : Hid (((S.ws.take k).map tellL ++ List.replicate (S.ws.length - k) [Value.int .i64 0, Value.string ⟨#[]⟩]).set k (tellL (S.ws.getD k (0, []))) = (S.ws.take (k + 1)).map tellL ++ List.replicate (S.ws.length - (k + 1)) [Value.int .i64 0, Value.string ⟨#[]⟩]) := told_next tellL S.ws (0, []) _ S.ws.length k rfl hlt
      generalize S.ws.getD k (0, []) = x at hx hd HL'
      obtain ⟨at_, d⟩ := x
      simp only at hd
      have ht := text_any d hd
      go_wp2_with (first
        | refine wpList_load_pl (by rfl) 113 _ (by rfl) _ 113 257 g2 _ _ k _ _ _ P2 hx (by rfl) Tryd.underlying113 rfl (by rw [waitL_length hd]; exact i80) ?_
        | (refine wpList_alloc_new (by rfl) 113 (by rfl) _ _ _ info80 ?_; intro W1 R1 M1)
        | (refine wpList_store_new (by rfl) 113 _ _ (by rfl) wr.heap.size (waitL (at_, d)).toArray (by rfl) (by rfl) 113 _ R1 (by rw [List.size_toArray, waitL_length hd]; exact i80) (by rw [List.size_toArray, List.size_toArray, waitL_length (x := (at_, d)) hd, waitL_length (x := (0, zeros)) zeros_length]) (waitL_all _) ?_; intro W2 R2 B2; have M2 : New wr W2 := B2.new M1 (Nat.le_refl _)))
      have hne := NewW.ne W2
      have hq0 : ∀ q : NewW W2, q.v.cell? ⟨wr.heap.size, 0, none⟩ = some (.int .i64 (at_ : Int)) := fun q => NewW.cell (waitL_at R2) q
      have hqd : ∀ q : NewW W2, q.v.rangeAt wr.heap.size 1 (cellsL d) := fun q => waitL_range (R2.after q.h) hd
      refine region_ord [0, 1, 2, 3, 4, 5, 6, 7, 8] [9] W2 (New.refl W2) (by kernel_rfl) (by kernel_rfl) ?_
      simp only [pick, List.getElem?_cons_succ, List.getElem?_cons_zero, Option.toList_some, List.cons_append, List.nil_append, Act.put]
      iterate 5 (go_big_quiet_step (fail))
      refine wpQuiet_load_mid (by rfl) 85 _ (by rfl) wr.heap.size 1 (by rfl) (cellsL d) hqd _ Tryd.underlying85 rfl (by rw [cellsL_length, hd]; exact i77) ?_
      simp only [Act.put, List.setIfInBounds_toArray, List.set_cons_zero, List.set_cons_succ]
      iterate 1 (go_big_quiet_step (first | (go_at_call 57; exact Calls.neww (ht _))))
      refine wpQuiet_run (by rfl) (.agg (tellL (at_, d)).toArray) (fun w _ => exec_build2 (by rfl) (by rfl) (by rfl) (run_build w 76 _ _ (built82 (at_ : Int) (bs d)))) ?_
      simp only [Act.put, List.setIfInBounds_toArray, List.set_cons_zero, List.set_cons_succ]
      iterate 1 (go_big_quiet_step (fail))
      refine wpQuiet_nil ?_
      rintro W5 ⟨⟨_, N5⟩, rfl⟩
      have M5 := M2.trans N5
      have Q5 := Q2.after M5
      clear hq0 hqd hne ht
      go_wp2_with (refine wpList_store_pl (by rfl) 76 _ _ (by rfl) _ 76 2 w.heap.size _ _ k _ (tellL (at_, d)) Q5 (by rw [List.length_append, List.length_map, List.length_take, List.length_replicate]; omega) (by rfl) (by rfl) rfl i82 (by intro v hv; simp [tellL] at hv; rcases hv with rfl | rfl <;> rfl) ?_; intro W6 Q6 B6)
      rw [HL'.out] at Q6
      exact ⟨⟨k + 1, by omega, by go_num, Q6, B6.new (N2.trans M5) (Nat.le_refl _)⟩, by simp [intOf]; omega⟩
    · obtain rfl : k = S.ws.length := by omega
      have HQ2 : Hid (Pl wr (Fresh w) 76 2 (.slice (some ⟨w.heap.size, 0, none⟩) S.ws.length S.ws.length) (S.ws.map tellL)) := by
        have := Q2.mono (G := Fresh w) (fun b hb _ => by rw [hb]; exact Nat.le_refl _)
        rw [List.take_length, Nat.sub_self, List.replicate_zero, List.append_nil] at this
        exact this
      clear Q2
      go_wp2_with fail
      go_ret
      exact ⟨_, rfl, HQ2.out, N2⟩

end Go.Proofs.YtkcoclpbkealgaaDoor
namespace Go.Proofs.YtkcoclpbkealgaaDoor
open Go.RowKit
set_option maxRecDepth 20000

/-- What a disk's calls leave, all of it above B. -/
structure Above (B : Nat) (w0 : World) (w : World) (F : Nat → Prop) : Prop where
  below : Below B w0 w
  foot : ∀ b, F b → B ≤ b
  size : B ≤ w.heap.size
theorem Above.step {B : Nat} {w0 w w' : World} {F F' : Nat → Prop} (h : Above B w0 w F) (s : Step F F' w w') : Above B w0 w' F' := let ⟨h1, h2, h3⟩ := s.below h.below h.size h.foot; ⟨h1, h2, h3⟩
theorem Above.new {B : Nat} {w0 w w' : World} {F : Nat → Prop} (h : Above B w0 w F) (s : New w w') : Above B w0 w' F := h.step (Step.new s)

theorem Calls.neww_same {P : Program} {f : FuncId} {args : Array Value} {W : World} {p : NewW W} {v : Value}
    (h : Calls P f args p.v fun e w' => e = .returned v ∧ w' = p.v) : Calls P f args p.v fun e w'' => e = .returned v ∧ ∃ q : NewW W, w'' = q.v :=
  h.mono fun _ _ ⟨he, hk⟩ => ⟨he, p, hk⟩

theorem pick_range (l : List Oper) : ∀ (m n : Nat), pick l (List.range' n m) = (l.drop n).take m
  | 0, n => by simp [pick]
  | m + 1, n => by
    rw [List.range'_succ, pick, pick_range l m (n + 1)]
    by_cases h : n < l.length
    · rw [List.getElem?_eq_getElem h, List.drop_eq_getElem_cons h]; rfl
    · rw [List.getElem?_eq_none (by omega), List.drop_eq_nil_of_le (by omega), List.drop_eq_nil_of_le (by omega)]; simp
theorem region_first {P : Program} {id : Nat} {Q : Exit → Act → World → Prop} {a : Act} {w : World} {l : List Oper} (n m : Nat) (W : World) (hW : New W w) (hm : P.follows .mixedOrders = true) (hB : partB .any l (List.range' 0 n) (List.range' n m) = true)
    (h : wpQuiet P l.toArray (fun w' => ∃ p : NewW W, w' = p.v) (fun a' => ∀ w', (∃ p : NewW W, w' = p.v) → wpList P l.toArray Q ((l.drop n).take m) a' w') (l.take n) a) : (Code.region id l.toArray true).wp P Q a w := by
  refine region_ord (List.range' 0 n) (List.range' n m) W hW hm hB ?_
  rw [pick_range, pick_range]
  exact h

end Go.Proofs.YtkcoclpbkealgaaDoor
namespace Go.Proofs.YtkcoclpbkealgaaDoor
open Go.RowKit
set_option maxRecDepth 20000

theorem cellsL_inj : ∀ {l m : List UInt8}, cellsL l = cellsL m → l = m
  | [], [], _ => rfl
  | [], _ :: _, h => by simp [cellsL] at h
  | _ :: _, [], h => by simp [cellsL] at h
  | a :: l, b :: m, h => by
    simp only [cellsL, List.map_cons, List.cons.injEq] at h
    obtain ⟨h1, h2⟩ := h
    have h3 : a.toNat = b.toNat := by injection h1; omega
    rw [UInt8.toNat_inj.1 h3, cellsL_inj (l := l) (m := m) h2]

section
variable {P : Program}
end

theorem ret_u32 {a b : Int} (h : a = b) : Ending.returned (.int .u32 a) = .returned (.int .u32 b) := by rw [h]

end Go.Proofs.YtkcoclpbkealgaaDoor
namespace Go.Proofs.YtkcoclpbkealgaaDoor
open Go.RowKit
set_option maxRecDepth 20000

/-- The table of steps lies in the first block. -/
def Tab (w : World) : Prop := 0 < w.heap.size ∧ ∀ i : Nat, i < 16 → w.cell? ⟨0, i, none⟩ = some (.int .u32 ((stepsN.getD i 0 : Nat) : Int))
theorem Tab.after {w w' : World} (h : Tab w) (k : New w w') : Tab w' :=
  ⟨Nat.lt_of_lt_of_le h.1 k.size, fun i hi => (k.cell (p := ⟨0, i, none⟩) h.1).trans (h.2 i hi)⟩

theorem wraps_u32 (n : Int) (h₀ : 0 ≤ n) (h₁ : n < 2 ^ 32) : IntKind.u32.wrap n = n := by rw [IntKind.wrap_u32]; omega
theorem xor_u32 (a b : Nat) (ha : a < 4294967296) (hb : b < 4294967296) : bits .xor .u32 (a : Int) (b : Int) = ((a ^^^ b : Nat) : Int) := by
  have hx : a ^^^ b < 4294967296 := xor_lt ha hb
  have h1 : (BitVec.ofInt 32 (a : Int)).toNat = a := by
    rw [BitVec.ofInt_natCast, BitVec.toNat_ofNat]; exact Nat.mod_eq_of_lt (by omega)
  have h2 : (BitVec.ofInt 32 (b : Int)).toNat = b := by
    rw [BitVec.ofInt_natCast, BitVec.toNat_ofNat]; exact Nat.mod_eq_of_lt (by omega)
  show IntKind.u32.wrap ((BitVec.ofInt 32 (a : Int) ^^^ BitVec.ofInt 32 (b : Int)).toNat : Int) = _
  rw [BitVec.toNat_xor, h1, h2, IntKind.wrap_u32]
  omega
theorem not_u32 (a : Nat) (ha : a < 4294967296) : bits .xor .u32 IntKind.u32.max (a : Int) = ((ones ^^^ a : Nat) : Int) := xor_u32 ones a ones_lt ha
theorem and_low (i a : Nat) (hi : i ≤ 32) (ha : a < 4294967296) : bits .and .u32 (a : Int) (2 ^ i - 1) = ((a % 2 ^ i : Nat) : Int) := by
  rw [bits_mask .u32 32 (by decide) wraps_u32 i hi (a : Int) (Int.natCast_nonneg _) (by omega)]; simp
theorem and15 (a : Nat) (ha : a < 4294967296) : bits .and .u32 (a : Int) 15 = ((a % 16 : Nat) : Int) := and_low 4 a (by decide) ha
theorem and1 (a : Nat) (ha : a < 4294967296) : bits .and .u32 (a : Int) 1 = ((a % 2 : Nat) : Int) := and_low 1 a (by decide) ha

theorem stepsN_lt : ∀ i : Nat, i < 16 → stepsN.getD i 0 < 4294967296 := by decide +kernel

set_option maxHeartbeats 400000 in
theorem stepHalf_any (r : Nat) (hr : r < 4294967296) (w : World) (hT : Tab w) :
    Calls Tryd.prog 100 #[.int .u32 (r : Int)] w fun e w' => e = .returned (.int .u32 ((many 4 r : Nat) : Int)) ∧ w' = w := by
  obtain ⟨x, hx⟩ : ∃ x, r % 16 = x := ⟨_, rfl⟩
  obtain ⟨y, hy⟩ : ∃ y, r / 16 = y := ⟨_, rfl⟩
  obtain ⟨t, ht⟩ : ∃ t, stepsN.getD x 0 = t := ⟨_, rfl⟩
  have hxl : x < 16 := by omega
  have hx0 : (0 : Int) ≤ (x : Int) := Int.natCast_nonneg _
  have hx1 : (x : Int) < 16 := by omega
  have ha := and15 r hr
  rw [hx] at ha
  have hd : (r : Int) / 16 = (y : Int) := by omega
  have hc : w.cell? ⟨0, x, none⟩ = some (.int .u32 (t : Int)) := by rw [hT.2 x hxl, ht]
  have hxor := xor_u32 y t (by omega) (by rw [← ht]; exact stepsN_lt x hxl)
  have HR : Hid (y ^^^ t = many 4 r) := by show _ = _; rw [← half_eq, hx, hy, ht]
  clear hx hy ht hT
  go_enter Tryd.func100, Tryd.ntmps100
  go_wp2_with fail
  go_ret
  exact ⟨ret_u32 (by rw [HR.out]), rfl⟩

end Go.Proofs.YtkcoclpbkealgaaDoor
namespace Go.Proofs.YtkcoclpbkealgaaDoor
open Go.RowKit
set_option maxRecDepth 20000

theorem many8 (r : Nat) : many 4 (many 4 r) = many 8 r := (many_add 4 4 r).symm

set_option maxHeartbeats 1000000 in
theorem add_core (c : Nat) (hc : c < 4294967296) (s : ByteArray) (hs : s.size ≤ 140737488351232) (v : Nat) (hv : Hid (sumL c (L s) = v)) (w : World) (hT : Tab w) :
    Calls Tryd.prog 93 #[.int .u32 (c : Int), .string s] w fun e w' => e = .returned (.int .u32 (v : Int)) ∧ w' = w := by
  obtain ⟨n, hn⟩ : ∃ n, ones ^^^ c = n := ⟨_, rfl⟩
  have hnot := not_u32 c hc
  rw [hn] at hnot
  have HN : Hid (ones ^^^ c = n) := hn
  have hnl : n < 4294967296 := by rw [← hn]; exact xor_lt ones_lt hc
  clear hn
  go_enter Tryd.func93, Tryd.ntmps93
  go_wp2_with fail
  go_loop [5, 11] (fun r i => ∃ k : Nat, k ≤ s.size ∧ i = .int .i64 k ∧ r = .int .u32 ((crc n ((L s).take k) : Nat) : Int)) (fun _ i => s.size - (intOf i).toNat)
  case atStart => exact ⟨0, by omega, rfl, rfl⟩
  case round =>
    obtain ⟨k, hk, rfl, rfl⟩ := hrel
    have hrl := crc_lt hnl ((L s).take k)
    by_cases hlt : k < s.size
    · have HS : Hid (_ = _) := crc_step n (L s) k s[k] (L_get s k hlt)
      generalize crc n ((L s).take k) = r at hrl HS
      have hxor := xor_u32 r s[k].toNat hrl (byte_lt _)
      have hxl : r ^^^ s[k].toNat < 4294967296 := xor_lt hrl (byte_lt _)
      generalize r ^^^ s[k].toNat = x at hxor hxl HS
      have hw : IntKind.u32.wrap (s[k].toNat : Int) = (s[k].toNat : Int) := wraps_u32 _ (Int.natCast_nonneg _) (by have := byte_lt s[k]; omega)
      go_wp2_with fail
      refine (stepHalf_any x hxl _ hT).mono ?_
      rintro e w1 ⟨rfl, rfl⟩
      go_wp2_with fail
      refine (stepHalf_any (many 4 x) (many_lt 4 hxl) _ hT).mono ?_
      rintro e w1 ⟨rfl, rfl⟩
      go_wp2_with fail
      go_round
      case rel => exact ⟨k + 1, by omega, by go_num, by rw [HS.out, many8]⟩
      case measure => simp [intOf]; omega
    · obtain rfl : k = s.size := by omega
      have hnot2 := not_u32 _ hrl
      have HV : Hid (ones ^^^ crc n ((L s).take s.size) = v) := by
        show _ = _
        rw [← hv.out, ← L_size, List.take_length]
        unfold sumL
        rw [HN.out]
      generalize crc n ((L s).take s.size) = r at hrl hnot2 HV
      rw [HV.out] at hnot2
      go_wp2_with fail
      go_ret
      exact ⟨rfl, rfl⟩

theorem add_any (c : Nat) (hc : c < 4294967296) (s : ByteArray) (hs : s.size ≤ 140737488351232) (w : World) (hT : Tab w) :
    Calls Tryd.prog 93 #[.int .u32 (c : Int), .string s] w fun e w' => e = .returned (.int .u32 ((sumL c (L s) : Nat) : Int)) ∧ w' = w := add_core c hc s hs _ rfl w hT

theorem of_any (s : ByteArray) (hs : s.size ≤ 140737488351232) (w : World) (hT : Tab w) :
    Calls Tryd.prog 79 #[.string s] w fun e w' => e = .returned (.int .u32 ((sumL 0 (L s) : Nat) : Int)) ∧ w' = w := by
  go_enter Tryd.func79, Tryd.ntmps79
  go_wp2_with fail
  refine (add_any 0 (by decide) s hs _ hT).mono ?_
  rintro e w1 ⟨rfl, rfl⟩
  go_wp2_with fail
  go_ret
  exact ⟨rfl, rfl⟩

end Go.Proofs.YtkcoclpbkealgaaDoor
namespace Go.Proofs.YtkcoclpbkealgaaDoor
open Go.RowKit
set_option maxRecDepth 20000

theorem conv4 (a0 a1 a2 a3 : Int) (w : World) :
    (convert 22 9 (.slice (some ⟨w.heap.size, 0, none⟩) 4 4)).run Tryd.prog (w.alloc (.cells #[.int .u8 a0, .int .u8 a1, .int .u8 a2, .int .u8 a3] 5)) =
      .ok (.string ⟨#[UInt8.ofNat a0.toNat, UInt8.ofNat a1.toNat, UInt8.ofNat a2.toNat, UInt8.ofNat a3.toNat]⟩)
        (w.alloc (.cells #[.int .u8 a0, .int .u8 a1, .int .u8 a2, .int .u8 a3] 5)) := by
  rw [run_convert_bytes_string _ 22 9 5 _ 4 4 Tryd.underlying22 Tryd.underlying5 Tryd.underlying9]
  rw [run_bytesToString _ ⟨w.heap.size, 0, none⟩ 4 4 [a0, a1, a2, a3]]
  · rfl
  · refine run_loadCells_list (P := Tryd.prog) _ ⟨w.heap.size, 0, none⟩ [.int .u8 a0, .int .u8 a1, .int .u8 a2, .int .u8 a3] ?_
    intro j v hj
    have hc := cell_of_row _ w.heap.size j _ _ _ (heap_alloc_new w (.cells #[.int .u8 a0, .int .u8 a1, .int .u8 a2, .int .u8 a3] 5))
    have ha : (Addr.add ⟨w.heap.size, 0, none⟩ j) = ⟨w.heap.size, j, none⟩ := by simp [Addr.add]; intro h; exact h.symm
    rw [ha, hc]
    simpa using hj

theorem put_eq (v : Nat) (hv : v < 4294967296) : (⟨#[UInt8.ofNat ((v : Int) / 16777216).toNat, UInt8.ofNat ((v : Int) / 65536 % 256).toNat, UInt8.ofNat ((v : Int) / 256 % 256).toNat, UInt8.ofNat ((v : Int) % 256).toNat]⟩ : ByteArray) = bs (putL v) := by
  have e3 : ((v : Int) / 16777216).toNat = v / 16777216 % 256 := by omega
  have e2 : ((v : Int) / 65536 % 256).toNat = v / 65536 % 256 := by omega
  have e1 : ((v : Int) / 256 % 256).toNat = v / 256 % 256 := by omega
  have e0 : ((v : Int) % 256).toNat = v % 256 := by omega
  rw [e3, e2, e1, e0]
  rfl

set_option maxHeartbeats 1000000 in
theorem put_any (v : Nat) (hv : v < 4294967296) (w : World) :
    Calls Tryd.prog 78 #[.int .u32 (v : Int)] w fun e w' => e = .returned (.string (bs (putL v))) ∧ New w w' := by
  have HE : Hid (_ = _) := put_eq v hv
  have hcv := conv4
  go_enter Tryd.func78, Tryd.ntmps78
  go_wp2_with fail
  go_ret
  exact ⟨ret_str HE.out, (New.refl _).alloc _⟩

set_option maxHeartbeats 1000000 in
theorem refPut_any (v : Nat) (hv : v < 4294967296) (w : World) :
    Calls Tryd.prog 64 #[.int .u32 (v : Int)] w fun e w' => e = .returned (.string (bs (putL v))) ∧ New w w' := by
  have HE : Hid (_ = _) := put_eq v hv
  have hcv := conv4
  go_enter Tryd.func64, Tryd.ntmps64
  go_wp2_with fail
  go_ret
  exact ⟨ret_str HE.out, (New.refl _).alloc _⟩
end Go.Proofs.YtkcoclpbkealgaaDoor
namespace Go.Proofs.YtkcoclpbkealgaaDoor
open Go.RowKit
set_option maxRecDepth 20000

theorem beN_lt (l : List UInt8) (k : Nat) (hk : k ≤ l.length) : beN (l.take k) < 256 ^ k := by
  induction k with
  | zero => exact Nat.one_pos
  | succ k ih =>
    have hc : l[k]? = some l[k] := List.getElem?_eq_getElem (by omega)
    rw [beN_step l k _ hc]
    have := ih (by omega)
    have h2 := (l[k]).toNat_lt
    rw [Nat.pow_succ]
    omega
theorem or_byte (t : Nat) (c : UInt8) (ht : t < 16777216) : bits .or .u32 ((t : Int) * 256) (c.toNat : Int) = ((t * 256 + c.toNat : Nat) : Int) := by
  have hc := c.toNat_lt
  rw [bits_join .u32 32 (by decide) wraps_u32 8 _ _ (by omega) (by omega) (by omega) (by omega) (by omega) (by omega)]
  omega
theorem wraps_i64 (n : Int) (h₀ : 0 ≤ n) (h₁ : n < 2 ^ 63) : IntKind.i64.wrap n = n := by rw [IntKind.wrap_i64]; omega
theorem or_byte_int (t : Nat) (c : UInt8) (ht : t < 16777216) : bits .or .i64 ((t : Int) * 256) (c.toNat : Int) = ((t * 256 + c.toNat : Nat) : Int) := by
  have hc := c.toNat_lt
  rw [bits_join .i64 63 (by decide) wraps_i64 8 _ _ (by omega) (by omega) (by omega) (by omega) (by omega) (by omega)]
  omega

end Go.Proofs.YtkcoclpbkealgaaDoor
