/-
  What Crash leaves.
-/
import Derived.Test.YtkcoclpbkealgaaDoorSync
namespace Go.Proofs.YtkcoclpbkealgaaDoor
open Go.RowKit
set_option maxRecDepth 20000

/-- A list of bytes that is read. -/
def Bytes (w : World) (a : Option Addr) (cs : List UInt8) : Prop := 0 < cs.length → ∃ x, a = some x ∧ ∀ i, i < cs.length → w.cell? (x.add i) = some (.int .u8 ((cs.getD i 0).toNat : Int))
theorem add_block (x : Addr) (i : Nat) : (x.add i).block = x.block := by unfold Addr.add; split <;> rfl
theorem Bytes.of {w w' : World} {a : Option Addr} {cs : List UInt8} (h : Bytes w a cs) (e : ∀ x, a = some x → x.block < w.heap.size → w'.heap[x.block]? = w.heap[x.block]?) : Bytes w' a cs := fun h0 => by
  obtain ⟨x, rfl, hx⟩ := h h0
  refine ⟨x, rfl, fun i hi => ?_⟩
  have hb := World.block_lt_of_cell? w _ (hx i hi)
  rw [add_block] at hb
  rw [World.cell?_of_block (w := w) (a := x.add i) (by rw [add_block]; exact e x rfl hb)]
  exact hx i hi
theorem Bytes.step {w w' : World} {F F' : Nat → Prop} {a : Option Addr} {cs : List UInt8} (h : Bytes w a cs) (k : Step F F' w w') (hF : ∀ x, a = some x → ¬ F x.block) : Bytes w' a cs := h.of fun x hx hb => k.block _ hb (hF x hx)
theorem Bytes.stepMore {w w' : World} {F F' : Nat → Prop} {a : Option Addr} {cs : List UInt8} (h : Bytes w a cs) (k : Step F F' w w') (hF : 0 < cs.length → ∀ x, a = some x → ¬ F x.block) : Bytes w' a cs := fun h0 => (h.of fun x hx hb => k.block _ hb (hF h0 x hx)) h0
theorem Bytes.after {w w' : World} {a : Option Addr} {cs : List UInt8} (h : Bytes w a cs) (k : New w w') : Bytes w' a cs := h.of fun _ _ hb => k.block _ hb

theorem Disk.noWait {w : World} {F : Nat → Prop} {p : Nat} {S : St} (h : Disk w F p S) : Disk (w.setCell ⟨p, 2, none⟩ (.slice none 0 0)) F p { S with ws := [] } := by
  obtain ⟨v1, v2, R, r1, r2⟩ := h.has
  have e : ∀ b, b ≠ p → (w.setCell ⟨p, 2, none⟩ (.slice none 0 0)).heap[b]? = w.heap[b]? := fun b hb => Below.heap_setCell _ _ _ _ hb
  exact ⟨⟨h.ok.page, (by intro x hx; cases hx), h.ok.lim, h.ok.len, Nat.zero_le _, h.ok.lo, h.ok.hi⟩, h.base, fun b hb => by simpa [World.setCell] using h.inside b hb, v1, .slice none 0 0, R.set 2 _, r1.of (fun b hb _ => e b hb.2) (fun _ h _ => h), Pl.nil _ _ _ _⟩
theorem Disk.setPage {w W5 W6 : World} {F : Nat → Prop} {p g n c i : Nat} {S : St} {v2 : Value} {q : List UInt8} (D : Disk w F p S) (R : Row w p #[.int .i64 (S.lim : Int), .slice (some ⟨g, 0, none⟩) n c, v2, .int .i64 S.fuse, .bool S.down] 81)
    (P2 : Pl w (fun b => F b ∧ b ≠ p ∧ (Value.slice (some ⟨g, 0, none⟩) n c).ownBlock ≠ some b) 113 257 v2 (S.ws.map waitL)) (N : New w W5) (B : But g W5 W6) (hg : F g ∧ g ≠ p)
    (Q : Pl W6 (fun b => F b ∧ b ≠ p) 85 256 (.slice (some ⟨g, 0, none⟩) n c) ((S.ps.map cellsL).set i (cellsL q))) (hq : q.length = 256) : Disk W6 F p { S with ps := S.ps.set i q } ∧ Step F F w W6 := by
  refine ⟨⟨⟨?_, ?_, D.ok.lim, ?_, D.ok.few, D.ok.lo, D.ok.hi⟩, D.base, fun b hb => ?_, .slice (some ⟨g, 0, none⟩) n c, v2, (R.after N).of (B.block p (Ne.symm hg.2)), ?_, ?_⟩, (Step.new N).trans (B.step hg.1)⟩
  · exact set_all (P := fun l => l.length = 256) D.ok.page hq
  · intro x hx
    have := D.ok.wait x hx
    exact ⟨by show x.1 < (S.ps.set i q).length; rw [List.length_set]; exact this.1, this.2⟩
  · show (S.ps.set i q).length ≤ S.lim
    rw [List.length_set]; exact D.ok.len
  · rw [B.size]; exact Nat.lt_of_lt_of_le (D.inside b hb) N.size
  · show Pl _ _ 85 256 _ ((S.ps.set i q).map cellsL)
    rw [List.map_set]; exact Q
  · exact (P2.after N).of (fun b hb _ => B.block b (fun e => hb.2.2 (by rw [e]; rfl))) (fun _ h _ => h)

theorem wpList_min {P : Program} {w : World} {ops : Array Oper} {rest : List Oper} {o : Oper} {a : Act} {Q : Exit → Act → World → Prop} (hgd : o.guard = none) (s t : Operand) (ho : o.op = .call { callee := .builtin .min, args := #[s, t], argTypes := #[3, 3] }) (x y k : Int) (hx : a.eval s = .int .i64 x) (hy : a.eval t = .int .i64 y)
    (hk : (if y < x then y else x) = k) (h : wpList P ops Q rest (a.put o.dst (.int .i64 k)) w) : wpList P ops Q (o :: rest) a w := by
  refine wpList_run hgd _ w ?_ h
  unfold execOp
  simp only [ho, resolve, invoke, builtin, Sem.run_bind, Sem.run_pure, Result.andThen_ok, List.map_toArray, List.map_cons, List.map_nil, hx, hy, run_min_int2, hk]

theorem crash_nil (a : Option Addr) (n c : Nat) (w : World) : Calls Tryd.prog 25 #[.pointer none, .slice a n c] w fun e w' => e = .returned (.tuple #[]) ∧ w' = w := by
  go_enter Tryd.func25, Tryd.ntmps25
  go_wp2_with fail
  refine bodyPost_ret (results_none rfl _ _ _) rfl ?_
  exact ⟨rfl, rfl⟩

set_option maxRecDepth 20000 in
set_option maxHeartbeats 2000000 in
theorem crash_more {w : World} {F : Nat → Prop} {p : Nat} {S : St} (D : Disk w F p S) (a : Option Addr) (c : Nat) (cs : List UInt8) (hB : Bytes w a cs) (hF : 0 < cs.length → ∀ x, a = some x → ¬ F x.block) (hcs : cs.length ≤ 4611686018427387904) :
    Calls Tryd.prog 25 #[.pointer (some ⟨p, 0, none⟩), .slice a cs.length c] w fun e w' => e = .returned (.tuple #[]) ∧ Left F p w (S.crash cs) w' := by
  have HD : Hid (Disk w F p S) := D
  obtain ⟨a1, c1, a2, c2, _, h1, h2, _, _, hf, R, P1, P2⟩ := D.open
  clear D h1 hf R P1 P2
  have hfew := HD.out.ok.few
  have HB : Hid (Bytes w a cs ∧ (0 < cs.length → ∀ x, a = some x → ¬ F x.block)) := ⟨hB, hF⟩
  clear hB hF
  obtain ⟨K, hK⟩ : ∃ K, min cs.length S.ws.length = K := ⟨_, rfl⟩
  have hmin : (if (S.ws.length : Int) < (cs.length : Int) then (S.ws.length : Int) else (cs.length : Int)) = (K : Int) := by split <;> omega
  have HK : Hid (K = min cs.length S.ws.length) := hK.symm
  have hK1 : K ≤ cs.length := by omega
  have hK2 : K ≤ S.ws.length := by omega
  clear hK
  go_enter Tryd.func25, Tryd.ntmps25
  go_wp2_with (refine wpList_min (by rfl) _ _ (by rfl) (cs.length : Int) (S.ws.length : Int) (K : Int) (by rfl) (by rfl) hmin ?_)
  clear hmin h2
  go_loopw [16] (fun i wr => ∃ k : Nat, k ≤ K ∧ i = .int .i64 (k : Int) ∧ Left F p w { S with ps := crashN S.ps S.ws cs k } wr) (fun i _ => K - (intOf i).toNat)
  case atStart => exact ⟨0, by omega, rfl, Left.refl HD.out⟩
  case round =>
    obtain ⟨k, hk, rfl, F', D4, S4⟩ := hrel
    have hpl := D4.lt
    by_cases hlt : k < K
    · have hlt' : (k : Int) < (K : Int) := by omega
      have hkc : (k : Int) < (cs.length : Int) := by omega
      have hkw : (k : Int) < (S.ws.length : Int) := by omega
      have hx := map_getD waitL S.ws k (0, []) (by omega)
      obtain ⟨hx1, hx2⟩ := HD.out.ok.at (i := k) (by omega)
      have HL : Hid (crashN S.ps S.ws cs (k + 1) = (crashN S.ps S.ws cs k).set (S.ws.getD k (0, [])).1 (tear ((crashN S.ps S.ws cs k).getD (S.ws.getD k (0, [])).1 []) (S.ws.getD k (0, [])).2 (cs.getD k 0).toNat)) := rfl
      have hll := crashN_length S.ps S.ws cs k
      generalize S.ws.getD k (0, []) = x at hx hx1 hx2 HL
      obtain ⟨at_, d⟩ := x
      simp only at hx1 hx2
      generalize crashN S.ps S.ws cs k = lp at D4 HL hll
      have hpg : (lp.getD at_ []).length = 256 := by
        have h : at_ < lp.length := by omega
        rw [List.getD_eq_getElem?_getD, List.getElem?_eq_getElem h]; exact D4.ok.page _ (List.getElem_mem h)
      have hpx := map_getD cellsL lp at_ [] (by omega)
      obtain ⟨b1, d1, b2, d2, _, k1, k2, _, _, hf, R, P1, P2⟩ := D4.open
      simp only at k1 k2 R P1 P2
      obtain ⟨g1, _, e1, hg1, _, _⟩ := P1.full (by rw [List.length_map]; omega)
      rw [List.length_map] at e1
      cases e1
      obtain ⟨g2, _, e2, hg2, _, _⟩ := P2.full (by rw [List.length_map]; omega)
      rw [List.length_map] at e2
      cases e2
      rw [hll] at k1 R P1 P2
      obtain ⟨xa, rfl, hxa⟩ := (HB.out.1.stepMore S4 HB.out.2) (by omega)
      have hby := hxa k (by omega)
      have hxb : xa.block < wr.heap.size := by have := World.block_lt_of_cell? wr _ hby; rwa [add_block] at this
      clear hxa
      have hc256 : (cs.getD k 0).toNat < 256 := UInt8.toNat_lt _
      generalize (cs.getD k 0).toNat = cb at hby HL hc256
      generalize lp.getD at_ [] = pg at hpg hpx HL
      have hx1' : (at_ : Int) < (S.ps.length : Int) := by omega
      have ht := torn_any pg d hpg hx2 cb hc256
      have HD4 : Hid (Disk wr F' p { S with ps := lp }) := D4
      have HR : Hid (Row wr p #[.int .i64 (S.lim : Int), .slice (some ⟨g1, 0, none⟩) S.ps.length d1, .slice (some ⟨g2, 0, none⟩) S.ws.length d2, .int .i64 S.fuse, .bool S.down] 81) := R
      clear D4 hf R HK
      go_wp2_with (first
        | refine wpList_load_pl (by rfl) 113 _ (by rfl) _ 113 257 g2 _ _ k _ _ _ P2 hx (by rfl) Tryd.underlying113 rfl (by rw [waitL_length hx2]; exact i80) ?_
        | (refine wpList_alloc_new (by rfl) 113 (by rfl) _ _ _ info80 ?_; intro W1 R1 M1)
        | (refine wpList_store_new (by rfl) 113 _ _ (by rfl) wr.heap.size (waitL (at_, d)).toArray (by rfl) (by rfl) 113 _ R1 (by rw [List.size_toArray, waitL_length hx2]; exact i80) (by rw [List.size_toArray, List.size_toArray, waitL_length (x := (at_, d)) hx2, waitL_length (x := (0, zeros)) zeros_length]) (waitL_all _) ?_; intro W2 R2 B2; have M2 : New wr W2 := B2.new M1 (Nat.le_refl _)))
      have hne := NewW.ne W2
      have P1w := P1.after M2
      have hq1 : ∀ q : NewW W2, q.v.cell? ⟨p, 1, none⟩ = some (.slice (some ⟨g1, 0, none⟩) S.ps.length d1) := fun q => NewW.cell ((M2.cell hpl).trans k1) q
      have hq0 : ∀ q : NewW W2, q.v.cell? ⟨wr.heap.size, 0, none⟩ = some (.int .i64 (at_ : Int)) := fun q => NewW.cell (waitL_at R2) q
      have hqb : ∀ q : NewW W2, q.v.cell? (xa.add k) = some (.int .u8 (cb : Int)) := fun q => by
        rw [q.h.cell (p := xa.add k) (by rw [add_block]; exact Nat.lt_of_lt_of_le hxb M2.size), M2.cell (p := xa.add k) (by rw [add_block]; exact hxb)]
        exact hby
      obtain ⟨hpi, hpe⟩ := List.getElem?_eq_some_iff.1 hpx
      have hqp : ∀ q : NewW W2, q.v.rangeAt g1 (at_ * 256) (cellsL pg) := fun q => by
        have := (P1w.after q.h).range hpi
        rw [hpe] at this
        exact this
      have hqd : ∀ q : NewW W2, q.v.rangeAt wr.heap.size 1 (cellsL d) := fun q => waitL_range (R2.after q.h) hx2
      clear k1 k2 hby hpe
      refine region_ord [0, 1, 2, 3, 4, 5, 6, 7, 8, 9, 10, 11, 12, 13, 14, 15, 16, 17, 18, 19, 20, 21] [22] W2 (New.refl W2) (by kernel_rfl) (by kernel_rfl) ?_
      simp only [pick, List.getElem?_cons_succ, List.getElem?_cons_zero, Option.toList_some, List.cons_append, List.nil_append]
      iterate 13 (go_big_quiet_step (fail))
      refine wpQuiet_load_mid (by rfl) 85 _ (by rfl) g1 (at_ * 256) (by rfl) (cellsL pg) hqp _ Tryd.underlying85 rfl (by rw [cellsL_length, hpg]; exact i77) ?_
      simp only [Act.put, List.setIfInBounds_toArray, List.set_cons_zero, List.set_cons_succ]
      iterate 1 (go_big_quiet_step (fail))
      refine wpQuiet_load_mid (by rfl) 85 _ (by rfl) wr.heap.size 1 (by rfl) (cellsL d) hqd _ Tryd.underlying85 rfl (by rw [cellsL_length, hx2]; exact i77) ?_
      simp only [Act.put, List.setIfInBounds_toArray, List.set_cons_zero, List.set_cons_succ]
      iterate 6 (go_big_quiet_step (first | (go_at_call 53; exact Calls.neww (ht _))))
      refine wpQuiet_nil ?_
      rintro W5 ⟨⟨_, N5⟩, rfl⟩
      have P15 := P1w.after N5
      have htl : (tear pg d cb).length = 256 := tear_length hpg hx2
      clear hq1 hq0 hqb hqp hqd hne ht
      go_wp2_with (refine wpList_store_pl (by rfl) 85 _ _ (by rfl) _ 85 256 g1 _ _ at_ _ (cellsL (tear pg d cb)) P15 (by rw [List.length_map]; omega) (by rfl) (by rfl) (by rw [cellsL_length, htl]) (by rw [cellsL_size, htl]; exact i77) (cellsL_one _) ?_; intro W6 Q6 B6)
      obtain ⟨D6, S6⟩ := Disk.setPage HD4.out HR.out P2 (M2.trans N5) B6 hg1 Q6 htl
      refine ⟨⟨k + 1, by omega, by go_num, F', ?_, S4.trans S6⟩, by simp [intOf]; omega⟩
      rw [HL.out]
      exact D6
    · obtain rfl : k = K := by omega
      obtain ⟨b1, d1, b2, d2, _, _, k2, k3, k4, hf, _⟩ := D4.open
      have f2 := hf 2
      have f3 := hf 3
      have f4 := hf 4
      have HD4 : Hid (Disk wr F' p { S with ps := crashN S.ps S.ws cs k }) := D4
      clear D4 hf
      go_wp2_with fail
      go_end0
      refine ⟨rfl, F', ?_, ((S4.trans (Step.setCell _ (a := ⟨p, 2, none⟩) HD4.out.base _)).trans (Step.setCell _ (a := ⟨p, 3, none⟩) HD4.out.base _)).trans (Step.setCell _ (a := ⟨p, 4, none⟩) HD4.out.base _)⟩
      unfold St.crash crashed
      rw [← HK.out]
      exact (HD4.out.noWait.fuse (-1) (by omega) (by omega)).down false
theorem crash_any {w : World} {F : Nat → Prop} {p : Nat} {S : St} (D : Disk w F p S) (a : Option Addr) (c : Nat) (cs : List UInt8) (hB : Bytes w a cs) (hF : ∀ x, a = some x → ¬ F x.block) (hcs : cs.length ≤ 4611686018427387904) :
    Calls Tryd.prog 25 #[.pointer (some ⟨p, 0, none⟩), .slice a cs.length c] w fun e w' => e = .returned (.tuple #[]) ∧ Left F p w (S.crash cs) w' := crash_more D a c cs hB (fun _ => hF) hcs

end Go.Proofs.YtkcoclpbkealgaaDoor
