/-
  Two lists of writes that are alike; what a disk leaves behind Shrink.
-/
import Derived.Test.YtkcoclpbkealgaaDoorRefE
import Derived.Test.YtkcoclpbkealgaaDoorSegz
namespace Go.Proofs.YtkcoclpbkealgaaDoor
open Go.RowKit
set_option maxRecDepth 20000

set_option maxRecDepth 20000 in
set_option maxHeartbeats 2000000 in
theorem writes_same {w : World} {F G : Nat → Prop} (a b : Option Addr) (c d : Nat) (l : List (Nat × List UInt8)) (hl : Pl w F 76 2 (.slice a l.length c) (l.map tellL)) (hm : Pl w G 76 2 (.slice b l.length d) (l.map tellL)) (h63 : l.length ≤ 1000) :
    Calls Tryd.prog 31 #[.slice a l.length c, .slice b l.length d] w fun e w' => e = .returned (.bool true) ∧ New w w' := by
  have HA : Hid (Pl w F 76 2 (.slice a l.length c) (l.map tellL) ∧ Pl w G 76 2 (.slice b l.length d) (l.map tellL)) := ⟨hl, hm⟩
  clear hl hm
  go_enter Tryd.func31, Tryd.ntmps31
  go_wp2_with fail
  go_loopw [5] (fun u wr => ∃ i : Nat, u = .int .i64 (i : Int) ∧ i ≤ l.length ∧ New w wr) (fun u _ => l.length - (intOf u).toNat)
  case atStart => exact ⟨0, rfl, by omega, New.refl w⟩
  case round =>
    obtain ⟨i, rfl, hi, N⟩ := hrel
    by_cases hin : i < l.length
    · have hin' : (i : Int) < (l.length : Int) := by omega
      have PA := HA.out.1.after N
      have PB := HA.out.2.after N
      obtain ⟨g1, _, e1, _⟩ := PA.full (by rw [List.length_map]; omega)
      rw [List.length_map] at e1
      cases e1
      obtain ⟨g2, _, e2, _⟩ := PB.full (by rw [List.length_map]; omega)
      rw [List.length_map] at e2
      cases e2
      have hx := map_getD tellL l i (0, []) hin
      obtain ⟨hpi, hpe⟩ := List.getElem?_eq_some_iff.1 hx
      generalize l.getD i (0, []) = x at hpe hx
      obtain ⟨xa, xd⟩ := x
      have q1 : ∀ q : NewW wr, q.v.rangeAt g1 (i * 2) [.int .i64 (xa : Int), .string (bs xd)] := fun q => by
        have := (PA.after q.h).range hpi
        rw [hpe] at this
        exact this
      have q2 : ∀ q : NewW wr, q.v.rangeAt g2 (i * 2) [.int .i64 (xa : Int), .string (bs xd)] := fun q => by
        have := (PB.after q.h).range hpi
        rw [hpe] at this
        exact this
      have hne := NewW.ne wr
      clear PA PB hx hpe hpi
      go_wp2_with fail
      refine region_first 9 0 wr (New.refl wr) (by kernel_rfl) (by kernel_rfl) ?_
      simp only [List.take_succ_cons, List.drop_succ_cons, List.drop_zero, List.take_nil]
      iterate 3 (go_big_quiet_step (fail))
      refine wpQuiet_load_mid (by rfl) 76 _ (by rfl) g1 (i * 2) (by rfl) [.int .i64 (xa : Int), .string (bs xd)] q1 _ Tryd.underlying76 rfl i82 ?_
      simp only [Act.put, List.setIfInBounds_toArray, List.set_cons_zero, List.set_cons_succ]
      iterate 3 (go_big_quiet_step (fail))
      refine wpQuiet_load_mid (by rfl) 76 _ (by rfl) g2 (i * 2) (by rfl) [.int .i64 (xa : Int), .string (bs xd)] q2 _ Tryd.underlying76 rfl i82 ?_
      simp only [Act.put, List.setIfInBounds_toArray, List.set_cons_zero, List.set_cons_succ]
      iterate 1 (go_big_quiet_step (fail))
      refine wpQuiet_nil ?_
      rintro w4 ⟨⟨_, N4⟩, rfl⟩
      go_wp2_with fail
      exact ⟨⟨i + 1, by go_num, by omega, N.trans N4⟩, by simp [intOf]; omega⟩
    · obtain rfl : i = l.length := by omega
      go_wp2_with fail
      go_ret
      exact ⟨rfl, N⟩

theorem Disk.cut {w0 w W : World} {F : Nat → Prop} {p k : Nat} {S : St} {b1 : Option Addr} {d1 : Nat} {v2 v : Value} {ws : List (Nat × List UInt8)} (S0 : Step F F w0 w) (D : Disk w F p S) (R : Row w p #[.int .i64 (S.lim : Int), .slice b1 S.ps.length d1, v2, .int .i64 S.fuse, .bool S.down] 81)
    (P1 : Pl w (fun g => F g ∧ g ≠ p) 85 256 (.slice b1 S.ps.length d1) (S.ps.map cellsL)) (N : New w W) (Q : Pl W (Fresh w) 113 257 v (ws.map waitL)) (hk : k ≤ S.ps.length) (hok : Ok { S with ps := S.ps.take k, ws := ws }) :
    Left F p w0 { S with ps := S.ps.take k, ws := ws } ((W.setCell ⟨p, 1, none⟩ (.slice b1 k d1)).setCell ⟨p, 2, none⟩ v) := by
  have hpl := D.lt
  have hsz := N.size
  have e : ∀ b, b ≠ p → ((W.setCell ⟨p, 1, none⟩ (.slice b1 k d1)).setCell ⟨p, 2, none⟩ v).heap[b]? = W.heap[b]? := fun b hb => (Below.heap_setCell _ _ _ _ hb).trans (Below.heap_setCell _ _ _ _ hb)
  have hn : ∀ g, v.ownBlock = some g → w.heap.size ≤ g := fun g hg => Q.foot g hg
  have Pt : Pl w (fun g => F g ∧ g ≠ p) 85 256 (.slice b1 k d1) ((S.ps.take k).map cellsL) := by
    rw [List.map_take]
    rcases P1.cases with ⟨hv, he⟩ | ⟨g, c, hv, _⟩
    · simp only [Value.slice.injEq] at hv
      obtain ⟨rfl, h0, rfl⟩ := hv
      obtain rfl : k = 0 := by omega
      rw [List.take_zero]
      exact Pl.nil _ _ _ _
    · simp only [Value.slice.injEq] at hv
      obtain ⟨rfl, _, rfl⟩ := hv
      exact P1.take (by rw [List.length_map]; exact hk)
  refine ⟨Wide F w0 _, Disk.build (F := F) (w := w0) (v1 := .slice b1 k d1) (v2 := v) (G1 := fun g => F g ∧ g ≠ p) (G2 := fun g => w.heap.size ≤ g) D.base hok (((R.after N).set 1 _).set 2 _) ?_ ?_ ?_ ?_, ?_⟩
  · exact (Pt.after N).of (fun b hb _ => e b hb.2) (fun _ h _ => h)
  · exact Q.of (fun b hb _ => e b (by have : w.heap.size ≤ b := hb; omega)) (fun _ h _ => h)
  · intro g hg
    have := Pt.foot g hg
    exact ⟨.inl this.1, this.2⟩
  · intro g hg
    have h1 := hn g hg
    refine ⟨.inr (Nat.le_trans S0.size h1), by omega, fun h => ?_⟩
    have := Pt.lt h
    omega
  · exact (((S0.trans (Step.new N)).trans (Step.setCell W (a := ⟨p, 1, none⟩) D.base _)).trans (Step.setCell _ (a := ⟨p, 2, none⟩) D.base _)).widen

end Go.Proofs.YtkcoclpbkealgaaDoor
