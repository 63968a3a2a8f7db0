/-
  Two lists of writes that are alike; what a disk leaves behind Shrink.
-/
import Derived.Test.YtamaijolggdakaaRefE
import Derived.Test.YtamaijolggdakaaSegz
namespace Go.Proofs.Ytamaijolggdakaa
open Go.RowKit

set_option maxRecDepth 20000 in
set_option maxHeartbeats 2000000 in
theorem writes_same {w : World} {F G : Nat → Prop} (a b : Option Addr) (c d : Nat) (l : List (Nat × List UInt8)) (hl : Pl w F 82 2 (.slice a l.length c) (l.map tellL)) (hm : Pl w G 82 2 (.slice b l.length d) (l.map tellL)) (h63 : l.length ≤ 1000) :
    Calls Try.prog 29 #[.slice a l.length c, .slice b l.length d] w fun e w' => e = .returned (.bool true) ∧ New w w' := by
  have HA : Hid (Pl w F 82 2 (.slice a l.length c) (l.map tellL) ∧ Pl w G 82 2 (.slice b l.length d) (l.map tellL)) := ⟨hl, hm⟩
  clear hl hm
  go_enter Try.func29, Try.ntmps29
  go_wp2_with fail
  go_loopw [5] (fun u wr => ∃ i : Nat, u = .int .i64 (i : Int) ∧ i ≤ l.length ∧ New w wr) (fun u _ => l.length - (intOf u).toNat)
  case atStart => exact ⟨0, rfl, by omega, New.refl w⟩
  case round =>
    obtain ⟨i, rfl, hi, N⟩ := hrel
    by_cases hin : i < l.length
    · have hin' : (i : Int) < (l.length : Int) := by omega
      have PA := HA.out.1.after N
      have PB := HA.out.2.after N
      obtain ⟨g1, _, e1, _⟩ := PA.full (by rw [List.length_map]; omega)
      rw [List.length_map] at e1
      cases e1
      obtain ⟨g2, _, e2, _⟩ := PB.full (by rw [List.length_map]; omega)
      rw [List.length_map] at e2
      cases e2
      have hx := map_getD tellL l i (0, []) hin
      obtain ⟨hpi, hpe⟩ := List.getElem?_eq_some_iff.1 hx
      generalize l.getD i (0, []) = x at hpe hx
      obtain ⟨xa, xd⟩ := x
      have q1 : ∀ q : NewW wr, q.v.rangeAt g1 (i * 2) [.int .i64 (xa : Int), .string (bs xd)] := fun q => by
        have := (PA.after q.h).range hpi
        rw [hpe] at this
        exact this
      have q2 : ∀ q : NewW wr, q.v.rangeAt g2 (i * 2) [.int .i64 (xa : Int), .string (bs xd)] := fun q => by
        have := (PB.after q.h).range hpi
        rw [hpe] at this
        exact this
      have hne := NewW.ne wr
      clear PA PB hx hpe hpi
      go_wp2_with fail
      refine region_first 9 0 wr (New.refl wr) (by kernel_rfl) (by kernel_rfl) ?_
      simp only [List.take_succ_cons, List.drop_succ_cons, List.drop_zero, List.take_nil]
      iterate 3 (go_big_quiet_step (fail))
      refine wpQuiet_load_mid (by rfl) 82 _ (by rfl) g1 (i * 2) (by rfl) [.int .i64 (xa : Int), .string (bs xd)] q1 _ Try.underlying82 rfl i82 ?_
      simp only [Act.put, List.setIfInBounds_toArray, List.set_cons_zero, List.set_cons_succ]
      iterate 3 (go_big_quiet_step (fail))
      refine wpQuiet_load_mid (by rfl) 82 _ (by rfl) g2 (i * 2) (by rfl) [.int .i64 (xa : Int), .string (bs xd)] q2 _ Try.underlying82 rfl i82 ?_
      simp only [Act.put, List.setIfInBounds_toArray, List.set_cons_zero, List.set_cons_succ]
      iterate 1 (go_big_quiet_step (fail))
      refine wpQuiet_nil ?_
      rintro w4 ⟨⟨_, N4⟩, rfl⟩
      go_wp2_with fail
      exact ⟨⟨i + 1, by go_num, by omega, N.trans N4⟩, by simp [intOf]; omega⟩
    · obtain rfl : i = l.length := by omega
      go_wp2_with fail
      go_ret
      exact ⟨rfl, N⟩

theorem Disk.cut {w0 w W : World} {F : Nat → Prop} {p k : Nat} {S : St} {b1 : Option Addr} {d1 : Nat} {v2 v : Value} {ws : List (Nat × List UInt8)} (S0 : Step F F w0 w) (D : Disk w F p S) (R : Row w p #[.int .i64 (S.lim : Int), .slice b1 S.ps.length d1, v2, .int .i64 S.fuse, .bool S.down] 73)
    (P1 : Pl w (fun g => F g ∧ g ≠ p) 77 256 (.slice b1 S.ps.length d1) (S.ps.map cellsL)) (N : New w W) (Q : Pl W (Fresh w) 80 257 v (ws.map waitL)) (hk : k ≤ S.ps.length) (hok : Ok { S with ps := S.ps.take k, ws := ws }) :
    Left F p w0 { S with ps := S.ps.take k, ws := ws } ((W.setCell ⟨p, 1, none⟩ (.slice b1 k d1)).setCell ⟨p, 2, none⟩ v) := by
  have hpl := D.lt
  have hsz := N.size
  have e : ∀ b, b ≠ p → ((W.setCell ⟨p, 1, none⟩ (.slice b1 k d1)).setCell ⟨p, 2, none⟩ v).heap[b]? = W.heap[b]? := fun b hb => (Below.heap_setCell _ _ _ _ hb).trans (Below.heap_setCell _ _ _ _ hb)
  have hn : ∀ g, v.ownBlock = some g → w.heap.size ≤ g := fun g hg => Q.foot g hg
  have Pt : Pl w (fun g => F g ∧ g ≠ p) 77 256 (.slice b1 k d1) ((S.ps.take k).map cellsL) := by
    rw [List.map_take]
    rcases P1.cases with ⟨hv, he⟩ | ⟨g, c, hv, _⟩
    · simp only [Value.slice.injEq] at hv
      obtain ⟨rfl, h0, rfl⟩ := hv
      obtain rfl : k = 0 := by omega
      rw [List.take_zero]
      exact Pl.nil _ _ _ _
    · simp only [Value.slice.injEq] at hv
      obtain ⟨rfl, _, rfl⟩ := hv
      exact P1.take (by rw [List.length_map]; exact hk)
  refine ⟨Wide F w0 _, Disk.build (F := F) (w := w0) (v1 := .slice b1 k d1) (v2 := v) (G1 := fun g => F g ∧ g ≠ p) (G2 := fun g => w.heap.size ≤ g) D.base hok (((R.after N).set 1 _).set 2 _) ?_ ?_ ?_ ?_, ?_⟩
  · exact (Pt.after N).of (fun b hb _ => e b hb.2) (fun _ h _ => h)
  · exact Q.of (fun b hb _ => e b (by have : w.heap.size ≤ b := hb; omega)) (fun _ h _ => h)
  · intro g hg
    have := Pt.foot g hg
    exact ⟨.inl this.1, this.2⟩
  · intro g hg
    have h1 := hn g hg
    refine ⟨.inr (Nat.le_trans S0.size h1), by omega, fun h => ?_⟩
    have := Pt.lt h
    omega
  · exact (((S0.trans (Step.new N)).trans (Step.setCell W (a := ⟨p, 1, none⟩) D.base _)).trans (Step.setCell _ (a := ⟨p, 2, none⟩) D.base _)).widen

set_option maxRecDepth 20000 in
set_option maxHeartbeats 2000000 in
theorem shrink_any {w : World} {F : Nat → Prop} {p : Nat} {S : St} (D : Disk w F p S) (n : Int) :
    Calls Try.prog 21 #[.pointer (some ⟨p, 0, none⟩), .int .i64 n] w fun e w' => e = .returned (.int .i64 (S.shrink n).1) ∧ Left F p w (S.shrink n).2 w' := by
  have hr := ready_any D
  have hac := act_any D
  have HD : Hid (Disk w F p S) := D
  obtain ⟨_, _, _, _, _, h1, _⟩ := D.open
  clear D
  have HR : Hid (S.shrink n = if S.down then (2, S) else if n < 0 ∨ (S.ps.length : Int) < n then (4, S) else if S.fuse = 0 then (2, S.dead) else (0, { S.burn with ps := S.ps.take n.toNat, ws := S.ws.filter fun x => decide (x.1 < n.toNat) })) := rfl
  generalize S.shrink n = r at HR ⊢
  cases hd : S.down
  · rw [hd] at hr
    rw [hd, if_neg (by simp)] at HR
    by_cases h0 : n < 0
    · rw [if_pos (.inl h0)] at HR
      clear hac
      go_enter Try.func21, Try.ntmps21
      go_wp2_with fail
      refine hr.mono ?_
      rintro _ w1 ⟨rfl, rfl⟩
      go_wp2_with fail
      go_ret
      exact ⟨by rw [HR.out]; rfl, by rw [HR.out]; exact Left.refl HD.out⟩
    · by_cases h2 : (S.ps.length : Int) < n
      · rw [if_pos (.inr h2)] at HR
        clear hac
        go_enter Try.func21, Try.ntmps21
        go_wp2_with fail
        refine hr.mono ?_
        rintro _ w1 ⟨rfl, rfl⟩
        go_wp2_with fail
        go_ret
        exact ⟨by rw [HR.out]; rfl, by rw [HR.out]; exact Left.refl HD.out⟩
      · rw [if_neg (by omega)] at HR
        by_cases hz : S.fuse = 0
        · rw [if_pos hz] at HR
          simp only [if_pos hz] at hac
          go_enter Try.func21, Try.ntmps21
          go_wp2_with fail
          refine hr.mono ?_
          rintro _ w1 ⟨rfl, rfl⟩
          go_wp2_with fail
          refine hac.mono ?_
          rintro _ w3 ⟨rfl, D3, S3⟩
          go_wp2_with fail
          go_ret
          exact ⟨by rw [HR.out]; rfl, by rw [HR.out]; exact ⟨F, D3, S3⟩⟩
        · rw [if_neg hz] at HR
          simp only [if_neg hz] at hac
          obtain ⟨k, rfl⟩ : ∃ k : Nat, n = (k : Int) := ⟨n.toNat, by omega⟩
          rw [Int.toNat_natCast] at HR
          have hk : k ≤ S.ps.length := by omega
          go_enter Try.func21, Try.ntmps21
          go_wp2_with fail
          refine hr.mono ?_
          rintro _ w1 ⟨rfl, rfl⟩
          go_wp2_with fail
          refine hac.mono ?_
          rintro _ w3 ⟨rfl, D3, S3⟩
          obtain ⟨b1, d1, b2, d2, _, k1, k2, _, _, hf, R, P1, P2⟩ := D3.open
          have hpl := D3.lt
          have hkd : (k : Int) ≤ (d1 : Int) := by
            obtain ⟨_, c9, hv, hc⟩ := P1.form
            simp only [Value.slice.injEq] at hv
            rw [List.length_map] at hc
            have h9 : S.ps.length ≤ c9 := hc
            have := hv.2.2
            omega
          have hk63 : (k : Int) ≤ (S.ps.length : Int) := by omega
          have HQ : Hid (Disk w3 F p S.burn ∧ Row w3 p #[.int .i64 (S.burn.lim : Int), .slice b1 S.burn.ps.length d1, .slice b2 S.burn.ws.length d2, .int .i64 S.burn.fuse, .bool S.burn.down] 73 ∧ Pl w3 (fun g => F g ∧ g ≠ p) 77 256 (.slice b1 S.burn.ps.length d1) (S.burn.ps.map cellsL)) := ⟨D3, R, P1⟩
          have HP2 : Hid (Pl w3 (fun g => F g ∧ g ≠ p ∧ (Value.slice b1 S.burn.ps.length d1).ownBlock ≠ some g) 80 257 (.slice b2 S.ws.length d2) (S.ws.map waitL)) := P2
          have hne := NewW.ne w3
          have hne2 := AnyW.ne
          have q1 : ∀ q : NewW w3, q.v.cell? ⟨p, 1, none⟩ = some (.slice b1 S.ps.length d1) := fun q => NewW.cell k1 q
          have q2 : ∀ q : NewW w3, q.v.cell? ⟨p, 2, none⟩ = some (.slice b2 S.ws.length d2) := fun q => NewW.cell k2 q
          clear D3 R P1 P2 hf k1 k2 hac h1
          go_wp2_with fail
          refine region_segz [0, 1, 2, 3, 4, 6, 8, 9, 10, 12] [([5, 7, 11], 13)] [14, 15, 16, 17, 18, 19] (fun w' => ∃ q : NewW w3, w' = q.v) ⟨⟨w3.drew, New.drew w3⟩, rfl⟩ (by kernel_rfl) (by kernel_rfl) (fun d _ _ _ _ h => by cases d <;> exact h) ?_
          simp only [pick, List.getElem?_cons_succ, List.getElem?_cons_zero, Option.toList_some, List.cons_append, List.nil_append]
          unfold AnyP
          iterate 10 (go_big_quiet_step (fail))
          refine wpQuiet_nil ?_
          unfold wpSegz
          simp only [pick, List.getElem?_cons_succ, List.getElem?_cons_zero, Option.toList_some, List.cons_append, List.nil_append]
          iterate 3 (go_big_quiet_step (fail))
          refine wpQuiet_nil ?_
          clear q1 q2 hne hne2
          refine wpOp_call (some 41) 46 #[.slice b2 S.ws.length d2, .int .i64 (k : Int)] (by rfl) (by rfl) (by rfl) (by go_simp) ?_
          refine (below_any (HP2.out.after (New.drew w3)) (fun x hx => (HQ.out.1.ok.wait x hx).2) HQ.out.1.ok.few k).mono ?_
          rintro _ W5 ⟨v, rfl, Q5, N5⟩
          have M5 : New w3 W5 := (New.drew w3).trans N5
          refine ⟨v, rfl, ⟨⟨W5, M5⟩, rfl⟩, ?_⟩
          simp only [Act.put, List.setIfInBounds_toArray, List.set_cons_zero, List.set_cons_succ]
          unfold wpSegz
          simp only [pick, List.getElem?_cons_succ, List.getElem?_cons_zero, Option.toList_some, List.cons_append, List.nil_append]
          have RW := HQ.out.2.1.after M5
          have m1 : W5.cell? ⟨p, 1, none⟩ = some (.slice b1 S.ps.length d1) := RW.cell 1
          have m2 : W5.cell? ⟨p, 2, none⟩ = some (.slice b2 S.ws.length d2) := RW.cell 2
          have f1 := RW.frozen 1
          have f2 := RW.frozen 2
          have HF : Hid (Left F p w1 { S.burn with ps := S.ps.take k, ws := S.ws.filter fun x => decide (x.1 < k) } ((W5.setCell ⟨p, 1, none⟩ (.slice b1 k d1)).setCell ⟨p, 2, none⟩ v)) :=
            Disk.cut S3 HQ.out.1 HQ.out.2.1 HQ.out.2.2 M5 (Q5.mono fun b hb _ => hb) hk (HQ.out.1.ok.shrunk k hk)
          obtain ⟨a6, c6, rfl, _⟩ := Q5.form
          clear RW Q5
          generalize ((S.ws.filter fun x => decide (x.1 < k)).map waitL).length = m6 at HF ⊢
          go_wp2_with fail
          go_ret
          refine ⟨by rw [HR.out]; rfl, ?_⟩
          rw [HR.out]
          exact HF.out
  · rw [hd] at hr
    rw [hd, if_pos rfl] at HR
    clear hac
    go_enter Try.func21, Try.ntmps21
    go_wp2_with fail
    refine hr.mono ?_
    rintro _ w1 ⟨rfl, rfl⟩
    go_wp2_with fail
    go_ret
    exact ⟨by rw [HR.out]; rfl, by rw [HR.out]; exact Left.refl HD.out⟩

end Go.Proofs.Ytamaijolggdakaa
