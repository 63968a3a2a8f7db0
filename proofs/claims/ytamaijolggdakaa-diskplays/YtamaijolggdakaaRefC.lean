/-
  What the document's own disk leaves behind Sync and Grow.
-/
import Derived.Test.YtamaijolggdakaaRefB
namespace Go.Proofs.Ytamaijolggdakaa
open Go.RowKit

theorem But.setCell (w : World) (g i : Nat) (v : Value) : But g w (w.setCell ⟨g, i, none⟩ v) := ⟨rfl, rfl, rfl, by simp [World.setCell], fun k hk => Below.heap_setCell _ _ _ _ hk⟩
theorem Pl.setOne {w : World} {F : Nat → Prop} {t : TypeId} {g n c : Nat} {es : List (List Value)} (h : Pl w F t 1 (.slice (some ⟨g, 0, none⟩) n c) es) {i : Nat} (hi : i < es.length) (v : Value) :
    Pl (w.setCell ⟨g, i, none⟩ v) F t 1 (.slice (some ⟨g, 0, none⟩) n c) (es.set i [v]) := by
  have := h.set hi (e := [v]) rfl
  rw [Nat.mul_one] at this
  exact this
theorem Pl.frozen {w : World} {F : Nat → Prop} {t : TypeId} {k g n c : Nat} {es : List (List Value)} (h : Pl w F t k (.slice (some ⟨g, 0, none⟩) n c) es) (i : Nat) : w.frozen? ⟨g, i, none⟩ = false := by
  obtain ⟨cur, R, _⟩ := h.row
  exact R.frozen i
theorem exec_make {P : Program} {o : Oper} {a : Act} {w w' : World} {T : TypeId} {x y : Operand} {u v r : Value} (ho : o.op = .makeSlice T x y) (hx : a.eval x = u) (hy : a.eval y = v) (hr : (Instr.makeSlice T u v).run P w = .ok r w') : (execOp a.eval o).run P w = .ok (.value r) w' := by
  unfold execOp
  simp only [ho, hx, hy, Sem.run_bind, hr, Result.andThen_ok, Sem.run_pure]
theorem exec_convert {P : Program} {o : Oper} {a : Act} {w w' : World} {S T : TypeId} {x : Operand} {u r : Value} (ho : o.op = .convert S T x) (hx : a.eval x = u) (hr : (convert S T u).run P w = .ok r w') : (execOp a.eval o).run P w = .ok (.value r) w' := by
  unfold execOp
  simp only [ho, hx, Sem.run_bind, hr, Result.andThen_ok, Sem.run_pure]

set_option maxRecDepth 20000 in
set_option maxHeartbeats 2000000 in
theorem refsync_any {w : World} {F : Nat → Prop} {p : Nat} {S : St} (D : Rd w F p S) :
    Calls Try.prog 18 #[.pointer (some ⟨p, 0, none⟩)] w fun e w' => e = .returned (.int .i64 S.sync.1) ∧ RLeft F p w S.sync.2 w' := by
  have hac := refact_any D
  obtain ⟨a1, c1, a2, c2, h0, h1, h2, h3, h4, hf, _⟩ := D.open
  have HD : Hid (Rd w F p S) := D
  clear D hf
  have HR : Hid (S.sync = if S.down then (2, S) else if S.fuse = 0 then (2, S.dead) else (0, { S.burn with ps := latest S.ps S.ws, ws := [] })) := rfl
  generalize S.sync = r at HR ⊢
  cases hd : S.down
  · rw [hd] at h4
    rw [hd, if_neg (by simp)] at HR
    by_cases hz : S.fuse = 0
    · rw [if_pos hz] at HR
      simp only [if_pos hz] at hac
      go_enter Try.func18, Try.ntmps18
      go_wp2_with fail
      refine hac.mono ?_
      rintro _ w3 ⟨rfl, D3, S3⟩
      go_wp2_with fail
      go_ret
      exact ⟨by rw [HR.out]; rfl, by rw [HR.out]; exact ⟨F, D3, S3⟩⟩
    · rw [if_neg hz] at HR
      simp only [if_neg hz] at hac
      go_enter Try.func18, Try.ntmps18
      go_wp2_with fail
      refine hac.mono ?_
      rintro _ w3 ⟨rfl, D3, S3⟩
      clear hac h0 h1 h2 h3 h4
      go_wp2_with fail
      go_loopw [4] (fun u wr => ∃ i : Nat, i ≤ S.ws.length ∧ u = .int .i64 (i : Int) ∧ RLeft F p w { S.burn with ps := latestN S.ps S.ws i } wr) (fun u _ => S.ws.length - (intOf u).toNat)
      case atStart => exact ⟨0, by omega, rfl, F, D3, S3⟩
      case round =>
        clear D3 S3
        obtain ⟨i, hi, rfl, F', D4, S4⟩ := hrel
        have hpl := D4.lt
        have hfew := HD.out.ok.few
        by_cases hin : i < S.ws.length
        · have hin' : (i : Int) < (S.ws.length : Int) := by omega
          obtain ⟨hx1, hx2⟩ := HD.out.ok.at (i := i) hin
          have HL : Hid (latestN S.ps S.ws (i + 1) = (latestN S.ps S.ws i).set (S.ws.getD i (0, [])).1 (S.ws.getD i (0, [])).2) := rfl
          have hll := latestN_length S.ps S.ws i
          generalize latestN S.ps S.ws i = lp at D4 HL hll
          obtain ⟨b1, d1, b2, d2, _, k1, k2, _, _, hf, R, P1, P2⟩ := D4.open
          simp only at k1 k2 R P1 P2
          obtain ⟨g1, _, e1, hg1, _, _⟩ := P1.full (by rw [List.length_map]; omega)
          rw [List.length_map] at e1
          cases e1
          obtain ⟨g2, _, e2, hg2, _, _⟩ := P2.full (by rw [List.length_map]; exact (by omega : 0 < S.ws.length))
          rw [List.length_map] at e2
          cases e2
          obtain ⟨y0, y1⟩ := Pl.tell (ws := S.ws) P2 (i := i) hin
          generalize S.ws.getD i (0, []) = x at HL hx1 hx2 y0 y1
          obtain ⟨xa, xd⟩ := x
          simp only at HL hx1 hx2 y0 y1
          have z0 : wr.cell? ⟨g1, xa, none⟩ = some (.string (bs (lp.getD xa []))) := P1.text (by omega)
          rw [hll] at k1 R P1
          have hne := NewW.ne wr
          have q1 : ∀ q : NewW wr, q.v.cell? ⟨p, 1, none⟩ = some (.slice (some ⟨g1, 0, none⟩) S.ps.length d1) := fun q => NewW.cell k1 q
          have q2 : ∀ q : NewW wr, q.v.cell? ⟨p, 2, none⟩ = some (.slice (some ⟨g2, 0, none⟩) S.ws.length d2) := fun q => NewW.cell k2 q
          have q3 : ∀ q : NewW wr, q.v.cell? ⟨g2, i * 2, none⟩ = some (.int .i64 (xa : Int)) := fun q => NewW.cell y0 q
          have q4 : ∀ q : NewW wr, q.v.cell? ⟨g2, i * 2 + 1, none⟩ = some (.string (bs xd)) := fun q => NewW.cell y1 q
          have hxa : (xa : Int) < (S.ps.length : Int) := by omega
          have HD4 : Hid (Rd wr F' p { S.burn with ps := lp }) := D4
          have HH : Hid (Row wr p #[.int .i64 (S.burn.lim : Int), .slice (some ⟨g1, 0, none⟩) lp.length d1, .slice (some ⟨g2, 0, none⟩) S.ws.length d2, .int .i64 S.burn.fuse, .bool S.burn.down] 50) := by rw [hll]; exact R
          have HP1 : Hid (Pl wr (fun g => F' g ∧ g ≠ p) 9 1 (.slice (some ⟨g1, 0, none⟩) lp.length d1) (lp.map textL)) := by rw [hll]; exact P1
          have HP2 : Hid (Pl wr (fun g => F' g ∧ g ≠ p ∧ (Value.slice (some ⟨g1, 0, none⟩) lp.length d1).ownBlock ≠ some g) 82 2 (.slice (some ⟨g2, 0, none⟩) S.ws.length d2) (S.ws.map tellL)) := P2
          have k2' : wr.cell? ⟨p, 2, none⟩ = some (.slice (some ⟨g2, 0, none⟩) S.ws.length d2) := k2
          clear D4 hf R P1 P2 k1 k2 y0 y1
          go_wp2_with fail
          clear k2'
          refine region_first 21 1 wr (New.refl wr) (by kernel_rfl) (by kernel_rfl) ?_
          simp only [List.take_succ_cons, List.take_zero, List.drop_succ_cons, List.drop_zero, List.take_nil]
          iterate 21 (go_big_quiet_step (fail))
          refine wpQuiet_nil ?_
          rintro W5 ⟨⟨_, N5⟩, rfl⟩
          have z5 := (N5.cell (World.block_lt_of_cell? _ _ z0)).trans z0
          have zf := (HP1.out.after N5).frozen xa
          clear q1 q2 q3 q4 hne z0
          go_wp2_with fail
          have Q6 := (HP1.out.after N5).setOne (i := xa) (by rw [List.length_map]; omega) (.string (bs xd))
          obtain ⟨D6, S6⟩ := Rd.setPage HD4.out HH.out HP2.out N5 (But.setCell W5 g1 xa (.string (bs xd))) hg1 Q6 hx2
          refine ⟨⟨i + 1, by omega, by go_num, F', ?_, S4.trans S6⟩, by simp [intOf]; omega⟩
          rw [HL.out]
          exact D6
        · obtain rfl : i = S.ws.length := by omega
          obtain ⟨b1, d1, b2, d2, _, _, k2, _, _, hf, _⟩ := D4.open
          have f2 := hf 2
          have k2' : wr.cell? ⟨p, 2, none⟩ = some (.slice b2 S.ws.length d2) := k2
          clear k2
          have HD4 : Hid (Rd wr F' p { S.burn with ps := latestN S.ps S.ws S.ws.length }) := D4
          clear D4 hf
          go_wp2_with fail
          go_ret
          refine ⟨by rw [HR.out]; rfl, ?_⟩
          rw [HR.out]
          exact ⟨F', HD4.out.noWait, S4.trans (Step.setCell _ (a := ⟨p, 2, none⟩) HD4.out.base _)⟩
  · rw [hd] at h4
    rw [hd, if_pos rfl] at HR
    clear hac
    go_enter Try.func18, Try.ntmps18
    go_wp2_with fail
    go_ret
    exact ⟨by rw [HR.out]; rfl, by rw [HR.out]; exact ⟨F, HD.out, Step.refl _ _⟩⟩

end Go.Proofs.Ytamaijolggdakaa
