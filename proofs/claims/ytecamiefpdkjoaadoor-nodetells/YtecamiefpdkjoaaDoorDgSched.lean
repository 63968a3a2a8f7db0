/-
  What schedule tells: a word for each round.
-/
import Derived.Test.YtecamiefpdkjoaaDoorDgRound
import Derived.Deep.Cut
namespace Go.Proofs.YtecamiefpdkjoaaDoor.Dg
open Go.RowKit
set_option maxRecDepth 20000

theorem i24 : (Tryd.prog.info? 77).map (·.size) = some 64 := by kernel_rfl
theorem i40 : (Tryd.prog.info? 75).map (·.size) = some 64 := by kernel_rfl
theorem Row.newAt {w : World} {g : Nat} (h : w.heap.size = g) (cs : Array Value) (t : TypeId) : Row (w.alloc (.cells cs t)) g cs t := by subst h; exact Row.new w cs t
/-- The words so far, and noughts behind them. -/
def pad64 (l : List Nat) : List Nat := l ++ List.replicate (64 - l.length) 0
theorem pad64_length (l : List Nat) (h : l.length ≤ 64) : (pad64 l).length = 64 := by
  unfold pad64; rw [List.length_append, List.length_replicate]; omega
theorem pad64_get (l : List Nat) (j : Nat) (h : j < l.length) : (pad64 l).getD j 0 = l.getD j 0 := by
  unfold pad64
  rw [List.getD_eq_getElem?_getD, List.getElem?_append_left h, List.getD_eq_getElem?_getD]
theorem pad64_set (l : List Nat) (x : Nat) (h : l.length < 64) : (pad64 l).set l.length x = pad64 (l ++ [x]) := by
  unfold pad64
  rw [List.set_append_right _ _ (Nat.le_refl _), Nat.sub_self, show 64 - l.length = (63 - l.length) + 1 by omega, List.replicate_succ, List.set_cons_zero, List.length_append, List.append_assoc]
  congr 2
  show List.replicate (63 - l.length) 0 = List.replicate (64 - (l.length + 1)) 0
  congr 1
  omega
theorem pad64_full (l : List Nat) (h : l.length = 64) : pad64 l = l := by
  unfold pad64; rw [h]; simp

theorem Row.push {w : World} {g k : Nat} {t : TypeId} {l : List Nat} (R : Row w g (cw (pad64 l)) t) (hk : l.length = k) (h : k < 64) (x : Nat) : Row (w.setCell ⟨g, k, none⟩ (.int .u32 (x : Int))) g (cw (pad64 (l ++ [x]))) t := by
  subst hk
  have h1 := R.setCell l.length (.int .u32 (x : Int))
  rw [cw_set, pad64_set _ _ h] at h1
  exact h1

set_option maxHeartbeats 1600000 in
theorem sched_any (b : List Nat) (hb : b.length = 64) (h256 : ∀ j, b.getD j 0 < 256) (w : World) :
    Calls Tryd.prog 70 #[.agg (cb b)] w fun e w' => e = .returned (.agg (cw (sch b 64))) ∧ Kept w w' := by
  obtain ⟨bc, hbc⟩ : ∃ bc, cb b = bc := ⟨_, rfl⟩
  rw [hbc]
  have hx := xo_u32
  have ho := ors_u32
  have hd := ad_u32
  go_enter Tryd.func70, Tryd.ntmps70
  go_wp2_with fail
  go_loopw [10] (fun i wr => ∃ k : Nat, k ≤ 16 ∧ i = .int .i64 (k : Int) ∧ Row wr w.heap.size bc 77 ∧ (∃ z, Row wr (w.heap.size + 1) z 75 ∧ z.size = 64) ∧ Row wr (w.heap.size + 2) (cw (pad64 (sch b k))) 75 ∧ Kept w wr) (fun i _ => (16 - intOf i).toNat)
  case atStart =>
    refine ⟨0, by omega, rfl, ((Row.new w _ _).alloc _).alloc _, ⟨_, (Row.newAt (by simp) _ _).alloc _, rfl⟩, Row.newAt (by simp) _ _, (((Kept.refl w).allocR _).allocR _).allocR _⟩
  case round =>
    obtain ⟨k, hk, rfl, R1, ⟨z, R2, hz⟩, R3, hK⟩ := hrel
    have HZ : Hid (z.size = 64) := hz
    clear hz
    by_cases hlt : k < 16
    · obtain ⟨b0, e0⟩ : ∃ x, b.getD (4 * k) 0 = x := ⟨_, rfl⟩
      obtain ⟨b1, e1⟩ : ∃ x, b.getD (4 * k + 1) 0 = x := ⟨_, rfl⟩
      obtain ⟨b2, e2⟩ : ∃ x, b.getD (4 * k + 2) 0 = x := ⟨_, rfl⟩
      obtain ⟨b3, e3⟩ : ∃ x, b.getD (4 * k + 3) 0 = x := ⟨_, rfl⟩
      obtain ⟨q, hq⟩ : ∃ q, 4 * k = q := ⟨_, rfl⟩
      have hw : wordB b k = ors (ors (ors (sl b0 24) (sl b1 16)) (sl b2 8)) b3 := by unfold wordB; rw [e0, e1, e2, e3]
      have HW : Hid (wordB b k = ors (ors (ors (sl b0 24) (sl b1 16)) (sl b2 8)) b3) := hw
      have g0 := h256 (4 * k)
      have g1 := h256 (4 * k + 1)
      have g2 := h256 (4 * k + 2)
      have g3 := h256 (4 * k + 3)
      rw [e0] at g0
      rw [e1] at g1
      rw [e2] at g2
      rw [e3] at g3
      have c0 : wr.cell? ⟨w.heap.size, q, none⟩ = some (.int .u8 (b0 : Int)) := by rw [R1.cell, ← hbc, cb_get _ _ (by omega), ← hq, e0]
      have c1 : wr.cell? ⟨w.heap.size, q + 1, none⟩ = some (.int .u8 (b1 : Int)) := by rw [R1.cell, ← hbc, cb_get _ _ (by omega), ← hq, e1]
      have c2 : wr.cell? ⟨w.heap.size, q + 2, none⟩ = some (.int .u8 (b2 : Int)) := by rw [R1.cell, ← hbc, cb_get _ _ (by omega), ← hq, e2]
      have c3 : wr.cell? ⟨w.heap.size, q + 3, none⟩ = some (.int .u8 (b3 : Int)) := by rw [R1.cell, ← hbc, cb_get _ _ (by omega), ← hq, e3]
      have hq0 : (4 : Int) * (k : Int) = (q : Int) := by omega
      have hq1 : q < 61 := by omega
      have hq2 : (q : Int) < 61 := by omega
      have hq3 : (0 : Int) ≤ (q : Int) := by omega
      have s0 : (b0 : Int) * 16777216 = ((sl b0 24 : Nat) : Int) := by unfold sl; omega
      have s1 : (b1 : Int) * 65536 = ((sl b1 16 : Nat) : Int) := by unfold sl; omega
      have s2 : (b2 : Int) * 256 = ((sl b2 8 : Nat) : Int) := by unfold sl; omega
      obtain ⟨o, t3⟩ : ∃ o, wr.cell? ⟨w.heap.size + 1 + 1, k, none⟩ = some o := ⟨_, (R3.cell k).trans (cw_get _ _ (by rw [pad64_length _ (by rw [sch_length]; omega)]; omega))⟩
      have f3 : wr.frozen? ⟨w.heap.size + 1 + 1, k, none⟩ = false := R3.frozen k
      have HS : Hid (sch b (k + 1) = sch b k ++ [wordB b k]) := by show sch b (k + 1) = _; rw [sch, if_pos hlt]
      clear e0 e1 e2 e3 hw h256 hbc hq hb
      go_wp2_with fail
      go_region
      go_wp2_with fail
      go_roundw
      case rel =>
        refine ⟨k + 1, by omega, by simp, (R1.drew.setCellOther (by simp; omega) _), ⟨z, R2.drew.setCellOther (by simp) _, HZ.out⟩, ?_, hK.drewR.setCell (by simp; omega) _⟩
        rw [HS.out, HW.out]
        exact Row.push R3.drew (sch_length b k) (by omega) _
      case measure => simp [intOf]; omega
    · obtain rfl : k = 16 := by omega
      clear hk hlt
      go_wp2_with fail
      go_loopw [5] (fun i wr => ∃ k : Nat, 16 ≤ k ∧ k ≤ 64 ∧ i = .int .i64 (k : Int) ∧ Row wr w.heap.size bc 77 ∧ (∃ z, Row wr (w.heap.size + 1) z 75 ∧ z.size = 64) ∧ Row wr (w.heap.size + 2) (cw (pad64 (sch b k))) 75 ∧ Kept w wr) (fun i _ => (64 - intOf i).toNat)
      case atStart => exact ⟨16, by omega, by omega, rfl, R1, ⟨z, R2, HZ.out⟩, R3, hK⟩
      case round =>
        clear R1 R2 R3 hK HZ
        rename_i wr0 _ _
        obtain ⟨k, hk0, hk, rfl, R1, ⟨z, R2, hz⟩, R3, hK⟩ := hrel
        have HZ : Hid (z.size = 64) := hz
        clear hz
        by_cases hlt : k < 64
        · have hl : (sch b k).length = k := sch_length b k
          have hp := pad64_length (sch b k) (by omega)
          obtain ⟨x16, e16⟩ : ∃ x, (sch b k).getD (k - 16) 0 = x := ⟨_, rfl⟩
          obtain ⟨x15, e15⟩ : ∃ x, (sch b k).getD (k - 15) 0 = x := ⟨_, rfl⟩
          obtain ⟨x7, e7⟩ : ∃ x, (sch b k).getD (k - 7) 0 = x := ⟨_, rfl⟩
          obtain ⟨x2, e2⟩ : ∃ x, (sch b k).getD (k - 2) 0 = x := ⟨_, rfl⟩
          have HS : Hid (sch b (k + 1) = sch b k ++ [ad (ad (ad x16 (lowS x15)) x7) (highS x2)]) := by
            show sch b (k + 1) = _
            rw [sch, if_neg (by omega)]
            unfold mixS
            rw [e16, e15, e7, e2]
          obtain ⟨m16, h16⟩ : ∃ m, k - 16 = m := ⟨_, rfl⟩
          obtain ⟨m15, h15⟩ : ∃ m, k - 15 = m := ⟨_, rfl⟩
          obtain ⟨m7, h7⟩ : ∃ m, k - 7 = m := ⟨_, rfl⟩
          obtain ⟨m2, h2⟩ : ∃ m, k - 2 = m := ⟨_, rfl⟩
          have c16 : wr.cell? ⟨w.heap.size + 1 + 1, m16, none⟩ = some (.int .u32 (x16 : Int)) := by rw [R3.cell, cw_get _ _ (by omega), pad64_get _ _ (by omega), ← h16, e16]
          have c15 : wr.cell? ⟨w.heap.size + 1 + 1, m15, none⟩ = some (.int .u32 (x15 : Int)) := by rw [R3.cell, cw_get _ _ (by omega), pad64_get _ _ (by omega), ← h15, e15]
          have c7 : wr.cell? ⟨w.heap.size + 1 + 1, m7, none⟩ = some (.int .u32 (x7 : Int)) := by rw [R3.cell, cw_get _ _ (by omega), pad64_get _ _ (by omega), ← h7, e7]
          have c2 : wr.cell? ⟨w.heap.size + 1 + 1, m2, none⟩ = some (.int .u32 (x2 : Int)) := by rw [R3.cell, cw_get _ _ (by omega), pad64_get _ _ (by omega), ← h2, e2]
          obtain ⟨o, t3⟩ : ∃ o, wr.cell? ⟨w.heap.size + 1 + 1, k, none⟩ = some o := ⟨_, (R3.cell k).trans (cw_get _ _ (by omega))⟩
          have f3 : wr.frozen? ⟨w.heap.size + 1 + 1, k, none⟩ = false := R3.frozen k
          have i16 : (k : Int) - 16 = (m16 : Int) := by omega
          have i15 : (k : Int) - 15 = (m15 : Int) := by omega
          have i7 : (k : Int) - 7 = (m7 : Int) := by omega
          have i2 : (k : Int) - 2 = (m2 : Int) := by omega
          have g16 : (m16 : Int) < 64 := by omega
          have g15 : (m15 : Int) < 64 := by omega
          have g7 : (m7 : Int) < 64 := by omega
          have g2 : (m2 : Int) < 64 := by omega
          have s3 : (x15 : Int) / 8 = ((sr x15 3 : Nat) : Int) := by unfold sr; omega
          have s10 : (x2 : Int) / 1024 = ((sr x2 10 : Nat) : Int) := by unfold sr; omega
          clear e16 e15 e7 e2 h16 h15 h7 h2 hl hp h256 hbc hb
          go_wp2_with fail
          go_quiet (fail)
          go_wp2_with fail
          refine (turn_any _ 7 _ rfl b7 _).mono ?_
          rintro _ _ ⟨rfl, rfl⟩
          go_wp2_with fail
          refine (turn_any _ 18 _ rfl b18 _).mono ?_
          rintro _ _ ⟨rfl, rfl⟩
          go_wp2_with fail
          refine (turn_any _ 17 _ rfl b17 _).mono ?_
          rintro _ _ ⟨rfl, rfl⟩
          go_wp2_with fail
          refine (turn_any _ 19 _ rfl b19 _).mono ?_
          rintro _ _ ⟨rfl, rfl⟩
          go_wp2_with fail
          go_region
          go_wp2_with fail
          refine ⟨⟨_, _, _, _, _, _, _, _, _, _, _, _, _, _, _, _, _, _, _, _, _, _, _, _, _, _, _, _, _, _, _, _, _, _, _, _, _, _, _, _, _, _, _, _, _, _, _, _, ?rel, rfl⟩, ?measure⟩
          case rel =>
            refine ⟨k + 1, by omega, by omega, by simp, (R1.drewN _).drew.setCellOther (by simp; omega) _, ⟨z, (R2.drewN _).drew.setCellOther (by simp) _, HZ.out⟩, ?_, (hK.drewNR _).drewR.setCell (by simp; omega) _⟩
            rw [HS.out]
            exact Row.push (R3.drewN _).drew (sch_length b k) (by omega) _
          case measure => simp [intOf]; omega
        · obtain rfl : k = 64 := by omega
          have hl := sch_length b 64
          rw [pad64_full _ hl] at R3
          obtain ⟨out, hout⟩ : ∃ out, sch b 64 = out := ⟨_, rfl⟩
          have HO : Hid (sch b 64 = out) := hout
          rw [hout] at hl R3
          clear hout
          clear hbc h256 hb
          go_upto_region 14 with fail
          go_wp2_with (first | refine wpList_load_row (by rfl) 75 _ (by rfl) (w.heap.size + 2) (by rfl) 75 (cw out) (0, 0) _ R3 Tryd.underlying75 rfl (by rw [cw_size, hl]; exact i40) ?_ | refine wpList_store_row (by rfl) 75 _ _ (by rfl) (w.heap.size + 1) (cw out) (by rfl) (by rfl) 75 z R2 (by rw [cw_size, hl]; exact i40) (by rw [cw_size, hl]; exact HZ.out) (cw_one _) ?_)
          refine bodyPost_ret (results_cell_row rfl _ _ (w.heap.size + 1) 75 (cw out) (0, 0) _ rfl (R2.set _) Tryd.underlying75 rfl (by rw [cw_size, hl]; exact i40)) rfl ⟨by rw [HO.out], hK.setRow (by omega) _⟩

end Go.Proofs.YtecamiefpdkjoaaDoor.Dg
