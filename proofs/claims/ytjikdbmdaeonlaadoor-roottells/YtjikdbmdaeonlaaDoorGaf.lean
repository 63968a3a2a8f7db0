/-
  What schedule tells: a word for each round. What Block tells: one step of the digest.
-/
import Derived.Test.YtjikdbmdaeonlaaDoorGae
import Derived.Deep.Cut
namespace Go.Proofs.YtjikdbmdaeonlaaDoor.Dg
open Go.RowKit
set_option maxRecDepth 20000

theorem i24 : (Tryd.prog.info? 97).map (·.size) = some 64 := by kernel_rfl
theorem i40 : (Tryd.prog.info? 69).map (·.size) = some 64 := by kernel_rfl
theorem Row.newAt {w : World} {g : Nat} (h : w.heap.size = g) (cs : Array Value) (t : TypeId) : Row (w.alloc (.cells cs t)) g cs t := by subst h; exact Row.new w cs t
/-- The words so far, and noughts behind them. -/
def pad64 (l : List Nat) : List Nat := l ++ List.replicate (64 - l.length) 0
theorem pad64_length (l : List Nat) (h : l.length ≤ 64) : (pad64 l).length = 64 := by
  unfold pad64; rw [List.length_append, List.length_replicate]; omega
theorem pad64_get (l : List Nat) (j : Nat) (h : j < l.length) : (pad64 l).getD j 0 = l.getD j 0 := by
  unfold pad64
  rw [List.getD_eq_getElem?_getD, List.getElem?_append_left h, List.getD_eq_getElem?_getD]
theorem pad64_set (l : List Nat) (x : Nat) (h : l.length < 64) : (pad64 l).set l.length x = pad64 (l ++ [x]) := by
  unfold pad64
  rw [List.set_append_right _ _ (Nat.le_refl _), Nat.sub_self, show 64 - l.length = (63 - l.length) + 1 by omega, List.replicate_succ, List.set_cons_zero, List.length_append, List.append_assoc]
  congr 2
  show List.replicate (63 - l.length) 0 = List.replicate (64 - (l.length + 1)) 0
  congr 1
  omega
theorem pad64_full (l : List Nat) (h : l.length = 64) : pad64 l = l := by
  unfold pad64; rw [h]; simp

theorem Row.push {w : World} {g k : Nat} {t : TypeId} {l : List Nat} (R : Row w g (cw (pad64 l)) t) (hk : l.length = k) (h : k < 64) (x : Nat) : Row (w.setCell ⟨g, k, none⟩ (.int .u32 (x : Int))) g (cw (pad64 (l ++ [x]))) t := by
  subst hk
  have h1 := R.setCell l.length (.int .u32 (x : Int))
  rw [cw_set, pad64_set _ _ h] at h1
  exact h1

set_option maxHeartbeats 1600000 in
theorem sched_any (b : List Nat) (hb : b.length = 64) (h256 : ∀ j, b.getD j 0 < 256) (w : World) :
    Calls Tryd.prog 86 #[.agg (cb b)] w fun e w' => e = .returned (.agg (cw (sch b 64))) ∧ Kept w w' := by
  obtain ⟨bc, hbc⟩ : ∃ bc, cb b = bc := ⟨_, rfl⟩
  rw [hbc]
  have hx := xo_u32
  have ho := ors_u32
  have hd := ad_u32
  go_enter Tryd.func86, Tryd.ntmps86
  go_wp2_with fail
  go_loopw [10] (fun i wr => ∃ k : Nat, k ≤ 16 ∧ i = .int .i64 (k : Int) ∧ Row wr w.heap.size bc 97 ∧ (∃ z, Row wr (w.heap.size + 1) z 69 ∧ z.size = 64) ∧ Row wr (w.heap.size + 2) (cw (pad64 (sch b k))) 69 ∧ Kept w wr) (fun i _ => (16 - intOf i).toNat)
  case atStart =>
    refine ⟨0, by omega, rfl, ((Row.new w _ _).alloc _).alloc _, ⟨_, (Row.newAt (by simp) _ _).alloc _, rfl⟩, Row.newAt (by simp) _ _, (((Kept.refl w).allocR _).allocR _).allocR _⟩
  case round =>
    obtain ⟨k, hk, rfl, R1, ⟨z, R2, hz⟩, R3, hK⟩ := hrel
    have HZ : Hid (z.size = 64) := hz
    clear hz
    by_cases hlt : k < 16
    · obtain ⟨b0, e0⟩ : ∃ x, b.getD (4 * k) 0 = x := ⟨_, rfl⟩
      obtain ⟨b1, e1⟩ : ∃ x, b.getD (4 * k + 1) 0 = x := ⟨_, rfl⟩
      obtain ⟨b2, e2⟩ : ∃ x, b.getD (4 * k + 2) 0 = x := ⟨_, rfl⟩
      obtain ⟨b3, e3⟩ : ∃ x, b.getD (4 * k + 3) 0 = x := ⟨_, rfl⟩
      obtain ⟨q, hq⟩ : ∃ q, 4 * k = q := ⟨_, rfl⟩
      have hw : wordB b k = ors (ors (ors (sl b0 24) (sl b1 16)) (sl b2 8)) b3 := by unfold wordB; rw [e0, e1, e2, e3]
      have HW : Hid (wordB b k = ors (ors (ors (sl b0 24) (sl b1 16)) (sl b2 8)) b3) := hw
      have g0 := h256 (4 * k)
      have g1 := h256 (4 * k + 1)
      have g2 := h256 (4 * k + 2)
      have g3 := h256 (4 * k + 3)
      rw [e0] at g0
      rw [e1] at g1
      rw [e2] at g2
      rw [e3] at g3
      have c0 : wr.cell? ⟨w.heap.size, q, none⟩ = some (.int .u8 (b0 : Int)) := by rw [R1.cell, ← hbc, cb_get _ _ (by omega), ← hq, e0]
      have c1 : wr.cell? ⟨w.heap.size, q + 1, none⟩ = some (.int .u8 (b1 : Int)) := by rw [R1.cell, ← hbc, cb_get _ _ (by omega), ← hq, e1]
      have c2 : wr.cell? ⟨w.heap.size, q + 2, none⟩ = some (.int .u8 (b2 : Int)) := by rw [R1.cell, ← hbc, cb_get _ _ (by omega), ← hq, e2]
      have c3 : wr.cell? ⟨w.heap.size, q + 3, none⟩ = some (.int .u8 (b3 : Int)) := by rw [R1.cell, ← hbc, cb_get _ _ (by omega), ← hq, e3]
      have hq0 : (4 : Int) * (k : Int) = (q : Int) := by omega
      have hq1 : q < 61 := by omega
      have hq2 : (q : Int) < 61 := by omega
      have hq3 : (0 : Int) ≤ (q : Int) := by omega
      have s0 : (b0 : Int) * 16777216 = ((sl b0 24 : Nat) : Int) := by unfold sl; omega
      have s1 : (b1 : Int) * 65536 = ((sl b1 16 : Nat) : Int) := by unfold sl; omega
      have s2 : (b2 : Int) * 256 = ((sl b2 8 : Nat) : Int) := by unfold sl; omega
      obtain ⟨o, t3⟩ : ∃ o, wr.cell? ⟨w.heap.size + 1 + 1, k, none⟩ = some o := ⟨_, (R3.cell k).trans (cw_get _ _ (by rw [pad64_length _ (by rw [sch_length]; omega)]; omega))⟩
      have f3 : wr.frozen? ⟨w.heap.size + 1 + 1, k, none⟩ = false := R3.frozen k
      have HS : Hid (sch b (k + 1) = sch b k ++ [wordB b k]) := by show sch b (k + 1) = _; rw [sch, if_pos hlt]
      clear e0 e1 e2 e3 hw h256 hbc hq hb
      go_wp2_with fail
      go_region
      go_wp2_with fail
      go_roundw
      case rel =>
        refine ⟨k + 1, by omega, by simp, (R1.drew.setCellOther (by simp; omega) _), ⟨z, R2.drew.setCellOther (by simp) _, HZ.out⟩, ?_, hK.drewR.setCell (by simp; omega) _⟩
        rw [HS.out, HW.out]
        exact Row.push R3.drew (sch_length b k) (by omega) _
      case measure => simp [intOf]; omega
    · obtain rfl : k = 16 := by omega
      clear hk hlt
      go_wp2_with fail
      go_loopw [5] (fun i wr => ∃ k : Nat, 16 ≤ k ∧ k ≤ 64 ∧ i = .int .i64 (k : Int) ∧ Row wr w.heap.size bc 97 ∧ (∃ z, Row wr (w.heap.size + 1) z 69 ∧ z.size = 64) ∧ Row wr (w.heap.size + 2) (cw (pad64 (sch b k))) 69 ∧ Kept w wr) (fun i _ => (64 - intOf i).toNat)
      case atStart => exact ⟨16, by omega, by omega, rfl, R1, ⟨z, R2, HZ.out⟩, R3, hK⟩
      case round =>
        clear R1 R2 R3 hK HZ
        rename_i wr0 _ _
        obtain ⟨k, hk0, hk, rfl, R1, ⟨z, R2, hz⟩, R3, hK⟩ := hrel
        have HZ : Hid (z.size = 64) := hz
        clear hz
        by_cases hlt : k < 64
        · have hl : (sch b k).length = k := sch_length b k
          have hp := pad64_length (sch b k) (by omega)
          obtain ⟨x16, e16⟩ : ∃ x, (sch b k).getD (k - 16) 0 = x := ⟨_, rfl⟩
          obtain ⟨x15, e15⟩ : ∃ x, (sch b k).getD (k - 15) 0 = x := ⟨_, rfl⟩
          obtain ⟨x7, e7⟩ : ∃ x, (sch b k).getD (k - 7) 0 = x := ⟨_, rfl⟩
          obtain ⟨x2, e2⟩ : ∃ x, (sch b k).getD (k - 2) 0 = x := ⟨_, rfl⟩
          have HS : Hid (sch b (k + 1) = sch b k ++ [ad (ad (ad x16 (lowS x15)) x7) (highS x2)]) := by
            show sch b (k + 1) = _
            rw [sch, if_neg (by omega)]
            unfold mixS
            rw [e16, e15, e7, e2]
          obtain ⟨m16, h16⟩ : ∃ m, k - 16 = m := ⟨_, rfl⟩
          obtain ⟨m15, h15⟩ : ∃ m, k - 15 = m := ⟨_, rfl⟩
          obtain ⟨m7, h7⟩ : ∃ m, k - 7 = m := ⟨_, rfl⟩
          obtain ⟨m2, h2⟩ : ∃ m, k - 2 = m := ⟨_, rfl⟩
          have c16 : wr.cell? ⟨w.heap.size + 1 + 1, m16, none⟩ = some (.int .u32 (x16 : Int)) := by rw [R3.cell, cw_get _ _ (by omega), pad64_get _ _ (by omega), ← h16, e16]
          have c15 : wr.cell? ⟨w.heap.size + 1 + 1, m15, none⟩ = some (.int .u32 (x15 : Int)) := by rw [R3.cell, cw_get _ _ (by omega), pad64_get _ _ (by omega), ← h15, e15]
          have c7 : wr.cell? ⟨w.heap.size + 1 + 1, m7, none⟩ = some (.int .u32 (x7 : Int)) := by rw [R3.cell, cw_get _ _ (by omega), pad64_get _ _ (by omega), ← h7, e7]
          have c2 : wr.cell? ⟨w.heap.size + 1 + 1, m2, none⟩ = some (.int .u32 (x2 : Int)) := by rw [R3.cell, cw_get _ _ (by omega), pad64_get _ _ (by omega), ← h2, e2]
          obtain ⟨o, t3⟩ : ∃ o, wr.cell? ⟨w.heap.size + 1 + 1, k, none⟩ = some o := ⟨_, (R3.cell k).trans (cw_get _ _ (by omega))⟩
          have f3 : wr.frozen? ⟨w.heap.size + 1 + 1, k, none⟩ = false := R3.frozen k
          have i16 : (k : Int) - 16 = (m16 : Int) := by omega
          have i15 : (k : Int) - 15 = (m15 : Int) := by omega
          have i7 : (k : Int) - 7 = (m7 : Int) := by omega
          have i2 : (k : Int) - 2 = (m2 : Int) := by omega
          have g16 : (m16 : Int) < 64 := by omega
          have g15 : (m15 : Int) < 64 := by omega
          have g7 : (m7 : Int) < 64 := by omega
          have g2 : (m2 : Int) < 64 := by omega
          have s3 : (x15 : Int) / 8 = ((sr x15 3 : Nat) : Int) := by unfold sr; omega
          have s10 : (x2 : Int) / 1024 = ((sr x2 10 : Nat) : Int) := by unfold sr; omega
          clear e16 e15 e7 e2 h16 h15 h7 h2 hl hp h256 hbc hb
          go_wp2_with fail
          go_quiet (fail)
          go_wp2_with fail
          refine (turn_any _ 7 _ rfl b7 _).mono ?_
          rintro _ _ ⟨rfl, rfl⟩
          go_wp2_with fail
          refine (turn_any _ 18 _ rfl b18 _).mono ?_
          rintro _ _ ⟨rfl, rfl⟩
          go_wp2_with fail
          refine (turn_any _ 17 _ rfl b17 _).mono ?_
          rintro _ _ ⟨rfl, rfl⟩
          go_wp2_with fail
          refine (turn_any _ 19 _ rfl b19 _).mono ?_
          rintro _ _ ⟨rfl, rfl⟩
          go_wp2_with fail
          go_region
          go_wp2_with fail
          refine ⟨⟨_, _, _, _, _, _, _, _, _, _, _, _, _, _, _, _, _, _, _, _, _, _, _, _, _, _, _, _, _, _, _, _, _, _, _, _, _, _, _, _, _, _, _, _, _, _, _, _, ?rel, rfl⟩, ?measure⟩
          case rel =>
            refine ⟨k + 1, by omega, by omega, by simp, (R1.drewN _).drew.setCellOther (by simp; omega) _, ⟨z, (R2.drewN _).drew.setCellOther (by simp) _, HZ.out⟩, ?_, (hK.drewNR _).drewR.setCell (by simp; omega) _⟩
            rw [HS.out]
            exact Row.push (R3.drewN _).drew (sch_length b k) (by omega) _
          case measure => simp [intOf]; omega
        · obtain rfl : k = 64 := by omega
          have hl := sch_length b 64
          rw [pad64_full _ hl] at R3
          obtain ⟨out, hout⟩ : ∃ out, sch b 64 = out := ⟨_, rfl⟩
          have HO : Hid (sch b 64 = out) := hout
          rw [hout] at hl R3
          clear hout
          clear hbc h256 hb
          go_upto_region 14 with fail
          go_wp2_with (first | refine wpList_load_row (by rfl) 69 _ (by rfl) (w.heap.size + 2) (by rfl) 69 (cw out) (0, 0) _ R3 Tryd.underlying69 rfl (by rw [cw_size, hl]; exact i40) ?_ | refine wpList_store_row (by rfl) 69 _ _ (by rfl) (w.heap.size + 1) (cw out) (by rfl) (by rfl) 69 z R2 (by rw [cw_size, hl]; exact i40) (by rw [cw_size, hl]; exact HZ.out) (cw_one _) ?_)
          refine bodyPost_ret (results_cell_row rfl _ _ (w.heap.size + 1) 69 (cw out) (0, 0) _ rfl (R2.set _) Tryd.underlying69 rfl (by rw [cw_size, hl]; exact i40)) rfl ⟨by rw [HO.out], hK.setRow (by omega) _⟩

end Go.Proofs.YtjikdbmdaeonlaaDoor.Dg
namespace Go.Proofs.YtjikdbmdaeonlaaDoor.Dg
open Go.RowKit
set_option maxRecDepth 20000

/-- The first k words of the sums, and the rest. -/
def mixL (v h : List Nat) (k : Nat) : List Nat := (List.zipWith ad v h).take k ++ v.drop k
theorem mixL_all (v h : W8) : mixL v.list h.list 8 = (addW v h).list := rfl
theorem mixL_set (v h : W8) (k : Nat) (hk : k < 8) : (mixL v.list h.list k).set k (ad (v.list.getD k 0) (h.list.getD k 0)) = mixL v.list h.list (k + 1) := by
  have h8 : k = 0 ∨ k = 1 ∨ k = 2 ∨ k = 3 ∨ k = 4 ∨ k = 5 ∨ k = 6 ∨ k = 7 := by omega
  rcases h8 with rfl | rfl | rfl | rfl | rfl | rfl | rfl | rfl <;> rfl
theorem mixL_get (v h : W8) (k : Nat) (hk : k < 8) : (mixL v.list h.list k).getD k 0 = v.list.getD k 0 := by
  have h8 : k = 0 ∨ k = 1 ∨ k = 2 ∨ k = 3 ∨ k = 4 ∨ k = 5 ∨ k = 6 ∨ k = 7 := by omega
  rcases h8 with rfl | rfl | rfl | rfl | rfl | rfl | rfl | rfl <;> rfl
theorem mixL_length (v h : W8) (k : Nat) (hk : k ≤ 8) : (mixL v.list h.list k).length = 8 := by
  have h8 : k = 0 ∨ k = 1 ∨ k = 2 ∨ k = 3 ∨ k = 4 ∨ k = 5 ∨ k = 6 ∨ k = 7 ∨ k = 8 := by omega
  rcases h8 with rfl | rfl | rfl | rfl | rfl | rfl | rfl | rfl | rfl <;> rfl
theorem list_length (v : W8) : v.list.length = 8 := rfl
theorem roundsN_length : roundsN.length = 64 := by decide +kernel

theorem round_ex (v r : W8) (word : Nat) (hr : Hid (roundR v word = r)) (w : World) :
    Calls Tryd.prog 87 #[.agg #[.int .u32 (v.a : Int), .int .u32 (v.b : Int), .int .u32 (v.c : Int), .int .u32 (v.d : Int), .int .u32 (v.e : Int), .int .u32 (v.f : Int), .int .u32 (v.g : Int), .int .u32 (v.h : Int)], .int .u32 (word : Int)] w fun e w' =>
      e = .returned (.agg #[.int .u32 (r.a : Int), .int .u32 (r.b : Int), .int .u32 (r.c : Int), .int .u32 (r.d : Int), .int .u32 (r.e : Int), .int .u32 (r.f : Int), .int .u32 (r.g : Int), .int .u32 (r.h : Int)]) ∧ Kept w w' := by
  have h := round_any v word w
  rw [hr.out] at h
  exact h

set_option maxHeartbeats 1600000 in
theorem block_any (h : W8) (b : List Nat) (hb : b.length = 64) (h256 : ∀ j, b.getD j 0 < 256) (w : World) (hT : Tab w) :
    Calls Tryd.prog 69 #[.agg (cw h.list), .agg (cb b)] w fun e w' => e = .returned (.agg (cw (blockN h b).list)) ∧ Kept w w' := by
  obtain ⟨ws, hws⟩ : ∃ ws, sch b 64 = ws := ⟨_, rfl⟩
  have hwl : ws.length = 64 := by rw [← hws, sch_length]
  have HB : Hid (blockN h b = addW (roundsR h ws roundsN 64) h) := by show blockN h b = _; unfold blockN blockK; rw [hws]
  have hsch := sched_any b hb h256
  rw [hws] at hsch
  obtain ⟨bc, hbc⟩ : ∃ bc, cb b = bc := ⟨_, rfl⟩
  rw [hbc] at hsch ⊢
  have hbs : bc.size = 64 := by rw [← hbc, cb_size, hb]
  obtain ⟨hc, hhc⟩ : ∃ hc, cw h.list = hc := ⟨_, rfl⟩
  rw [hhc]
  have hcs : hc.size = 8 := by rw [← hhc, cw_size]; rfl
  clear hbc hws h256 hb
  have hd := ad_u32
  go_enter Tryd.func69, Tryd.ntmps69
  go_upto_region 1 with fail
  obtain ⟨W, hW, R0, R1, ⟨z, R2, hz⟩, hK⟩ : ∃ W, W = ((w.alloc (.cells hc 67)).alloc (.cells bc 97)).alloc (.cells #[.int .u32 0, .int .u32 0, .int .u32 0, .int .u32 0, .int .u32 0, .int .u32 0, .int .u32 0, .int .u32 0] 67) ∧ Row W w.heap.size hc 67 ∧ Row W (w.heap.size + 1) bc 97 ∧ (∃ z, Row W (w.heap.size + 2) z 67 ∧ z.size = 8) ∧ Kept w W :=
    ⟨_, rfl, ((Row.new w _ _).alloc _).alloc _, (Row.newAt (by simp) _ _).alloc _, ⟨_, Row.newAt (by simp) _ _, rfl⟩, (((Kept.refl w).allocR _).allocR _).allocR _⟩
  rw [← hW]
  clear hW
  have HZ : Hid (z.size = 8) := hz
  have HSC := hsch W
  clear hz hsch
  go_wp2_with (refine wpList_load_row (by rfl) 97 _ (by rfl) (w.heap.size + 1) (by rfl) 97 bc (0, 0) _ R1 Tryd.underlying97 rfl (by rw [hbs]; exact i24) ?_)
  refine HSC.mono ?_
  rintro _ w1 ⟨rfl, k1⟩
  clear HSC
  go_upto_region 2 with (refine wpList_store_row (by rfl) 69 _ _ (by rfl) w1.heap.size (cw ws) (by rfl) (by rfl) 69 _ (heap_alloc_new _ _) (by rw [cw_size, hwl]; exact i40) (by rw [cw_size, hwl]; rfl) (cw_one _) ?_)
  obtain ⟨Z, hZ⟩ : ∃ Z : Array Value, Z = #[.int .u32 0, .int .u32 0, .int .u32 0, .int .u32 0, .int .u32 0, .int .u32 0, .int .u32 0, .int .u32 0, .int .u32 0, .int .u32 0, .int .u32 0, .int .u32 0, .int .u32 0, .int .u32 0, .int .u32 0, .int .u32 0, .int .u32 0, .int .u32 0, .int .u32 0, .int .u32 0, .int .u32 0, .int .u32 0, .int .u32 0, .int .u32 0, .int .u32 0, .int .u32 0, .int .u32 0, .int .u32 0, .int .u32 0, .int .u32 0, .int .u32 0, .int .u32 0, .int .u32 0, .int .u32 0, .int .u32 0, .int .u32 0, .int .u32 0, .int .u32 0, .int .u32 0, .int .u32 0, .int .u32 0, .int .u32 0, .int .u32 0, .int .u32 0, .int .u32 0, .int .u32 0, .int .u32 0, .int .u32 0, .int .u32 0, .int .u32 0, .int .u32 0, .int .u32 0, .int .u32 0, .int .u32 0, .int .u32 0, .int .u32 0, .int .u32 0, .int .u32 0, .int .u32 0, .int .u32 0, .int .u32 0, .int .u32 0, .int .u32 0, .int .u32 0] := ⟨_, rfl⟩
  rw [← hZ]
  obtain ⟨W2, hW2, S0, S1, S2, S3, hK2⟩ : ∃ W2, W2 = (w1.alloc (.cells Z 69)).setRow w1.heap.size (cw ws) ∧ Row W2 w.heap.size hc 67 ∧ Row W2 (w.heap.size + 1) bc 97 ∧ Row W2 (w.heap.size + 2) z 67 ∧ Row W2 w1.heap.size (cw ws) 69 ∧ Kept w W2 := by
    have l0 := R0.kept k1
    have l1 := R1.kept k1
    have l2 := R2.kept k1
    exact ⟨_, rfl, (l0.alloc _).setOther (Nat.ne_of_lt l0.lt) _, (l1.alloc _).setOther (Nat.ne_of_lt l1.lt) _, (l2.alloc _).setOther (Nat.ne_of_lt l2.lt) _, (Row.new w1 Z 69).set _, ((hK.trans k1).allocR _).setRow ((hK.trans k1).size) _⟩
  have hs2 : W2.heap.size = w1.heap.size + 1 := by rw [hW2]; simp
  rw [← hW2]
  have hg1 : w.heap.size + 3 ≤ w1.heap.size := by have := (R2.kept k1).lt; omega
  clear hW2 hZ Z R0 R1 R2 k1 hK
  obtain ⟨G, hG⟩ : ∃ G, G = w1.heap.size := ⟨_, rfl⟩
  rw [← hG] at S3 hs2 hg1 ⊢
  clear hG w1 W
  have HN : Hid (∀ o : Obj, (W2.alloc o).heap[G + 1]? = some o) := fun o => by rw [← hs2]; exact heap_alloc_new _ _
  go_upto_region 3 with (first | refine wpList_load_row (by rfl) 67 _ (by rfl) w.heap.size (by rfl) 67 hc (0, 0) _ S0 Tryd.underlying67 rfl (by rw [hcs]; exact i23) ?_ | refine wpList_store_row (by rfl) 67 _ _ (by rfl) (G + 1) hc (by rfl) (by rfl) 67 _ (HN.out _) (by rw [hcs]; exact i23) (by rw [hcs]; rfl) (by rw [← hhc]; exact cw_one _) ?_)
  obtain ⟨W3, hW3, R0, R2, R5, R6, hK3⟩ : ∃ W3, W3 = (W2.alloc (.cells #[.int .u32 0, .int .u32 0, .int .u32 0, .int .u32 0, .int .u32 0, .int .u32 0, .int .u32 0, .int .u32 0] 67)).setRow (G + 1) hc ∧ Row W3 w.heap.size hc 67 ∧ Row W3 (w.heap.size + 2) z 67 ∧ Row W3 G (cw ws) 69 ∧ Row W3 (G + 1) hc 67 ∧ Kept w W3 :=
    ⟨_, rfl, (S0.alloc _).setOther (by omega) _, (S2.alloc _).setOther (by omega) _, (S3.alloc _).setOther (by omega) _, Row.set (HN.out _) _, (hK2.allocR _).setRow (by omega) _⟩
  rw [← hW3]
  clear hW3 S0 S1 S2 S3 hK2 HN hs2 W2
  rw [← hhc] at R6
  go_wp2_with fail
  go_loopw [12] (fun i wr => ∃ k : Nat, k ≤ 64 ∧ i = .int .i64 (k : Int) ∧ Row wr w.heap.size hc 67 ∧ Row wr (w.heap.size + 2) z 67 ∧ Row wr G (cw ws) 69 ∧ Row wr (G + 1) (cw (roundsR h ws roundsN k).list) 67 ∧ Kept w wr) (fun i _ => (64 - intOf i).toNat)
  case atStart => exact ⟨0, by omega, rfl, R0, R2, R5, R6, hK3⟩
  case round =>
    clear R0 R2 R5 R6 hK3
    obtain ⟨k, hk, rfl, R0, R2, R5, R6, hK3⟩ := hrel
    by_cases hlt : k < 64
    · obtain ⟨v, hv⟩ : ∃ v, roundsR h ws roundsN k = v := ⟨_, rfl⟩
      obtain ⟨kk, hkk⟩ : ∃ x, roundsN.getD k 0 = x := ⟨_, rfl⟩
      obtain ⟨ww, hww⟩ : ∃ x, ws.getD k 0 = x := ⟨_, rfl⟩
      have HV : Hid (roundsR h ws roundsN (k + 1) = roundR v (ad kk ww)) := by show roundsR _ _ _ (k + 1) = _; rw [roundsR, hv, hkk, hww]
      rw [hv] at R6
      have hTw := hT.kept hK3
      have ck : wr.cell? ⟨1, k, none⟩ = some (.int .u32 (kk : Int)) := by rw [hTw.2.cell, cw_get _ _ (by rw [roundsN_length]; omega), hkk]
      have cws : wr.cell? ⟨G, k, none⟩ = some (.int .u32 (ww : Int)) := by rw [R5.cell, cw_get _ _ (by omega), hww]
      clear hv hkk hww hT
      obtain ⟨r, hr⟩ : ∃ r, roundR v (ad kk ww) = r := ⟨_, rfl⟩
      have HR : Hid (roundR v (ad kk ww) = r) := hr
      rw [hr] at HV
      have hcall := round_ex v r (ad kk ww) HR
      clear hr
      have ckp : ∀ q : KeptW wr, q.v.cell? ⟨1, k, none⟩ = some (.int .u32 (kk : Int)) := fun q => (q.h.cell hTw.2.lt).trans ck
      have cwp : ∀ q : KeptW wr, q.v.cell? ⟨G, k, none⟩ = some (.int .u32 (ww : Int)) := fun q => (q.h.cell R5.lt).trans cws
      have c0 : ∀ q : KeptW wr, q.v.cell? ⟨G + 1, 0, none⟩ = some (.int .u32 (v.a : Int)) := fun q => (q.h.cell R6.lt).trans (R6.cell 0)
      have c1 : ∀ q : KeptW wr, q.v.cell? ⟨G + 1, 1, none⟩ = some (.int .u32 (v.b : Int)) := fun q => (q.h.cell R6.lt).trans (R6.cell 1)
      have c2 : ∀ q : KeptW wr, q.v.cell? ⟨G + 1, 2, none⟩ = some (.int .u32 (v.c : Int)) := fun q => (q.h.cell R6.lt).trans (R6.cell 2)
      have c3 : ∀ q : KeptW wr, q.v.cell? ⟨G + 1, 3, none⟩ = some (.int .u32 (v.d : Int)) := fun q => (q.h.cell R6.lt).trans (R6.cell 3)
      have c4 : ∀ q : KeptW wr, q.v.cell? ⟨G + 1, 4, none⟩ = some (.int .u32 (v.e : Int)) := fun q => (q.h.cell R6.lt).trans (R6.cell 4)
      have c5 : ∀ q : KeptW wr, q.v.cell? ⟨G + 1, 5, none⟩ = some (.int .u32 (v.f : Int)) := fun q => (q.h.cell R6.lt).trans (R6.cell 5)
      have c6 : ∀ q : KeptW wr, q.v.cell? ⟨G + 1, 6, none⟩ = some (.int .u32 (v.g : Int)) := fun q => (q.h.cell R6.lt).trans (R6.cell 6)
      have c7 : ∀ q : KeptW wr, q.v.cell? ⟨G + 1, 7, none⟩ = some (.int .u32 (v.h : Int)) := fun q => (q.h.cell R6.lt).trans (R6.cell 7)
      have hk0 : (0 : Int) ≤ (k : Int) := by omega
      have hk1 : (k : Int) < 64 := by omega
      have hne : Nonempty (KeptW wr) := ⟨⟨wr, Kept.refl wr⟩⟩
      clear ck cws
      go_wp2_with fail
      refine region_part 9 wr (Kept.refl wr) (by kernel_rfl) (by kernel_rfl) (by rfl) ?_
      simp only [List.take_succ_cons, List.take_zero, List.drop_succ_cons, List.drop_zero]
      repeat (go_big_quiet_step (first | (go_at_call 87; exact Calls.keptw (hcall _))))
      refine wpQuiet_nil ?_
      rintro _ ⟨⟨w2, hk2⟩, rfl⟩
      have R6x := R6.kept hk2
      go_wp2_with (refine wpList_store_row (by rfl) 67 _ _ (by rfl) (G + 1) (cw r.list) (by rfl) (by rfl) 67 (cw v.list) R6x (by rw [cw_size]; exact i23) (by rw [cw_size, cw_size]; rfl) (cw_one _) ?_)
      go_roundw
      case rel =>
        refine ⟨k + 1, by omega, by simp, (R0.kept hk2).setOther (by omega) _, (R2.kept hk2).setOther (by omega) _, (R5.kept hk2).setOther (by omega) _, ?_, (hK3.trans hk2).setRow (by omega) _⟩
        rw [HV.out]
        exact R6x.set _
      case measure => simp [intOf]; omega
    · obtain rfl : k = 64 := by omega
      obtain ⟨v, hv⟩ : ∃ v, roundsR h ws roundsN 64 = v := ⟨_, rfl⟩
      rw [hv] at R6
      have HB2 : Hid (blockN h b = addW v h) := by show blockN h b = _; rw [HB.out, hv]
      clear hv HB hT hk hlt
      go_wp2_with fail
      go_loopw [25] (fun i wr => ∃ k : Nat, k ≤ 8 ∧ i = .int .i64 (k : Int) ∧ Row wr w.heap.size hc 67 ∧ Row wr (w.heap.size + 2) z 67 ∧ Row wr (G + 1) (cw (mixL v.list h.list k)) 67 ∧ Kept w wr) (fun i _ => (8 - intOf i).toNat)
      case atStart => exact ⟨0, by omega, rfl, R0, R2, R6, hK3⟩
      case round =>
        clear R0 R2 R5 R6 hK3
        obtain ⟨k, hk, rfl, R0, R2, R6, hK3⟩ := hrel
        by_cases hlt : k < 8
        · obtain ⟨x, hx⟩ : ∃ x, v.list.getD k 0 = x := ⟨_, rfl⟩
          obtain ⟨y, hy⟩ : ∃ x, h.list.getD k 0 = x := ⟨_, rfl⟩
          have c0 : wr.cell? ⟨G + 1, k, none⟩ = some (.int .u32 (x : Int)) := by rw [R6.cell, cw_get _ _ (by rw [mixL_length _ _ _ hk]; omega), mixL_get _ _ _ hlt, hx]
          have c1 : wr.cell? ⟨w.heap.size, k, none⟩ = some (.int .u32 (y : Int)) := by rw [R0.cell, ← hhc, cw_get _ _ (by rw [list_length]; omega), hy]
          have f0 : wr.frozen? ⟨G + 1, k, none⟩ = false := R6.frozen k
          have HM : Hid ((mixL v.list h.list k).set k (ad x y) = mixL v.list h.list (k + 1)) := by show _ = _; rw [← hx, ← hy]; exact mixL_set v h k hlt
          clear hx hy hhc
          go_wp2_with fail
          go_region
          go_wp2_with fail
          go_roundw
          case rel =>
            refine ⟨k + 1, by omega, by simp, R0.drew.setCellOther (by simp; omega) _, R2.drew.setCellOther (by simp; omega) _, ?_, hK3.drewR.setCell (by simp; omega) _⟩
            have h1 := R6.drew.setCell k (.int .u32 ((ad x y : Nat) : Int))
            rw [cw_set, HM.out] at h1
            exact h1
          case measure => simp [intOf]; omega
        · obtain rfl : k = 8 := by omega
          rw [mixL_all] at R6
          go_upto_region 13 with fail
          go_wp2_with (first | refine wpList_load_row (by rfl) 67 _ (by rfl) (G + 1) (by rfl) 67 (cw (addW v h).list) (0, 0) _ R6 Tryd.underlying67 rfl (by rw [cw_size]; exact i23) ?_ | refine wpList_store_row (by rfl) 67 _ _ (by rfl) (w.heap.size + 2) (cw (addW v h).list) (by rfl) (by rfl) 67 z R2 (by rw [cw_size]; exact i23) (by rw [cw_size]; exact HZ.out) (cw_one _) ?_)
          exact bodyPost_ret (results_cell_row rfl _ _ (w.heap.size + 2) 67 (cw (addW v h).list) (0, 0) _ rfl (R2.set _) Tryd.underlying67 rfl (by rw [cw_size]; exact i23)) rfl ⟨by rw [HB2.out], hK3.setRow (by omega) _⟩

end Go.Proofs.YtjikdbmdaeonlaaDoor.Dg
