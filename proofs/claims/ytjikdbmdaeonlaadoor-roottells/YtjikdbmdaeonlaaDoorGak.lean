/-
  What the document's Step tells: one block, with given constants. What the document's Block tells: the same as Block. What the document's With and Of tell: the same as Of.
-/
import Derived.Test.YtjikdbmdaeonlaaDoorGaj
import Derived.Deep.RegionWith
namespace Go.Proofs.YtjikdbmdaeonlaaDoor.Dg
open Go.RowKit
set_option maxRecDepth 20000

/-- A round, as the document reckons it. -/
def roundK (v : W8) (kk ww : Nat) : W8 := ⟨ad (ad (ad (ad (ad v.h (bigE v.e)) (choS v.e v.f v.g)) kk) ww) (yR v), v.a, v.b, v.c, ad v.d (ad (ad (ad (ad v.h (bigE v.e)) (choS v.e v.f v.g)) kk) ww), v.e, v.f, v.g⟩
theorem roundK_eq (v : W8) (kk ww : Nat) : roundK v kk ww = roundR v (ad kk ww) := by
  unfold roundK roundR xR
  rw [ad_assoc _ kk ww]
theorem addW_comm (v h : W8) : addW v h = addW h v := by
  unfold addW
  rw [ad_comm v.a, ad_comm v.b, ad_comm v.c, ad_comm v.d, ad_comm v.e, ad_comm v.f, ad_comm v.g, ad_comm v.h]

/-- Eight words laid over a row. -/
def over8 (w1 : World) (g : Nat) (a b c d e f g' p : Nat) : World := ((((((((((((((((w1).setCell ⟨g, 0, none⟩ (.int .u32 (a : Int)))).setCell ⟨g, 1, none⟩ (.int .u32 (b : Int)))).setCell ⟨g, 2, none⟩ (.int .u32 (c : Int)))).setCell ⟨g, 3, none⟩ (.int .u32 (d : Int)))).setCell ⟨g, 4, none⟩ (.int .u32 (e : Int)))).setCell ⟨g, 5, none⟩ (.int .u32 (f : Int)))).setCell ⟨g, 6, none⟩ (.int .u32 (g' : Int)))).setCell ⟨g, 7, none⟩ (.int .u32 (p : Int)))
theorem row_over8 {w1 : World} {g : Nat} {l : List Nat} (hl : l.length = 8) (R : Row w1 g (cw l) 67) (a b c d e f g' p : Nat) : Row (over8 w1 g a b c d e f g' p) g (cw [a, b, c, d, e, f, g', p]) 67 := by
  have h := (((((((R.setW 0 a).setW 1 b).setW 2 c).setW 3 d).setW 4 e).setW 5 f).setW 6 g').setW 7 p
  match l, hl with
  | [x0, x1, x2, x3, x4, x5, x6, x7], _ =>
    simp only [List.set_cons_zero, List.set_cons_succ] at h
    exact h
theorem other_over8 {w1 : World} {g k : Nat} {cs : Array Value} {t : TypeId} (R : Row w1 k cs t) (hk : k ≠ g) (a b c d e f g' p : Nat) : Row (over8 w1 g a b c d e f g' p) k cs t :=
  (((((((R.setCellOther hk _).setCellOther hk _).setCellOther hk _).setCellOther hk _).setCellOther hk _).setCellOther hk _).setCellOther hk _).setCellOther hk _
theorem kept_over8 {w w1 : World} {g : Nat} (k : Kept w w1) (h : w.heap.size ≤ g) (a b c d e f g' p : Nat) : Kept w (over8 w1 g a b c d e f g' p) :=
  (((((((k.setCell h _).setCell h _).setCell h _).setCell h _).setCell h _).setCell h _).setCell h _).setCell h _

set_option maxRecDepth 10000 in
set_option maxHeartbeats 4000000 in
theorem refStep_any (h : W8) (b : List Nat) (kl : List Nat) (hb : b.length = 64) (h256 : ∀ j, b.getD j 0 < 256) (hkl : kl.length = 64) (w : World) :
    Calls Tryd.prog 58 #[.agg (cw h.list), .agg (cb b), .agg (cw kl)] w fun e w' => e = .returned (.agg (cw (blockK kl h b).list)) ∧ Kept w w' := by
  obtain ⟨bc, hbc⟩ : ∃ bc, cb b = bc := ⟨_, rfl⟩
  obtain ⟨hc, hhc⟩ : ∃ hc, cw h.list = hc := ⟨_, rfl⟩
  obtain ⟨kc, hkc⟩ : ∃ kc, cw kl = kc := ⟨_, rfl⟩
  rw [hbc, hhc, hkc]
  have hx := xo_u32
  have ha := an_u32
  have hn := no_u32
  have hd := ad_u32
  have ho := ors_u32
  go_enter Tryd.func58, Tryd.ntmps58
  go_upto_region 2 with fail
  obtain ⟨Z, hZ⟩ : ∃ Z : Array Value, Z = cw (pad64 (sch b 0)) := ⟨_, rfl⟩
  obtain ⟨W, hW, R3, R4, R5, ⟨z, R6, hz⟩, R7, hK⟩ : ∃ W, W = ((((w.alloc (.cells hc 67)).alloc (.cells bc 97)).alloc (.cells kc 69)).alloc (.cells #[.int .u32 0, .int .u32 0, .int .u32 0, .int .u32 0, .int .u32 0, .int .u32 0, .int .u32 0, .int .u32 0] 67)).alloc (.cells Z 69) ∧
      Row W w.heap.size hc 67 ∧ Row W (w.heap.size + 1) bc 97 ∧ Row W (w.heap.size + 1 + 1) kc 69 ∧ (∃ z, Row W (w.heap.size + 1 + 1 + 1) z 67 ∧ z.size = 8) ∧ Row W (w.heap.size + 1 + 1 + 1 + 1) Z 69 ∧ Kept w W :=
    ⟨_, rfl, ((((Row.new w _ _).alloc _).alloc _).alloc _).alloc _, (((Row.newAt (by simp) _ _).alloc _).alloc _).alloc _, ((Row.newAt (by simp) _ _).alloc _).alloc _, ⟨_, (Row.newAt (by simp) _ _).alloc _, rfl⟩, Row.newAt (by simp) _ _, (((((Kept.refl w).allocR _).allocR _).allocR _).allocR _).allocR _⟩
  rw [show (#[.int .u32 0, .int .u32 0, .int .u32 0, .int .u32 0, .int .u32 0, .int .u32 0, .int .u32 0, .int .u32 0, .int .u32 0, .int .u32 0, .int .u32 0, .int .u32 0, .int .u32 0, .int .u32 0, .int .u32 0, .int .u32 0, .int .u32 0, .int .u32 0, .int .u32 0, .int .u32 0, .int .u32 0, .int .u32 0, .int .u32 0, .int .u32 0, .int .u32 0, .int .u32 0, .int .u32 0, .int .u32 0, .int .u32 0, .int .u32 0, .int .u32 0, .int .u32 0, .int .u32 0, .int .u32 0, .int .u32 0, .int .u32 0, .int .u32 0, .int .u32 0, .int .u32 0, .int .u32 0, .int .u32 0, .int .u32 0, .int .u32 0, .int .u32 0, .int .u32 0, .int .u32 0, .int .u32 0, .int .u32 0, .int .u32 0, .int .u32 0, .int .u32 0, .int .u32 0, .int .u32 0, .int .u32 0, .int .u32 0, .int .u32 0, .int .u32 0, .int .u32 0, .int .u32 0, .int .u32 0, .int .u32 0, .int .u32 0, .int .u32 0, .int .u32 0] : Array Value) = Z by rw [hZ]; rfl, ← hW]
  rw [hZ] at R7
  have HZ : Hid (z.size = 8) := hz
  clear hW hz hZ Z
  have l4 : w.heap.size < w.heap.size + 1 := by omega
  have l5 : w.heap.size + 1 < w.heap.size + 1 + 1 := by omega
  have l6 : w.heap.size + 1 + 1 < w.heap.size + 1 + 1 + 1 := by omega
  have l7 : w.heap.size + 1 + 1 + 1 < w.heap.size + 1 + 1 + 1 + 1 := by omega
  generalize w.heap.size + 1 + 1 + 1 + 1 = G7 at R7 l7 ⊢
  generalize w.heap.size + 1 + 1 + 1 = G6 at R6 l6 l7 ⊢
  generalize w.heap.size + 1 + 1 = G5 at R5 l5 l6 ⊢
  generalize w.heap.size + 1 = G4 at R4 l4 l5 ⊢
  generalize hG : w.heap.size = G3 at R3 l4 ⊢
  have HG : Hid (w.heap.size = G3) := hG
  clear hG
  go_wp2_with fail
  go_loopw [8] (fun i wr => ∃ k : Nat, k ≤ 64 ∧ i = .int .i64 (k : Int) ∧ Row wr G3 hc 67 ∧ Row wr G4 bc 97 ∧ Row wr G5 kc 69 ∧ Row wr G6 z 67 ∧ Row wr G7 (cw (pad64 (sch b k))) 69 ∧ Kept w wr) (fun i _ => (64 - intOf i).toNat)
  case atStart => exact ⟨0, by omega, rfl, R3, R4, R5, R6, R7, hK⟩
  case round =>
    clear R3 R4 R5 R6 R7 hK
    obtain ⟨k, hk, rfl, R3, R4, R5, R6, R7, hK⟩ := hrel
    have hne : Nonempty (KeptW wr) := ⟨⟨wr, Kept.refl wr⟩⟩
    by_cases hlt : k < 64
    · have hl : (sch b k).length = k := sch_length b k
      have hp := pad64_length (sch b k) (by omega)
      by_cases h16 : k < 16
      · obtain ⟨b0, e0⟩ : ∃ x, b.getD (4 * k) 0 = x := ⟨_, rfl⟩
        obtain ⟨b1, e1⟩ : ∃ x, b.getD (4 * k + 1) 0 = x := ⟨_, rfl⟩
        obtain ⟨b2, e2⟩ : ∃ x, b.getD (4 * k + 2) 0 = x := ⟨_, rfl⟩
        obtain ⟨b3, e3⟩ : ∃ x, b.getD (4 * k + 3) 0 = x := ⟨_, rfl⟩
        obtain ⟨q, hq⟩ : ∃ q, 4 * k = q := ⟨_, rfl⟩
        have HS : Hid (sch b (k + 1) = sch b k ++ [ors (ors (ors (sl b0 24) (sl b1 16)) (sl b2 8)) b3]) := by
          show sch b (k + 1) = _
          rw [sch, if_pos h16]
          unfold wordB
          rw [e0, e1, e2, e3]
        have g0 := h256 (4 * k)
        have g1 := h256 (4 * k + 1)
        have g2 := h256 (4 * k + 2)
        have g3 := h256 (4 * k + 3)
        rw [e0] at g0
        rw [e1] at g1
        rw [e2] at g2
        rw [e3] at g3
        have c0 : ∀ p : KeptW wr, p.v.cell? ⟨G4, q, none⟩ = some (.int .u8 (b0 : Int)) := fun p => by rw [p.h.cell R4.lt, R4.cell, ← hbc, cb_get _ _ (by omega), ← hq, e0]
        have c1 : ∀ p : KeptW wr, p.v.cell? ⟨G4, q + 1, none⟩ = some (.int .u8 (b1 : Int)) := fun p => by rw [p.h.cell R4.lt, R4.cell, ← hbc, cb_get _ _ (by omega), ← hq, e1]
        have c2 : ∀ p : KeptW wr, p.v.cell? ⟨G4, q + 2, none⟩ = some (.int .u8 (b2 : Int)) := fun p => by rw [p.h.cell R4.lt, R4.cell, ← hbc, cb_get _ _ (by omega), ← hq, e2]
        have c3 : ∀ p : KeptW wr, p.v.cell? ⟨G4, q + 3, none⟩ = some (.int .u8 (b3 : Int)) := fun p => by rw [p.h.cell R4.lt, R4.cell, ← hbc, cb_get _ _ (by omega), ← hq, e3]
        have hq0 : (4 : Int) * (k : Int) = (q : Int) := by omega
        have hq1 : q < 61 := by omega
        have hq2 : (q : Int) < 61 := by omega
        have hq3 : (0 : Int) ≤ (q : Int) := by omega
        have hk1 : (k : Int) < 64 := by omega
        have s0 : (b0 : Int) * 16777216 = ((sl b0 24 : Nat) : Int) := by unfold sl; omega
        have s1 : (b1 : Int) * 65536 = ((sl b1 16 : Nat) : Int) := by unfold sl; omega
        have s2 : (b2 : Int) * 256 = ((sl b2 8 : Nat) : Int) := by unfold sl; omega
        clear e0 e1 e2 e3 hq h256 hbc hb hl
        go_wp2_with fail
        refine region_part 31 wr (Kept.refl wr) (by kernel_rfl) (by kernel_rfl) (by rfl) ?_
        simp only [List.take_succ_cons, List.take_zero, List.drop_succ_cons, List.drop_zero]
        repeat (go_big_quiet_step (fail))
        refine wpQuiet_nil ?_
        rintro w2 ⟨⟨_, hk2⟩, rfl⟩
        have S7 := R7.kept hk2
        obtain ⟨o, t3⟩ : ∃ o, w2.cell? ⟨G7, k, none⟩ = some o := ⟨_, (S7.cell k).trans (cw_get _ _ (by omega))⟩
        have f3 : w2.frozen? ⟨G7, k, none⟩ = false := S7.frozen k
        go_wp2_with fail
        have hgw := HG.out
        refine ⟨⟨k + 1, by omega, by simp, (R3.kept hk2).setCellOther (by simp; omega) _, (R4.kept hk2).setCellOther (by simp; omega) _, (R5.kept hk2).setCellOther (by simp; omega) _, (R6.kept hk2).setCellOther (by simp; omega) _, ?_, (hK.trans hk2).setCell (by simp; omega) _⟩, by simp [intOf]; omega⟩
        rw [HS.out]
        exact Row.push S7 (sch_length b k) (by omega) _
      · obtain ⟨x16, e16⟩ : ∃ x, (sch b k).getD (k - 16) 0 = x := ⟨_, rfl⟩
        obtain ⟨x15, e15⟩ : ∃ x, (sch b k).getD (k - 15) 0 = x := ⟨_, rfl⟩
        obtain ⟨x7, e7⟩ : ∃ x, (sch b k).getD (k - 7) 0 = x := ⟨_, rfl⟩
        obtain ⟨x2, e2⟩ : ∃ x, (sch b k).getD (k - 2) 0 = x := ⟨_, rfl⟩
        have HS : Hid (sch b (k + 1) = sch b k ++ [ad (ad (ad x16 (lowS x15)) x7) (highS x2)]) := by
          show sch b (k + 1) = _
          rw [sch, if_neg h16]
          unfold mixS
          rw [e16, e15, e7, e2]
        obtain ⟨m16, h16'⟩ : ∃ m, k - 16 = m := ⟨_, rfl⟩
        obtain ⟨m15, h15⟩ : ∃ m, k - 15 = m := ⟨_, rfl⟩
        obtain ⟨m7, h7⟩ : ∃ m, k - 7 = m := ⟨_, rfl⟩
        obtain ⟨m2, h2⟩ : ∃ m, k - 2 = m := ⟨_, rfl⟩
        have c16 : ∀ p : KeptW wr, p.v.cell? ⟨G7, m16, none⟩ = some (.int .u32 (x16 : Int)) := fun p => by rw [p.h.cell R7.lt, R7.cell, cw_get _ _ (by omega), pad64_get _ _ (by omega), ← h16', e16]
        have c15 : ∀ p : KeptW wr, p.v.cell? ⟨G7, m15, none⟩ = some (.int .u32 (x15 : Int)) := fun p => by rw [p.h.cell R7.lt, R7.cell, cw_get _ _ (by omega), pad64_get _ _ (by omega), ← h15, e15]
        have c7 : ∀ p : KeptW wr, p.v.cell? ⟨G7, m7, none⟩ = some (.int .u32 (x7 : Int)) := fun p => by rw [p.h.cell R7.lt, R7.cell, cw_get _ _ (by omega), pad64_get _ _ (by omega), ← h7, e7]
        have c2 : ∀ p : KeptW wr, p.v.cell? ⟨G7, m2, none⟩ = some (.int .u32 (x2 : Int)) := fun p => by rw [p.h.cell R7.lt, R7.cell, cw_get _ _ (by omega), pad64_get _ _ (by omega), ← h2, e2]
        have i16 : (k : Int) - 16 = (m16 : Int) := by omega
        have i15 : (k : Int) - 15 = (m15 : Int) := by omega
        have i7 : (k : Int) - 7 = (m7 : Int) := by omega
        have i2 : (k : Int) - 2 = (m2 : Int) := by omega
        have g16 : (m16 : Int) < 64 := by omega
        have g15 : (m15 : Int) < 64 := by omega
        have g7 : (m7 : Int) < 64 := by omega
        have g2 : (m2 : Int) < 64 := by omega
        have hk1 : (k : Int) < 64 := by omega
        have s3 : (x15 : Int) / 8 = ((sr x15 3 : Nat) : Int) := by unfold sr; omega
        have s10 : (x2 : Int) / 1024 = ((sr x2 10 : Nat) : Int) := by unfold sr; omega
        obtain ⟨lo, hlo⟩ : ∃ x, lowS x15 = x := ⟨_, rfl⟩
        obtain ⟨hh, hhh⟩ : ∃ x, highS x2 = x := ⟨_, rfl⟩
        obtain ⟨A0, hA0⟩ : ∃ x, ad x16 lo = x := ⟨_, rfl⟩
        obtain ⟨A1, hA1⟩ : ∃ x, ad A0 x7 = x := ⟨_, rfl⟩
        obtain ⟨A2, hA2⟩ : ∃ x, ad A1 hh = x := ⟨_, rfl⟩
        have hsum : ((A0 : Int) + (x7 : Int) + (hh : Int)) % 4294967296 = (A2 : Int) := by rw [← hA2, ← hA1]; unfold ad; omega
        rw [hlo, hhh, hA0, hA1, hA2] at HS
        unfold lowS at hlo
        unfold highS at hhh
        clear e16 e15 e7 e2 h16' h15 h7 h2 hl h256 hbc hb
        go_wp2_with fail
        refine region_kept wr (Kept.refl wr) (by kernel_rfl) (by kernel_rfl) ?_
        repeat (go_big_quiet_step (fail))
        refine wpQuiet_nil ?_
        rintro w2 ⟨⟨_, hk2⟩, rfl⟩
        go_wp2_with fail
        refine region_part 29 wr hk2 (by kernel_rfl) (by kernel_rfl) (by rfl) ?_
        simp only [List.take_succ_cons, List.take_zero, List.drop_succ_cons, List.drop_zero]
        repeat (go_big_quiet_step (first | (go_at_call_of 77 (Value.int .u64 7); exact Calls.keptw_same (refTurn_any _ 7 _ rfl b7 _)) | (go_at_call_of 77 (Value.int .u64 18); exact Calls.keptw_same (refTurn_any _ 18 _ rfl b18 _)) | (go_at_call_of 77 (Value.int .u64 17); exact Calls.keptw_same (refTurn_any _ 17 _ rfl b17 _)) | (go_at_call_of 77 (Value.int .u64 19); exact Calls.keptw_same (refTurn_any _ 19 _ rfl b19 _))))
        refine wpQuiet_nil ?_
        rintro w3 ⟨⟨_, hk3⟩, rfl⟩
        have S7 := R7.kept hk3
        obtain ⟨o, t3⟩ : ∃ o, w3.cell? ⟨G7, k, none⟩ = some o := ⟨_, (S7.cell k).trans (cw_get _ _ (by omega))⟩
        have f3 : w3.frozen? ⟨G7, k, none⟩ = false := S7.frozen k
        go_wp2_with fail
        have hgw := HG.out
        refine ⟨⟨k + 1, by omega, by simp, (R3.kept hk3).setCellOther (by simp; omega) _, (R4.kept hk3).setCellOther (by simp; omega) _, (R5.kept hk3).setCellOther (by simp; omega) _, (R6.kept hk3).setCellOther (by simp; omega) _, ?_, (hK.trans hk3).setCell (by simp; omega) _⟩, by simp [intOf]; omega⟩
        rw [HS.out]
        exact Row.push S7 (sch_length b k) (by omega) _
    · obtain rfl : k = 64 := by omega
      rw [pad64_full _ (sch_length b 64)] at R7
      obtain ⟨ws, hws⟩ : ∃ ws, sch b 64 = ws := ⟨_, rfl⟩
      have hwl : ws.length = 64 := by rw [← hws, sch_length]
      have HB : Hid (blockK kl h b = addW (roundsR h ws kl 64) h) := by show blockK kl h b = _; unfold blockK; rw [hws]
      rw [hws] at R7
      have hcs : hc.size = 8 := by rw [← hhc, cw_size]; rfl
      clear hws hbc h256 hb hk hlt
      go_upto_region 9 with fail
      go_upto_region 10 with (first | refine wpList_load_row (by rfl) 67 _ (by rfl) G3 (by rfl) 67 hc (0, 0) _ R3 Tryd.underlying67 rfl (by rw [hcs]; exact i23) ?_ | refine wpList_store_row (by rfl) 67 _ _ (by rfl) wr.heap.size hc (by rfl) (by rfl) 67 _ (heap_alloc_new _ _) (by rw [hcs]; exact i23) (by rw [hcs]; rfl) (by rw [← hhc]; exact cw_one _) ?_)
      have hg7 : G7 < wr.heap.size := R7.lt
      have hgw := HG.out
      obtain ⟨W2, hW2, S3, S5, S6, S7, S11, hK2⟩ : ∃ W2, W2 = (wr.alloc (.cells #[.int .u32 0, .int .u32 0, .int .u32 0, .int .u32 0, .int .u32 0, .int .u32 0, .int .u32 0, .int .u32 0] 67)).setRow wr.heap.size hc ∧ Row W2 G3 hc 67 ∧ Row W2 G5 kc 69 ∧ Row W2 G6 z 67 ∧ Row W2 G7 (cw ws) 69 ∧ Row W2 wr.heap.size hc 67 ∧ Kept w W2 :=
        ⟨_, rfl, (R3.alloc _).setOther (by omega) _, (R5.alloc _).setOther (by omega) _, (R6.alloc _).setOther (by omega) _, (R7.alloc _).setOther (by omega) _, (Row.new wr _ _).set _, (hK.allocR _).setRow (by omega) _⟩
      rw [← hW2]
      rw [← hhc] at S11
      clear hW2 R3 R4 R5 R6 R7 hK hne
      generalize wr.heap.size = G at S11 hg7 ⊢
      go_wp2_with fail
      go_loopw [12] (fun i wr => ∃ k : Nat, k ≤ 64 ∧ i = .int .i64 (k : Int) ∧ Row wr G3 hc 67 ∧ Row wr G5 kc 69 ∧ Row wr G6 z 67 ∧ Row wr G7 (cw ws) 69 ∧ Row wr G (cw (roundsR h ws kl k).list) 67 ∧ Kept w wr) (fun i _ => (64 - intOf i).toNat)
      case atStart => exact ⟨0, by omega, rfl, S3, S5, S6, S7, S11, hK2⟩
      case round =>
        clear S3 S5 S6 S7 S11 hK2 W2
        obtain ⟨k, hk, rfl, R3, R5, R6, R7, R11, hK⟩ := hrel
        by_cases hlt : k < 64
        · obtain ⟨v, hv⟩ : ∃ v, roundsR h ws kl k = v := ⟨_, rfl⟩
          obtain ⟨kk, hkk⟩ : ∃ x, kl.getD k 0 = x := ⟨_, rfl⟩
          obtain ⟨ww, hww⟩ : ∃ x, ws.getD k 0 = x := ⟨_, rfl⟩
          have HV : Hid (roundsR h ws kl (k + 1) = roundK v kk ww) := by show roundsR _ _ _ (k + 1) = _; rw [roundsR, hv, hkk, hww, roundK_eq]
          rw [hv] at R11
          obtain ⟨E, hE⟩ : ∃ x, bigE v.e = x := ⟨_, rfl⟩
          obtain ⟨C, hC⟩ : ∃ x, choS v.e v.f v.g = x := ⟨_, rfl⟩
          obtain ⟨A0, hA0⟩ : ∃ x, ad v.h E = x := ⟨_, rfl⟩
          obtain ⟨A1, hA1⟩ : ∃ x, ad A0 C = x := ⟨_, rfl⟩
          obtain ⟨A2, hA2⟩ : ∃ x, ad A1 kk = x := ⟨_, rfl⟩
          obtain ⟨T, hTT⟩ : ∃ x, ad A2 ww = x := ⟨_, rfl⟩
          obtain ⟨Y, hY⟩ : ∃ x, yR v = x := ⟨_, rfl⟩
          have hsum : ((A0 : Int) + (C : Int) + (kk : Int) + (ww : Int)) % 4294967296 = (T : Int) := by rw [← hTT, ← hA2, ← hA1]; unfold ad; omega
          have HR : Hid (roundK v kk ww = ⟨ad T Y, v.a, v.b, v.c, ad v.d T, v.e, v.f, v.g⟩) := by
            show roundK v kk ww = _
            unfold roundK
            rw [hE, hC, hA0, hA1, hA2, hTT, hY]
          unfold bigE at hE
          unfold choS at hC
          unfold yR bigA mostS at hY
          have ck : ∀ q : KeptW wr, q.v.cell? ⟨G5, k, none⟩ = some (.int .u32 (kk : Int)) := fun q => by rw [q.h.cell R5.lt, R5.cell, ← hkc, cw_get _ _ (by omega), hkk]
          have cws : ∀ q : KeptW wr, q.v.cell? ⟨G7, k, none⟩ = some (.int .u32 (ww : Int)) := fun q => by rw [q.h.cell R7.lt, R7.cell, cw_get _ _ (by omega), hww]
          have c0 : ∀ q : KeptW wr, q.v.cell? ⟨G, 0, none⟩ = some (.int .u32 (v.a : Int)) := fun q => (q.h.cell R11.lt).trans (R11.cell 0)
          have c1 : ∀ q : KeptW wr, q.v.cell? ⟨G, 1, none⟩ = some (.int .u32 (v.b : Int)) := fun q => (q.h.cell R11.lt).trans (R11.cell 1)
          have c2 : ∀ q : KeptW wr, q.v.cell? ⟨G, 2, none⟩ = some (.int .u32 (v.c : Int)) := fun q => (q.h.cell R11.lt).trans (R11.cell 2)
          have c3 : ∀ q : KeptW wr, q.v.cell? ⟨G, 3, none⟩ = some (.int .u32 (v.d : Int)) := fun q => (q.h.cell R11.lt).trans (R11.cell 3)
          have c4 : ∀ q : KeptW wr, q.v.cell? ⟨G, 4, none⟩ = some (.int .u32 (v.e : Int)) := fun q => (q.h.cell R11.lt).trans (R11.cell 4)
          have c5 : ∀ q : KeptW wr, q.v.cell? ⟨G, 5, none⟩ = some (.int .u32 (v.f : Int)) := fun q => (q.h.cell R11.lt).trans (R11.cell 5)
          have c6 : ∀ q : KeptW wr, q.v.cell? ⟨G, 6, none⟩ = some (.int .u32 (v.g : Int)) := fun q => (q.h.cell R11.lt).trans (R11.cell 6)
          have c7 : ∀ q : KeptW wr, q.v.cell? ⟨G, 7, none⟩ = some (.int .u32 (v.h : Int)) := fun q => (q.h.cell R11.lt).trans (R11.cell 7)
          have hne : Nonempty (KeptW wr) := ⟨⟨wr, Kept.refl wr⟩⟩
          have hk1 : (k : Int) < 64 := by omega
          clear hv hkk hww hkc hhc HB
          go_wp2_with fail
          refine region_kept wr (Kept.refl wr) (by kernel_rfl) (by kernel_rfl) ?_
          repeat (go_big_quiet_step (fail))
          refine wpQuiet_nil ?_
          rintro w2 ⟨⟨_, hk2⟩, rfl⟩
          go_wp2_with fail
          refine region_kept wr hk2 (by kernel_rfl) (by kernel_rfl) ?_
          repeat (go_big_quiet_step (first | (go_at_call_of 77 (Value.int .u64 6); exact Calls.keptw_same (refTurn_any _ 6 _ rfl b6 _)) | (go_at_call_of 77 (Value.int .u64 11); exact Calls.keptw_same (refTurn_any _ 11 _ rfl b11 _)) | (go_at_call_of 77 (Value.int .u64 25); exact Calls.keptw_same (refTurn_any _ 25 _ rfl b25 _))))
          refine wpQuiet_nil ?_
          rintro w3 ⟨⟨_, hk3⟩, rfl⟩
          go_wp2_with fail
          refine region_kept wr hk3 (by kernel_rfl) (by kernel_rfl) ?_
          repeat (go_big_quiet_step (first | (go_at_call_of 77 (Value.int .u64 2); exact Calls.keptw_same (refTurn_any _ 2 _ rfl b2 _)) | (go_at_call_of 77 (Value.int .u64 13); exact Calls.keptw_same (refTurn_any _ 13 _ rfl b13 _)) | (go_at_call_of 77 (Value.int .u64 22); exact Calls.keptw_same (refTurn_any _ 22 _ rfl b22 _))))
          refine wpQuiet_nil ?_
          rintro w4 ⟨⟨_, hk4⟩, rfl⟩
          have S11 := R11.kept hk4
          have d0 : w4.cell? ⟨G, 0, none⟩ = some (.int .u32 (v.a : Int)) := S11.cell 0
          have d1 : w4.cell? ⟨G, 1, none⟩ = some (.int .u32 (v.b : Int)) := S11.cell 1
          have d2 : w4.cell? ⟨G, 2, none⟩ = some (.int .u32 (v.c : Int)) := S11.cell 2
          have d3 : w4.cell? ⟨G, 3, none⟩ = some (.int .u32 (v.d : Int)) := S11.cell 3
          have d4 : w4.cell? ⟨G, 4, none⟩ = some (.int .u32 (v.e : Int)) := S11.cell 4
          have d5 : w4.cell? ⟨G, 5, none⟩ = some (.int .u32 (v.f : Int)) := S11.cell 5
          have d6 : w4.cell? ⟨G, 6, none⟩ = some (.int .u32 (v.g : Int)) := S11.cell 6
          clear ck cws c0 c1 c2 c3 c4 c5 c6 c7 hne
          have d7 : w4.cell? ⟨G, 7, none⟩ = some (.int .u32 (v.h : Int)) := S11.cell 7
          have f0 : w4.frozen? ⟨G, 0, none⟩ = false := S11.frozen 0
          have f1 : w4.frozen? ⟨G, 1, none⟩ = false := S11.frozen 1
          have f2 : w4.frozen? ⟨G, 2, none⟩ = false := S11.frozen 2
          have f3 : w4.frozen? ⟨G, 3, none⟩ = false := S11.frozen 3
          have f4 : w4.frozen? ⟨G, 4, none⟩ = false := S11.frozen 4
          have f5 : w4.frozen? ⟨G, 5, none⟩ = false := S11.frozen 5
          have f6 : w4.frozen? ⟨G, 6, none⟩ = false := S11.frozen 6
          have f7 : w4.frozen? ⟨G, 7, none⟩ = false := S11.frozen 7
          go_wp2_with fail
          have hgw := HG.out
          have X3 := other_over8 (R3.kept hk4) (show G3 ≠ G by omega) (ad T Y) v.a v.b v.c (ad v.d T) v.e v.f v.g
          have X5 := other_over8 (R5.kept hk4) (show G5 ≠ G by omega) (ad T Y) v.a v.b v.c (ad v.d T) v.e v.f v.g
          have X6 := other_over8 (R6.kept hk4) (show G6 ≠ G by omega) (ad T Y) v.a v.b v.c (ad v.d T) v.e v.f v.g
          have X7 := other_over8 (R7.kept hk4) (show G7 ≠ G by omega) (ad T Y) v.a v.b v.c (ad v.d T) v.e v.f v.g
          have X11 := row_over8 (list_length v) S11 (ad T Y) v.a v.b v.c (ad v.d T) v.e v.f v.g
          have XK := kept_over8 (hK.trans hk4) (show w.heap.size ≤ G by omega) (ad T Y) v.a v.b v.c (ad v.d T) v.e v.f v.g
          have HV2 := HV.out.trans HR.out
          unfold over8 at X3 X5 X6 X7 X11 XK
          refine ⟨⟨k + 1, by omega, by simp, X3, X5, X6, X7, ?_, XK⟩, by simp [intOf]; omega⟩
          rw [HV2]
          exact X11
        · obtain rfl : k = 64 := by omega
          obtain ⟨v, hv⟩ : ∃ v, roundsR h ws kl 64 = v := ⟨_, rfl⟩
          rw [hv] at R11
          have HB2 : Hid (blockK kl h b = addW h v) := by show blockK kl h b = _; rw [HB.out, hv, addW_comm]
          rw [← hhc] at R3
          clear hv HB hk hlt R5 R7 hkc
          go_wp2_with fail
          go_loopw [17] (fun i wr => ∃ k : Nat, k ≤ 8 ∧ i = .int .i64 (k : Int) ∧ Row wr G3 (cw (mixL h.list v.list k)) 67 ∧ Row wr G6 z 67 ∧ Row wr G (cw v.list) 67 ∧ Kept w wr) (fun i _ => (8 - intOf i).toNat)
          case atStart => exact ⟨0, by omega, rfl, R3, R6, R11, hK⟩
          case round =>
            clear R3 R6 R11 hK
            obtain ⟨k, hk, rfl, R3, R6, R11, hK⟩ := hrel
            by_cases hlt : k < 8
            · obtain ⟨x, hx'⟩ : ∃ x, h.list.getD k 0 = x := ⟨_, rfl⟩
              obtain ⟨y, hy⟩ : ∃ x, v.list.getD k 0 = x := ⟨_, rfl⟩
              have c0 : ∀ q : KeptW wr, q.v.cell? ⟨G3, k, none⟩ = some (.int .u32 (x : Int)) := fun q => by rw [q.h.cell R3.lt, R3.cell, cw_get _ _ (by rw [mixL_length _ _ _ hk]; omega), mixL_get _ _ _ hlt, hx']
              have c1 : ∀ q : KeptW wr, q.v.cell? ⟨G, k, none⟩ = some (.int .u32 (y : Int)) := fun q => by rw [q.h.cell R11.lt, R11.cell, cw_get _ _ (by rw [list_length]; omega), hy]
              have HM : Hid ((mixL h.list v.list k).set k (ad x y) = mixL h.list v.list (k + 1)) := by show _ = _; rw [← hx', ← hy]; exact mixL_set h v k hlt
              have hne : Nonempty (KeptW wr) := ⟨⟨wr, Kept.refl wr⟩⟩
              have hk1 : (k : Int) < 8 := by omega
              clear hx' hy hhc
              go_wp2_with fail
              refine region_part 8 wr (Kept.refl wr) (by kernel_rfl) (by kernel_rfl) (by rfl) ?_
              simp only [List.take_succ_cons, List.take_zero, List.drop_succ_cons, List.drop_zero]
              repeat (go_big_quiet_step (fail))
              refine wpQuiet_nil ?_
              rintro w2 ⟨⟨_, hk2⟩, rfl⟩
              have S3 := R3.kept hk2
              have d0 : w2.cell? ⟨G3, k, none⟩ = some (.int .u32 (x : Int)) := c0 ⟨w2, hk2⟩
              have f0 : w2.frozen? ⟨G3, k, none⟩ = false := S3.frozen k
              clear c0 c1 hne
              go_wp2_with fail
              have hgw := HG.out
              refine ⟨⟨k + 1, by omega, by simp, ?_, (R6.kept hk2).setCellOther (by simp; omega) _, (R11.kept hk2).setCellOther (by simp; omega) _, (hK.trans hk2).setCell (by simp; omega) _⟩, by simp [intOf]; omega⟩
              have h1 := S3.setCell k (.int .u32 ((ad x y : Nat) : Int))
              rw [cw_set, HM.out] at h1
              exact h1
            · obtain rfl : k = 8 := by omega
              rw [mixL_all] at R3
              have hgw := HG.out
              go_upto_region 21 with fail
              go_wp2_with (first | refine wpList_load_row (by rfl) 67 _ (by rfl) G3 (by rfl) 67 (cw (addW h v).list) (0, 0) _ R3 Tryd.underlying67 rfl (by rw [cw_size]; exact i23) ?_ | refine wpList_store_row (by rfl) 67 _ _ (by rfl) G6 (cw (addW h v).list) (by rfl) (by rfl) 67 z R6 (by rw [cw_size]; exact i23) (by rw [cw_size]; exact HZ.out) (cw_one _) ?_)
              exact bodyPost_ret (results_cell_row rfl _ _ G6 67 (cw (addW h v).list) (0, 0) _ rfl (R6.set _) Tryd.underlying67 rfl (by rw [cw_size]; exact i23)) rfl ⟨by rw [HB2.out], hK.setRow (by omega) _⟩

end Go.Proofs.YtjikdbmdaeonlaaDoor.Dg
namespace Go.Proofs.YtjikdbmdaeonlaaDoor.Dg
open Go.RowKit
set_option maxRecDepth 20000

/-- A whole row read inside a region that draws its order. -/
theorem wpQuiet_load_row {P : Program} {ops : Array Oper} {Q : Act → Prop} {a : Act} {o : Oper} {rest : List Oper} {W : World} (hw : Region.wanted o (yielded ops a.tmps) = true) (ty : TypeId) (x : Operand) (ho : o.op = .load ty x)
    (g : Nat) (hx : a.eval x = .pointer (some ⟨g, 0, none⟩)) (t : TypeId) (cs : Array Value) (R : Row W g cs t) (d : TypeDesc)
    (hu : P.underlying ty = some d) (hd : (match d with | .struct _ | .array _ _ => true | _ => false) = true) (hi : (P.info? ty).map (·.size) = some cs.size)
    (h : wpQuiet P ops (fun w' => ∃ p : KeptW W, w' = p.v) Q rest (a.put o.dst (.agg cs))) : wpQuiet P ops (fun w' => ∃ p : KeptW W, w' = p.v) Q (o :: rest) a :=
  BigFrame.wpQuiet_want hw fun K hK => ⟨.agg cs, fun w ⟨p, e⟩ => by
    subst e
    have hr := run_loadVar_row p.v g t ty cs (0, 0) d (R.kept p.h) hu hd hi
    unfold Oper.quietAt execOp
    simp only [ho, hx, Instr.loadAt, Instr.sureAddr, Sem.run_bind, Sem.run_pure, Result.andThen_ok, hr]
    exact ⟨rfl, rfl⟩, hK _ h⟩

end Go.Proofs.YtjikdbmdaeonlaaDoor.Dg
namespace Go.Proofs.YtjikdbmdaeonlaaDoor.Dg
open Go.RowKit
set_option maxRecDepth 20000

theorem grow_at {B : Nat} {w wr w1 : World} {v : Value} {k : Nat} {xs : List Value} {d : Obj} (hown : wr.ownsRow B 5 1 v k xs) (hb : Below B w wr) (hB : B ≤ wr.heap.size) (hg : (wr.alloc d).drew.grownBy w1 v.ownBlock) : Below B w w1 :=
  ((hb.alloc hB d).drew).grown hg (by simp; omega) fun j hj => (hown.lt j hj).1
theorem stepsK_keep (k : List Nat) (h : W8) (hh : ∀ j, h.list.getD j 0 < 4294967296) (l : List UInt8) (n : Nat) : ∀ j, (stepsK k h l n).list.getD j 0 < 4294967296 := stepsK_bound k h hh l n

set_option maxRecDepth 4000 in
set_option maxHeartbeats 2000000 in
theorem with_any (s : ByteArray) (h : W8) (kl : List Nat) (hs : s.size ≤ 4000) (hkl : kl.length = 64) (hhb : ∀ j, h.list.getD j 0 < 4294967296) (w : World) :
    Calls Tryd.prog 36 #[.string s, .agg (cw h.list), .agg (cw kl)] w fun e w' => e = .returned (.string (bs (ofK kl h (L s)))) ∧ Kept w w' := by
  obtain ⟨i0, hi0, hz0, hz1, hz2⟩ := info_parts info5
  obtain ⟨t, ht⟩ : ∃ t, s ++ bs (padL s.size) = t := ⟨_, rfl⟩
  have htL : L t = L s ++ padL s.size := by rw [← ht, L_append, L_bs]
  have hts : t.size = s.size + padS s.size := by rw [← L_size, htL, List.length_append, padL_length, L_size]
  obtain ⟨M, hM⟩ : ∃ M, t.size / 64 = M := ⟨_, rfl⟩
  have hS9 := padS_ge s.size
  have hS72 := padS_le s.size
  have hSm := padS_mod s.size
  have htM : t.size = 64 * M := by omega
  have HO : Hid (ofK kl h (L s) = bytesL (stepsK kl h (L t) M).list) := by
    show _ = _
    unfold ofK
    rw [L_size, ← htL, ← hts, hM]
  have hpb : (bs (padL s.size)).size = padS s.size := by rw [bs_size, padL_length]
  obtain ⟨pb, hpbe⟩ : ∃ pb, bs (padL s.size) = pb := ⟨_, rfl⟩
  have hpad := refPad_any s.size (by omega)
  rw [hpbe] at hpad hpb ht
  have HTM : Hid (t.size = 64 * M) := htM
  have HM8 : Hid (M ≤ 64) := by show M ≤ 64; omega
  have hpb72 : pb.size ≤ 72 := by omega
  have HHB : Hid (∀ j, h.list.getD j 0 < 4294967296) := hhb
  obtain ⟨kc, hkc⟩ : ∃ kc, cw kl = kc := ⟨_, rfl⟩
  obtain ⟨hc, hhc⟩ : ∃ hc, cw h.list = hc := ⟨_, rfl⟩
  rw [hkc, hhc]
  have hks : kc.size = 64 := by rw [← hkc, cw_size, hkl]
  clear hpbe htL hts hM hS9 hS72 hSm htM hpb hhb
  go_enter Tryd.func36, Tryd.ntmps36
  go_wp2_with fail
  have R0 : Row ((w.alloc (.cells hc 67)).alloc (.cells kc 69)) w.heap.size (cw h.list) 67 := hhc ▸ (Row.new w hc 67).alloc _
  have R5 : Row ((w.alloc (.cells hc 67)).alloc (.cells kc 69)) (w.heap.size + 1) kc 69 := Row.newAt (by simp) _ _
  have K0 : Kept w ((w.alloc (.cells hc 67)).alloc (.cells kc 69)) := ((Kept.refl w).allocR _).allocR _
  generalize (w.alloc (.cells hc 67)).alloc (.cells kc 69) = W0 at R0 R5 K0 ⊢
  refine (hpad _).mono ?_
  rintro _ w1 ⟨rfl, k1⟩
  replace R0 := R0.kept k1
  replace R5 := R5.kept k1
  replace K0 := K0.trans k1
  clear hpad k1 W0
  go_wp2_with fail
  clear ht hpb72
  go_loopw [8] (fun i wr => ∃ k q : Nat, k ≤ M ∧ 64 * k = q ∧ i = .int .i64 (q : Int) ∧ Row wr w.heap.size (cw (stepsK kl h (L t) k).list) 67 ∧ Row wr (w.heap.size + 1) kc 69 ∧ Kept w wr) (fun i _ => t.size - (intOf i).toNat)
  case atStart => exact ⟨0, 0, by omega, rfl, rfl, R0, R5, K0⟩
  case round =>
    clear R0 R5 K0
    obtain ⟨k, q, hk, hq, rfl, R0, R5, K0⟩ := hrel
    obtain ⟨v, hv⟩ : ∃ v, stepsK kl h (L t) k = v := ⟨_, rfl⟩
    rw [hv] at R0
    have hM8 := HM8.out
    by_cases hlt : k < M
    · have hqt : q + 64 ≤ t.size := by have := HTM.out; omega
      have hq500 : q ≤ 4096 := by omega
      have HV : Hid (stepsK kl h (L t) (k + 1) = blockK kl v (nats (((L t).drop q).take 64))) := by
        show stepsK kl h (L t) (k + 1) = _
        rw [stepsK, hv, hq]
      have hdl : ((L t).drop q).length = t.size - q := by rw [List.length_drop, L_size]
      clear hv
      go_upto_region 6 with fail
      obtain ⟨Z, hZ⟩ : ∃ Z : Array Value, Z = #[.int .u8 0, .int .u8 0, .int .u8 0, .int .u8 0, .int .u8 0, .int .u8 0, .int .u8 0, .int .u8 0, .int .u8 0, .int .u8 0, .int .u8 0, .int .u8 0, .int .u8 0, .int .u8 0, .int .u8 0, .int .u8 0, .int .u8 0, .int .u8 0, .int .u8 0, .int .u8 0, .int .u8 0, .int .u8 0, .int .u8 0, .int .u8 0, .int .u8 0, .int .u8 0, .int .u8 0, .int .u8 0, .int .u8 0, .int .u8 0, .int .u8 0, .int .u8 0, .int .u8 0, .int .u8 0, .int .u8 0, .int .u8 0, .int .u8 0, .int .u8 0, .int .u8 0, .int .u8 0, .int .u8 0, .int .u8 0, .int .u8 0, .int .u8 0, .int .u8 0, .int .u8 0, .int .u8 0, .int .u8 0, .int .u8 0, .int .u8 0, .int .u8 0, .int .u8 0, .int .u8 0, .int .u8 0, .int .u8 0, .int .u8 0, .int .u8 0, .int .u8 0, .int .u8 0, .int .u8 0, .int .u8 0, .int .u8 0, .int .u8 0, .int .u8 0] := ⟨_, rfl⟩
      rw [← hZ]
      have hZ2 : Z = cb (pad64 (nats (((L t).drop q).take 0))) := by rw [hZ]; rfl
      have R1 : Row (wr.alloc (.cells Z 97)) wr.heap.size (cb (pad64 (nats (((L t).drop q).take 0)))) 97 := hZ2 ▸ Row.new wr Z 97
      have hG : w.heap.size + 1 < wr.heap.size := R5.lt
      replace R0 := R0.alloc (.cells Z 97)
      replace R5 := R5.alloc (.cells Z 97)
      replace K0 := K0.allocR (.cells Z 97)
      generalize wr.alloc (.cells Z 97) = W1 at R0 R1 R5 K0 ⊢
      generalize wr.heap.size = G at R1 hG ⊢
      clear hZ hZ2
      go_wp2_with fail
      go_loopw [10] (fun i wr => ∃ j : Nat, j ≤ 64 ∧ i = .int .i64 (j : Int) ∧ Row wr w.heap.size (cw v.list) 67 ∧ Row wr (w.heap.size + 1) kc 69 ∧ Row wr G (cb (pad64 (nats (((L t).drop q).take j)))) 97 ∧ Kept w wr) (fun i _ => (64 - intOf i).toNat)
      case atStart => exact ⟨0, by omega, rfl, R0, R5, R1, K0⟩
      case round =>
        clear R0 R1 R5 K0 W1
        obtain ⟨j, hj, rfl, R0, R5, R1, K0⟩ := hrel
        by_cases hlt2 : j < 64
        · obtain ⟨r, hr⟩ : ∃ r, q + j = r := ⟨_, rfl⟩
          have hrt : r < t.size := by omega
          have hrI : (q : Int) + (j : Int) = (r : Int) := by omega
          have hbo := block_of t q j (by omega)
          have HN : Hid (nats (((L t).drop q).take (j + 1)) = nats (((L t).drop q).take j) ++ [t[r].toNat]) := by
            show _ = _
            have h2 := nats_step ((L t).drop q) j _ hbo
            rw [h2]
            congr 2
            subst hr
            rfl
          have hnl : (nats (((L t).drop q).take j)).length = j := by rw [nats_length, List.length_take]; omega
          have hlen := pad64_length (nats (((L t).drop q).take j)) (by omega)
          obtain ⟨o, ho⟩ : ∃ o, wr.cell? ⟨G, j, none⟩ = some o := ⟨_, (R1.cell j).trans (cb_get _ _ (by omega))⟩
          have hf : wr.frozen? ⟨G, j, none⟩ = false := R1.frozen j
          have HNL : Hid ((nats (((L t).drop q).take j)).length = j) := hnl
          clear hbo hlen hr hnl hdl
          go_wp2_with fail
          go_roundw
          case rel =>
            refine ⟨j + 1, by omega, by simp, R0.setCellOther (by simp; omega) _, R5.setCellOther (by simp; omega) _, ?_, K0.setCell (by simp; omega) _⟩
            rw [HN.out]
            exact cb_push R1 HNL.out hlt2 _
          case measure => simp [intOf]; omega
        · obtain rfl : j = 64 := by omega
          obtain ⟨bl, hbl⟩ : ∃ bl, nats (((L t).drop q).take 64) = bl := ⟨_, rfl⟩
          have hbl64 : bl.length = 64 := by rw [← hbl, nats_length, List.length_take]; omega
          have hb256 : ∀ j, bl.getD j 0 < 256 := by rw [← hbl]; exact nats_lt _
          rw [hbl] at HV R1
          rw [pad64_full _ hbl64] at R1
          have hcall := refStep_any v bl kl hbl64 hb256 hkl wr
          rw [hkc] at hcall
          clear hbl hb256 hdl
          go_upto_region 10 with fail
          go_wp2_with (first | refine wpList_load_row (by rfl) 67 _ (by rfl) w.heap.size (by rfl) 67 (cw v.list) (0, 0) _ R0 Tryd.underlying67 rfl (by rw [cw_size]; exact i23) ?_ | refine wpList_load_row (by rfl) 97 _ (by rfl) G (by rfl) 97 (cb bl) (0, 0) _ R1 Tryd.underlying97 rfl (by rw [cb_size, hbl64]; exact i24) ?_ | refine wpList_load_row (by rfl) 69 _ (by rfl) (w.heap.size + 1) (by rfl) 69 kc (0, 0) _ R5 Tryd.underlying69 rfl (by rw [hks]; exact i40) ?_)
          refine hcall.mono ?_
          rintro _ w4 ⟨rfl, k4⟩
          clear hcall
          obtain ⟨r, hr⟩ : ∃ r, blockK kl v bl = r := ⟨_, rfl⟩
          rw [hr] at HV ⊢
          clear hr
          have V0 := R0.kept k4
          have V5 := R5.kept k4
          have hK4 := K0.trans k4
          clear R0 R1 R5 k4 K0
          go_wp2_with (refine wpList_store_row (by rfl) 67 _ _ (by rfl) w.heap.size (cw r.list) (by rfl) (by rfl) 67 (cw v.list) V0 (by rw [cw_size]; exact i23) (by rw [cw_size, cw_size]; rfl) (cw_one _) ?_)
          go_roundw
          case rel =>
            refine ⟨k + 1, q + 64, by omega, by omega, by go_num, ?_, V5.setOther (by omega) _, hK4.setRow (by omega) _⟩
            rw [HV.out]
            exact V0.set _
          case measure => simp [intOf]; omega
    · obtain rfl : k = M := by omega
      have hqt : t.size ≤ q := by have := HTM.out; omega
      have HO2 : Hid (ofK kl h (L s) = bytesL v.list) := by show _ = _; rw [HO.out, hv]
      have HVB : Hid (∀ j, v.list.getD j 0 < 4294967296) := by show ∀ j, _; rw [← hv]; exact stepsK_bound _ _ HHB.out _ _
      clear HO hv HTM HHB R5 hk hlt hM8 HM8 hkc hhc hkl hks
      go_wp2_with fail
      rw [show decide (q < t.size) = false from decide_eq_false (by omega)]
      clear hqt hq
      obtain ⟨wA, hwA⟩ : ∃ wA, wA = wr := ⟨_, rfl⟩
      subst hwA
      have hGA : w.heap.size < wA.heap.size := R0.lt
      go_loopw [11, 12] (fun u i wr => ∃ k : Nat, k ≤ 8 ∧ i = .int .i64 (k : Int) ∧ wr.ownsRow wA.heap.size 5 1 u (4 * k) (cellsL (bytesL (v.list.take k))) ∧ Below wA.heap.size wA wr) (fun _ i _ => (8 - intOf i).toNat)
      case atStart => exact ⟨0, by omega, rfl, World.ownsRow_nil _ _ _ _, Below.refl _ _⟩
      case round =>
        obtain ⟨k, hk, rfl, hown, hb⟩ := hrel
        have hB := hb.size
        by_cases hlt : k < 8
        · obtain ⟨x, hx⟩ : ∃ x, v.list.getD k 0 = x := ⟨_, rfl⟩
          have hxl := HVB.out k
          rw [hx] at hxl
          obtain ⟨a, ha⟩ : ∃ a, x / 16777216 % 256 = a := ⟨_, rfl⟩
          obtain ⟨b, hb'⟩ : ∃ a, x / 65536 % 256 = a := ⟨_, rfl⟩
          obtain ⟨c, hc'⟩ : ∃ a, x / 256 % 256 = a := ⟨_, rfl⟩
          obtain ⟨d, hd⟩ : ∃ a, x % 256 = a := ⟨_, rfl⟩
          have HS : Hid (_ = _) := out_step v.list k (by rw [list_length]; exact hlt) x hx a b c d ha hb' hc' hd
          have hcx : ∀ w1, Below wA.heap.size wA w1 → w1.cell? ⟨w.heap.size, k, none⟩ = some (.int .u32 (x : Int)) := fun w1 h1 => by
            have R1 : Row w1 w.heap.size (cw v.list) 67 := (h1.block _ hGA).trans R0
            rw [R1.cell, cw_get _ _ (by rw [list_length]; exact hlt), hx]
          have HCX : Hid (∀ w1, Below wA.heap.size wA w1 → w1.cell? ⟨w.heap.size, k, none⟩ = some (.int .u32 (x : Int))) := hcx
          have hcr := hcx wr hb
          have ia : (x : Int) / 16777216 = (a : Int) := by omega
          have ib : (x : Int) / 65536 % 256 = (b : Int) := by omega
          have ic : (x : Int) / 256 % 256 = (c : Int) := by omega
          have id' : (x : Int) % 256 = (d : Int) := by omega
          have ja : IntKind.u8.wrap (a : Int) = (a : Int) := by rw [IntKind.wrap_u8]; omega
          have jb : IntKind.u8.wrap ((x : Int) / 65536) = (b : Int) := by rw [IntKind.wrap_u8]; omega
          have jc : IntKind.u8.wrap ((x : Int) / 256) = (c : Int) := by rw [IntKind.wrap_u8]; omega
          have jd : IntKind.u8.wrap (x : Int) = (d : Int) := by rw [IntKind.wrap_u8]; omega
          have hk0 : (0 : Int) ≤ (k : Int) := by omega
          have hk8 : (k : Int) < 8 := by omega
          clear hx ha hb' hc' hd hcx
          go_wp2_with fail
          go_region_held3 (fun w' => w'.cell? ⟨w.heap.size, k, none⟩ = some (.int .u32 (x : Int))) (first | go_keep | exact hx1)
            ((refine step_append_lies _ (by rfl) _ _ _ (by rfl) wA.heap.size 5 i0 _ 1 1 Tryd.underlying60 hi0 hz0 hz1 hz2 rfl (by omega) u11 (4 * k) (cellsL (bytesL (v.list.take k))) (by rfl) ((hown.alloc _).drew)
                ⟨wr.heap.size, 0, none⟩ 4 4 [.int .u8 (a : Int), .int .u8 (b : Int), .int .u8 (c : Int), .int .u8 (d : Int)] (by rfl) (by rfl) (World.news_of_block (cs := #[.int .u8 (a : Int), .int .u8 (b : Int), .int .u8 (c : Int), .int .u8 (d : Int)]) (t := 5) (fr := (0, 0)) (heap_alloc_new wr _)) (by simp [Value.oneCell'])
                (by omega) (by unfold maxLen; omega) (by omega) (by simp; omega) (wr.heap.size + 1) (by simp) ?_; intro gg cap w1 hown1 hgrow hat hlt1; have hbb := grow_at hown hb hB hgrow; have hx1 := HCX.out w1 hbb))
          go_wp2_with fail
          all_goals exact ⟨⟨k + 1, by omega, by go_num, HS.out ▸ hown1, hbb⟩, by simp [intOf]; omega⟩
        · obtain rfl : k = 8 := by omega
          have hcv := conv_own (by rw [bytesL_length]; rfl) hown
          rw [show v.list.take 8 = v.list from rfl] at hcv
          clear hown
          go_wp2_with fail
          go_ret
          exact ⟨ret_str (by rw [HO2.out]), K0.trans (Kept.below hb)⟩

theorem refOf_any (s : ByteArray) (hs : s.size ≤ 4000) (w : World) :
    Calls Tryd.prog 38 #[.string s] w fun e w' => e = .returned (.string (bs (ofL (L s)))) ∧ Kept w w' := by
  have h1 := start_any
  have h2 := constants_any
  have h3 := with_any s firstN roundsN hs roundsN_length first_bound
  have h4 : ofK roundsN firstN (L s) = ofL (L s) := rfl
  rw [h4] at h3
  generalize cw firstN.list = a at h1 h3
  generalize cw roundsN = b at h2 h3
  generalize bs (ofL (L s)) = r at h3 ⊢
  clear h4
  go_enter Tryd.func38, Tryd.ntmps38
  go_wp2_with fail
  refine (h1 _).mono ?_
  rintro _ w1 ⟨rfl, k1⟩
  go_wp2_with fail
  refine (h2 _).mono ?_
  rintro _ w2 ⟨rfl, k2⟩
  go_wp2_with fail
  refine (h3 _).mono ?_
  rintro _ w3 ⟨rfl, k3⟩
  go_wp2_with fail
  go_ret
  exact ⟨rfl, k1.trans (k2.trans k3)⟩

end Go.Proofs.YtjikdbmdaeonlaaDoor.Dg
