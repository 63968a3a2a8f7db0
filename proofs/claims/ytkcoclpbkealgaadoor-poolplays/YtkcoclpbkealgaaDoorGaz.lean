/-
  PoolPlays walked: a pool's calls, one behind the other: each answer, what is held, what is dirty, what waits.
-/
import Derived.Test.YtkcoclpbkealgaaDoorGay
import Derived.Test.YtkcoclpbkealgaaDoorGap
import Derived.Deep.CutRange
import Derived.Deep.CutBlock
namespace Go.Proofs.YtkcoclpbkealgaaDoor
open Go.RowKit
set_option maxRecDepth 40000

/-- Both pools, alike, behind so many calls. -/
def TwoP (w : World) (p g b q p' g' c' q' n : Nat) (wx : World) : Prop := ∃ S T F G, LikeP S T ∧ Duo w wx (4 * n) p g b q p' g' c' q' F G S T

theorem setFuse_ps (S : St) (n : Int) : (S.setFuse n).ps.length = S.ps.length := by unfold St.setFuse; split <;> rfl
theorem setFuse_ws (S : St) (n : Int) : (S.setFuse n).ws.length ≤ S.ws.length := by unfold St.setFuse; split <;> exact Nat.le_refl _
theorem refFuse_ps (S : St) (n : Int) : (S.refFuse n).ps.length = S.ps.length := by unfold St.refFuse; split <;> rfl
theorem refFuse_ws (S : St) (n : Int) : (S.refFuse n).ws.length ≤ S.ws.length := by unfold St.refFuse; split <;> exact Nat.le_refl _
theorem crash_len (S : St) (cs : List UInt8) : (S.crash cs).ps.length = S.ps.length := by unfold St.crash crashed; exact crashN_length _ _ _ _
theorem crash_ws (S : St) (cs : List UInt8) : (S.crash cs).ws.length ≤ S.ws.length := Nat.zero_le _
theorem one_bytes (w : World) (v : UInt8) : Bytes (w.alloc (.cells #[.int .u8 (v.toNat : Int)] 5)) (some ⟨w.heap.size, 0, none⟩) [v] := fun _ => ⟨_, rfl, fun i hi => by
  obtain rfl : i = 0 := by simp only [List.length_singleton] at hi; omega
  exact (Row.new w #[.int .u8 (v.toNat : Int)] 5).cell 0⟩
set_option maxHeartbeats 16000000 in
theorem plays_walk (a1 : Option Addr) (c1 : Nat) (cs : List UInt8) (fr : Int) (a : Option Addr) (c : Nat) (l : List Stp) (w : World) (hB : Bytes w a1 cs) (hS : Stps w a l) (hT : Tab w) (h63 : cs.length ≤ 9223372036854775807) (hl63 : l.length ≤ 9223372036854775807) :
    Calls Tryd.prog 3 #[.slice a1 cs.length c1, .int .i64 fr, .slice a l.length c] w fun e w' => e = .returned (.bool true) ∧ New w w' := by
  have HB : Hid (Bytes w a1 cs) := hB
  have HS : Hid (Stps w a l) := hS
  have HT : Hid (Tab w) := hT
  clear hB hS hT
  by_cases h12 : 12 < cs.length
  · have h12' : (12 : Int) < (cs.length : Int) := by omega
    go_enter Tryd.func3, Tryd.ntmps3
    go_wp2_with fail
    refine (wakes8 w HT.out).mono ?_
    rintro _ w1 ⟨rfl, N1⟩
    go_wp2_with fail
    go_ret
    exact ⟨rfl, N1⟩
  have h12' : ¬ (12 : Int) < (cs.length : Int) := by omega
  by_cases h80 : 80 < l.length
  · have h80' : (80 : Int) < (l.length : Int) := by omega
    go_enter Tryd.func3, Tryd.ntmps3
    go_wp2_with fail
    refine (wakes8 w HT.out).mono ?_
    rintro _ w1 ⟨rfl, N1⟩
    go_wp2_with fail
    go_ret
    exact ⟨rfl, N1⟩
  have h80' : ¬ (80 : Int) < (l.length : Int) := by omega
  have hpg := fun w' (n : New w w') => lawpages_any w' a1 c1 cs (HB.out.after n) (by omega)
  go_enter Tryd.func3, Tryd.ntmps3
  go_wp2_with fail
  refine (hpg w (New.refl w)).mono ?_
  rintro _ w1 ⟨v1, rfl, Q1, n1⟩
  have hfr := from_pages Q1 (pagesL_size cs) 20 (by decide) (by decide) (by rw [pagesL_length]; omega)
  clear Q1
  go_wp2_with fail
  refine hfr.mono ?_
  rintro _ w2 ⟨n2, q, Fd, rfl, D2, hF2⟩
  have N2 := n1.trans n2
  clear hfr
  go_wp2_with fail
  refine (hpg w2 N2).mono ?_
  rintro _ w3 ⟨v3, rfl, Q3, n3⟩
  have hfr := reffrom_pages Q3 (pagesL_size cs) 20 (by decide) (by decide) (by rw [pagesL_length]; omega)
  clear Q3 hpg
  go_wp2_with fail
  refine hfr.mono ?_
  rintro _ w4 ⟨n4, q', G, rfl, E4, hG4⟩
  clear hfr
  have N4 := (N2.trans n3).trans n4
  have HD : Hid (Disk w4 Fd q ⟨20, pagesL cs, [], -1, false⟩ ∧ Rd w4 G q' ⟨20, pagesL cs, [], -1, false⟩ ∧ New w w4 ∧ (∀ x, Fd x → w.heap.size ≤ x) ∧ (∀ x, G x → w.heap.size ≤ x) ∧ (∀ x, Fd x → ¬ G x)) := by
    have z1 := n1.size
    have z2 := n2.size
    have z3 := n3.size
    refine ⟨D2.after (n3.trans n4), E4, N4, fun x hx => ?_, fun x hx => ?_, fun x hx hg => ?_⟩
    · have := hF2 x hx; omega
    · have := hG4 x hx; omega
    · have := D2.inside x hx; have := hG4 x hg; omega
  clear D2 E4 hF2 hG4 n1 n2 n3 n4 N2 N4
  by_cases hfr : 1 ≤ fr ∧ fr ≤ 64
  · obtain ⟨n, rfl⟩ : ∃ n : Nat, fr = (n : Int) := ⟨fr.toNat, by omega⟩
    have hnp := newpool_any HD.out.1 (HT.out.after HD.out.2.2.1) (fun h0 => by have := HD.out.2.2.2.1 0 h0; have := HT.out.1; omega) n (by omega) (by omega)
    go_wp2_with fail
    refine hnp.mono ?_
    rintro _ w5 ⟨p, g, b, rfl, P5, hp5, hg5, hb5, n5⟩
    have hnr := rnew_any (HD.out.2.1.after n5) n (by omega) (by omega)
    clear hnp
    go_wp2_with fail
    refine hnr.mono ?_
    rintro _ w6 ⟨p', g', c', rfl, R6, hp6, hg6, n6⟩
    clear hnr
    have T6 : TwoP w p g b q p' g' c' q' 0 w6 := by
      obtain ⟨D, E, N, k1, k2, k3⟩ := HD.out
      exact ⟨_, _, _, _, ⟨rfl, rfl, ⟨rfl, rfl, rfl, rfl, fun _ => rfl⟩⟩, Duo.make HT.out.1 N k1 k2 k3 hp5 hg5 hb5 P5 n5 (fun x hx => E.inside x hx) hp6 hg6 R6 n6 rfl⟩
    clear P5 R6 hp5 hg5 hb5 n5 hp6 hg6 n6 HD hfr
    go_wp2_with fail
    go_loopw [15] (fun u wr => ∃ i : Nat, u = .int .i64 (i : Int) ∧ i ≤ l.length ∧ TwoP w p g b q p' g' c' q' i wr) (fun u _ => l.length - (intOf u).toNat)
    case atStart => exact ⟨0, rfl, by omega, T6⟩
    case round =>
      clear T6
      obtain ⟨i, rfl, hi, S, T, F, G, hLk, B⟩ := hrel
      by_cases hil : i < l.length
      · have hil' : (i : Int) < (l.length : Int) := by omega
        obtain ⟨x, rfl, hx⟩ := HS.out (by omega)
        obtain ⟨s0, s1, s2, z1, z2⟩ := hx i hil
        clear hx
        generalize l.getD i stp0 = e at s0 s1 s2 z1 z2
        obtain ⟨ek, ez, eu⟩ := e
        have e0 := cell_below (j := i * 3) B.toNew s0 (Nat.le_refl _)
        have e1 := cell_below (j := 1) B.toNew s1 (Nat.le_refl _)
        have e2 := cell_below (j := 2) B.toNew s2 (Nat.le_refl _)
        simp only at e0 e1 e2 z1 z2
        have e1' : wr.cell? ⟨(x.add (i * 3)).block, (x.add (i * 3)).off + 1, none⟩ = some (.int .i64 ez) := e1
        have e2' : wr.cell? ⟨(x.add (i * 3)).block, (x.add (i * 3)).off + 2, none⟩ = some (.int .u8 (eu.toNat : Int)) := e2
        clear s0 s1 s2 e1 e2
        have HB' : Hid (Duo w wr (4 * i) p g b q p' g' c' q' F G S T ∧ LikeP S T) := ⟨B, hLk⟩
        clear B hLk
        go_upto_block 2 with fail
        clear e0 e1' e2'
        obtain ⟨k, hk⟩ : ∃ k, wr.heap.size = k := ⟨_, rfl⟩
        obtain ⟨W, hW, hNW, hRW⟩ : ∃ W, W = wr.alloc (.cells #[.int .i64 ek, .int .i64 ez, .int .u8 (eu.toNat : Int)] 40) ∧ New wr W ∧ Row W k #[.int .i64 ek, .int .i64 ez, .int .u8 (eu.toNat : Int)] 40 := ⟨_, rfl, (New.refl wr).alloc _, by rw [← hk]; exact Row.new wr _ 40⟩
        rw [← hW, hk]
        have HW : Hid (Duo w W (4 * i) p g b q p' g' c' q' F G S T ∧ LikeP S T ∧ Row W k #[.int .i64 ek, .int .i64 ez, .int .u8 (eu.toNat : Int)] 40 ∧ ¬ own p g b F k ∧ ¬ rown p' g' G k ∧ w.heap.size ≤ k) := by
          obtain ⟨B, hLk⟩ := HB'.out
          refine ⟨B.new hNW, hLk, hRW, fun h => ?_, fun h => ?_, by rw [← hk]; exact B.AF.size⟩
          · have := B.P.bits.own_lt _ h
            omega
          · have := B.R.own_lt _ h
            omega
        clear hW hNW hRW HB' hk
        go_cut [17, 18, 19, 20] from 82 to 207 (fun _ _ _ _ wx => TwoP w p g b q p' g' c' q' (i + 1) wx)
        case first =>
          by_cases hk0_ : ek = 0
          · subst hk0_
            obtain ⟨B, hLk, RW, hFg, hGg, hwg⟩ := HW.out
            have x0 : W.cell? ⟨k, 0, none⟩ = some (.int .i64 0) := RW.cell 0
            have x1 : W.cell? ⟨k, 1, none⟩ = some (.int .i64 ez) := RW.cell 1
            have x2 : W.cell? ⟨k, 2, none⟩ = some (.int .u8 (eu.toNat : Int)) := RW.cell 2
            obtain ⟨hk1, hk2, hk3⟩ := hLk.fetch ez
            have c1 := fetch_any B.P (by omega) ez z1 z2
            have hrf := fun (W1 : World) (F1 : Nat → Prop) (S1 : PS) (B1 : Duo w W1 (4 * i + 2) p g b q p' g' c' q' F1 G S1 T) => rfetch_any B1.R (by omega) ez
            rw [hk1, hk2] at hrf
            generalize (S.fetch ez).S = S1 at hk3 c1
            generalize (T.fetch ez).S = T1 at hk3 hrf
            generalize (S.fetch ez).t = t at hk2 c1 hrf
            generalize (S.fetch ez).e = e at hk1 c1 hrf
            clear hk1 hk2
            go_wp2_with fail
            refine c1.mono ?_
            rintro _ W1 ⟨rfl, K1⟩
            obtain ⟨F1, B1, s1⟩ := B.left (by omega) K1
            obtain ⟨R1, _⟩ := RW.aside s1 hFg
            have y1 : W1.cell? ⟨k, 1, none⟩ = some (.int .i64 ez) := R1.cell 1
            have c2 := hrf W1 F1 S1 B1
            clear c1 K1 s1 R1 RW B hrf x0 x1 x2
            go_wp2_with fail
            refine c2.mono ?_
            rintro _ W2 ⟨rfl, K2⟩
            obtain ⟨G2, B2, _⟩ := B1.right (by omega) K2
            have HF : Hid (TwoP w p g b q p' g' c' q' (i + 1) W2) := ⟨_, _, _, _, hk3, B2.mono (by omega)⟩
            clear c2 K2 B1 B2 y1
            go_wp2_with fail
            go_meet
            exact HF.out
          by_cases hk1_ : ek = 1
          · subst hk1_
            obtain ⟨B, hLk, RW, hFg, hGg, hwg⟩ := HW.out
            have x0 : W.cell? ⟨k, 0, none⟩ = some (.int .i64 1) := RW.cell 0
            have x1 : W.cell? ⟨k, 1, none⟩ = some (.int .i64 ez) := RW.cell 1
            have x2 : W.cell? ⟨k, 2, none⟩ = some (.int .u8 (eu.toNat : Int)) := RW.cell 2
            obtain ⟨hk1, hk2⟩ := hLk.unpin ez
            go_wp2_with fail
            refine region_segs [([0, 1, 2, 4, 5, 6], 3), ([], 7), ([], 8)] (HasRow k #[.int .i64 1, .int .i64 ez, .int .u8 (eu.toNat : Int)] 40) ⟨⟨W.drew, RW.after (New.drew W)⟩, rfl⟩ (by kernel_rfl) (by kernel_rfl) (fun d _ _ _ _ h => by cases d <;> exact h) ?_
            unfold wpSegs HasRow
            simp only [pick, List.getElem?_cons_succ, List.getElem?_cons_zero, Option.toList_some, List.cons_append, List.nil_append]
            have hne : Nonempty (RowW k #[.int .i64 1, .int .i64 ez, .int .u8 (eu.toNat : Int)] 40) := ⟨⟨W, RW⟩⟩
            have q1 : ∀ q : RowW k #[.int .i64 1, .int .i64 ez, .int .u8 (eu.toNat : Int)] 40, q.v.cell? ⟨k, 1, none⟩ = some (.int .i64 ez) := fun q => Row.cell q.h 1
            iterate 6 (go_big_quiet_step (fail))
            refine wpQuiet_nil ?_
            clear q1 hne
            have B0 := B.new (New.drew W)
            have R0 := RW.after (New.drew W)
            clear x0 x1 x2
            have c1 := unpin_any B0.P (by omega) ez z1 z2
            generalize (S.unpin ez).2 = S1 at hk2 c1
            generalize (S.unpin ez).1 = r at hk1 c1
            refine wpOp_call (some 113) 16 #[.pointer (some ⟨p, 0, none⟩), .int .i64 ez] (by rfl) (by rfl) (by rfl) (by go_simp) ?_
            refine c1.mono ?_
            rintro _ W2 ⟨rfl, K2⟩
            obtain ⟨F2, B2, s2⟩ := B0.left (by omega) K2
            obtain ⟨R2, hFg2⟩ := R0.aside s2 hFg
            clear K2 s2
            refine ⟨_, rfl, ⟨⟨W2, R2⟩, rfl⟩, ?_⟩
            simp only [Act.put, List.setIfInBounds_toArray, List.set_cons_zero, List.set_cons_succ]
            unfold wpSegs
            simp only [pick]
            refine wpQuiet_nil ?_
            have c2 := runpin_any B2.R (by omega) ez
            rw [hk1] at c2
            refine wpOp_call (some 117) 17 #[.pointer (some ⟨p', 0, none⟩), .int .i64 ez] (by rfl) (by rfl) (by rfl) (by go_simp) ?_
            refine c2.mono ?_
            rintro _ W4 ⟨rfl, K4⟩
            obtain ⟨G4, B4, s4⟩ := B2.right (by omega) K4
            obtain ⟨R4, hGg4⟩ := R2.aside s4 hGg
            clear K4 s4
            refine ⟨_, rfl, ⟨⟨W4, R4⟩, rfl⟩, ?_⟩
            simp only [Act.put, List.setIfInBounds_toArray, List.set_cons_zero, List.set_cons_succ]
            unfold wpSegs
            simp only [pick]
            refine wpQuiet_nil ?_
            refine wpOp_run (some 118) (.bool false) W4 (by rfl) (by rfl) (by rfl) (by go_simp) ⟨⟨⟨W4, R4⟩, rfl⟩, ?_⟩
            simp only [Act.put, List.setIfInBounds_toArray, List.set_cons_zero, List.set_cons_succ]
            unfold wpSegs
            have HF : Hid (TwoP w p g b q p' g' c' q' (i + 1) W4) := ⟨_, _, _, _, hk2, B4.mono (by omega)⟩
            clear B4 R4
            go_wp2_with fail
            go_meet
            exact HF.out
          by_cases hk2_ : ek = 2
          · subst hk2_
            obtain ⟨B, hLk, RW, hFg, hGg, hwg⟩ := HW.out
            have x0 : W.cell? ⟨k, 0, none⟩ = some (.int .i64 2) := RW.cell 0
            have x1 : W.cell? ⟨k, 1, none⟩ = some (.int .i64 ez) := RW.cell 1
            have x2 : W.cell? ⟨k, 2, none⟩ = some (.int .u8 (eu.toNat : Int)) := RW.cell 2
            obtain ⟨mn, hmn⟩ : ∃ mn : Int, (if (99 : Int) < ez then 99 else ez) = mn := ⟨_, rfl⟩
            obtain ⟨nn, hnn⟩ : ∃ nn : Nat, (if mn > (0 : Int) then mn else 0) = (nn : Int) := ⟨(if mn > (0 : Int) then mn else 0).toNat, by split <;> omega⟩
            have hn99 : nn < 65536 := by split at hmn <;> split at hnn <;> omega
            obtain ⟨hk1, hk2⟩ := hLk.put ez (goodL nn eu)
            go_wp2_with fail
            refine region_segm [([0, 1, 2, 3, 4, 5, 6, 7, 8, 11, 12, 13, 14, 15, 16, 17, 18, 19], 9), ([], 10), ([], 20), ([], 21), ([], 22)] (HasRow k #[.int .i64 2, .int .i64 ez, .int .u8 (eu.toNat : Int)] 40) ⟨⟨W.drew, RW.after (New.drew W)⟩, rfl⟩ (by kernel_rfl) (by kernel_rfl) (fun d _ _ _ _ h => by cases d <;> exact h) ?_
            unfold wpSegs HasRow
            simp only [pick, List.getElem?_cons_succ, List.getElem?_cons_zero, Option.toList_some, List.cons_append, List.nil_append]
            have hne : Nonempty (RowW k #[.int .i64 2, .int .i64 ez, .int .u8 (eu.toNat : Int)] 40) := ⟨⟨W, RW⟩⟩
            have q1 : ∀ q : RowW k #[.int .i64 2, .int .i64 ez, .int .u8 (eu.toNat : Int)] 40, q.v.cell? ⟨k, 1, none⟩ = some (.int .i64 ez) := fun q => Row.cell q.h 1
            have q2 : ∀ q : RowW k #[.int .i64 2, .int .i64 ez, .int .u8 (eu.toNat : Int)] 40, q.v.cell? ⟨k, 2, none⟩ = some (.int .u8 (eu.toNat : Int)) := fun q => Row.cell q.h 2
            iterate 5 (go_big_quiet_step (fail))
            refine wpQuiet_min (by rfl) (.tmp 125) (.const (.int .i64 99)) (by rfl) ez 99 mn (by rfl) (by rfl) hmn ?_
            simp only [Act.put, List.setIfInBounds_toArray, List.set_cons_zero, List.set_cons_succ]
            refine wpQuiet_max (by rfl) (.const (.int .i64 0)) (.tmp 126) (by rfl) 0 mn nn (by rfl) (by rfl) hnn ?_
            simp only [Act.put, List.setIfInBounds_toArray, List.set_cons_zero, List.set_cons_succ]
            iterate 7 (go_big_quiet_step (fail))
            refine wpQuiet_min (by rfl) (.tmp 136) (.const (.int .i64 99)) (by rfl) ez 99 mn (by rfl) (by rfl) hmn ?_
            simp only [Act.put, List.setIfInBounds_toArray, List.set_cons_zero, List.set_cons_succ]
            refine wpQuiet_max (by rfl) (.const (.int .i64 0)) (.tmp 137) (by rfl) 0 mn nn (by rfl) (by rfl) hnn ?_
            simp only [Act.put, List.setIfInBounds_toArray, List.set_cons_zero, List.set_cons_succ]
            iterate 2 (go_big_quiet_step (fail))
            refine wpQuiet_nil ?_
            clear q1 q2 hne hmn hnn
            have B0 := B.new (New.drew W)
            have R0 := RW.after (New.drew W)
            clear x0 x1 x2
            refine wpOp_call (some 130) 19 #[.int .i64 (nn : Int), .int .u8 (eu.toNat : Int)] (by rfl) (by rfl) (by rfl) (by go_simp) ?_
            refine (good_any nn hn99 eu _).mono ?_
            rintro _ W1 ⟨rfl, N1⟩
            have B1 := B0.new N1
            have R1 := R0.after N1
            refine ⟨_, rfl, ⟨⟨W1, R1⟩, rfl⟩, ?_⟩
            simp only [Act.put, List.setIfInBounds_toArray, List.set_cons_zero, List.set_cons_succ]
            unfold wpSegs
            simp only [pick]
            refine wpQuiet_nil ?_
            have c1 := put_any' B1.P (by omega) ez z1 z2 (bs (goodL nn eu))
            rw [L_bs] at c1
            generalize (S.put ez (goodL nn eu)).2 = S1 at hk2 c1
            generalize (S.put ez (goodL nn eu)).1 = r at hk1 c1
            refine wpOp_call (some 131) 18 #[.pointer (some ⟨p, 0, none⟩), .int .i64 ez, .string (bs (goodL nn eu))] (by rfl) (by rfl) (by rfl) (by go_simp) ?_
            refine c1.mono ?_
            rintro _ W2 ⟨rfl, K2⟩
            obtain ⟨F2, B2, s2⟩ := B1.left (by omega) K2
            obtain ⟨R2, hFg2⟩ := R1.aside s2 hFg
            clear K2 s2 c1
            refine ⟨_, rfl, ⟨⟨W2, R2⟩, rfl⟩, ?_⟩
            simp only [Act.put, List.setIfInBounds_toArray, List.set_cons_zero, List.set_cons_succ]
            unfold wpSegs
            simp only [pick]
            refine wpQuiet_nil ?_
            refine wpOp_call (some 141) 19 #[.int .i64 (nn : Int), .int .u8 (eu.toNat : Int)] (by rfl) (by rfl) (by rfl) (by go_simp) ?_
            refine (good_any nn hn99 eu _).mono ?_
            rintro _ W3 ⟨rfl, N3⟩
            have B3 := B2.new N3
            have R3 := R2.after N3
            refine ⟨_, rfl, ⟨⟨W3, R3⟩, rfl⟩, ?_⟩
            simp only [Act.put, List.setIfInBounds_toArray, List.set_cons_zero, List.set_cons_succ]
            unfold wpSegs
            simp only [pick]
            refine wpQuiet_nil ?_
            have c2 := rput_any B3.R (by omega) ez (bs (goodL nn eu))
            rw [L_bs, hk1] at c2
            refine wpOp_call (some 142) 20 #[.pointer (some ⟨p', 0, none⟩), .int .i64 ez, .string (bs (goodL nn eu))] (by rfl) (by rfl) (by rfl) (by go_simp) ?_
            refine c2.mono ?_
            rintro _ W4 ⟨rfl, K4⟩
            obtain ⟨G4, B4, s4⟩ := B3.right (by omega) K4
            obtain ⟨R4, hGg4⟩ := R3.aside s4 hGg
            clear K4 s4
            refine ⟨_, rfl, ⟨⟨W4, R4⟩, rfl⟩, ?_⟩
            simp only [Act.put, List.setIfInBounds_toArray, List.set_cons_zero, List.set_cons_succ]
            unfold wpSegs
            simp only [pick]
            refine wpQuiet_nil ?_
            refine wpOp_run (some 143) (.bool false) W4 (by rfl) (by rfl) (by rfl) (by go_simp) ⟨⟨⟨W4, R4⟩, rfl⟩, ?_⟩
            simp only [Act.put, List.setIfInBounds_toArray, List.set_cons_zero, List.set_cons_succ]
            unfold wpSegs
            have HF : Hid (TwoP w p g b q p' g' c' q' (i + 1) W4) := ⟨_, _, _, _, hk2, B4.mono (by omega)⟩
            clear B4 R4
            go_wp2_with fail
            go_meet
            exact HF.out
          by_cases hk3_ : ek = 3
          · subst hk3_
            obtain ⟨B, hLk, RW, hFg, hGg, hwg⟩ := HW.out
            have x0 : W.cell? ⟨k, 0, none⟩ = some (.int .i64 3) := RW.cell 0
            have x1 : W.cell? ⟨k, 1, none⟩ = some (.int .i64 ez) := RW.cell 1
            have x2 : W.cell? ⟨k, 2, none⟩ = some (.int .u8 (eu.toNat : Int)) := RW.cell 2
            obtain ⟨hk1, hk2⟩ := hLk.flush
            have c1 := flush_any B.P (by omega)
            have hrf := fun (W1 : World) (F1 : Nat → Prop) (S1 : PS) (B1 : Duo w W1 (4 * i) p g b q p' g' c' q' F1 G S1 T) => rflush_any B1.R (by omega)
            rw [hk1] at hrf
            generalize S.flush.2 = S1 at hk2 c1
            generalize T.flush.2 = T1 at hk2 hrf
            generalize S.flush.1 = r at hk1 c1 hrf
            clear hk1
            go_wp2_with fail
            refine c1.mono ?_
            rintro _ W1 ⟨rfl, K1⟩
            obtain ⟨F1, B1, s1⟩ := B.left (Nat.le_refl _) K1
            have c2 := hrf W1 F1 S1 B1
            clear c1 K1 s1 RW B hrf x0 x1 x2
            go_wp2_with fail
            refine c2.mono ?_
            rintro _ W2 ⟨rfl, K2⟩
            obtain ⟨G2, B2, _⟩ := B1.right (Nat.le_refl _) K2
            have HF : Hid (TwoP w p g b q p' g' c' q' (i + 1) W2) := ⟨_, _, _, _, hk2, B2.mono (by omega)⟩
            clear c2 K2 B1 B2
            go_wp2_with fail
            go_meet
            exact HF.out
          by_cases hk4_ : ek = 4
          · subst hk4_
            obtain ⟨B, hLk, RW, hFg, hGg, hwg⟩ := HW.out
            have x0 : W.cell? ⟨k, 0, none⟩ = some (.int .i64 4) := RW.cell 0
            have x1 : W.cell? ⟨k, 1, none⟩ = some (.int .i64 ez) := RW.cell 1
            have x2 : W.cell? ⟨k, 2, none⟩ = some (.int .u8 (eu.toNat : Int)) := RW.cell 2
            obtain ⟨hk1, hk2⟩ := hLk.put ez (L ⟨#[120]⟩)
            go_wp2_with fail
            refine region_segs [([0, 1, 2, 4, 5, 6], 3), ([], 7), ([], 8)] (HasRow k #[.int .i64 4, .int .i64 ez, .int .u8 (eu.toNat : Int)] 40) ⟨⟨W.drew, RW.after (New.drew W)⟩, rfl⟩ (by kernel_rfl) (by kernel_rfl) (fun d _ _ _ _ h => by cases d <;> exact h) ?_
            unfold wpSegs HasRow
            simp only [pick, List.getElem?_cons_succ, List.getElem?_cons_zero, Option.toList_some, List.cons_append, List.nil_append]
            have hne : Nonempty (RowW k #[.int .i64 4, .int .i64 ez, .int .u8 (eu.toNat : Int)] 40) := ⟨⟨W, RW⟩⟩
            have q1 : ∀ q : RowW k #[.int .i64 4, .int .i64 ez, .int .u8 (eu.toNat : Int)] 40, q.v.cell? ⟨k, 1, none⟩ = some (.int .i64 ez) := fun q => Row.cell q.h 1
            iterate 6 (go_big_quiet_step (fail))
            refine wpQuiet_nil ?_
            clear q1 hne
            have B0 := B.new (New.drew W)
            have R0 := RW.after (New.drew W)
            clear x0 x1 x2
            have c1 := put_any' B0.P (by omega) ez z1 z2 ⟨#[120]⟩
            generalize (S.put ez (L ⟨#[120]⟩)).2 = S1 at hk2 c1
            generalize (S.put ez (L ⟨#[120]⟩)).1 = r at hk1 c1
            refine wpOp_call (some 156) 18 #[.pointer (some ⟨p, 0, none⟩), .int .i64 ez, .string ⟨#[120]⟩] (by rfl) (by rfl) (by rfl) (by go_simp) ?_
            refine c1.mono ?_
            rintro _ W2 ⟨rfl, K2⟩
            obtain ⟨F2, B2, s2⟩ := B0.left (by omega) K2
            obtain ⟨R2, hFg2⟩ := R0.aside s2 hFg
            clear K2 s2
            refine ⟨_, rfl, ⟨⟨W2, R2⟩, rfl⟩, ?_⟩
            simp only [Act.put, List.setIfInBounds_toArray, List.set_cons_zero, List.set_cons_succ]
            unfold wpSegs
            simp only [pick]
            refine wpQuiet_nil ?_
            have c2 := rput_any B2.R (by omega) ez ⟨#[120]⟩
            rw [hk1] at c2
            refine wpOp_call (some 160) 20 #[.pointer (some ⟨p', 0, none⟩), .int .i64 ez, .string ⟨#[120]⟩] (by rfl) (by rfl) (by rfl) (by go_simp) ?_
            refine c2.mono ?_
            rintro _ W4 ⟨rfl, K4⟩
            obtain ⟨G4, B4, s4⟩ := B2.right (by omega) K4
            obtain ⟨R4, hGg4⟩ := R2.aside s4 hGg
            clear K4 s4
            refine ⟨_, rfl, ⟨⟨W4, R4⟩, rfl⟩, ?_⟩
            simp only [Act.put, List.setIfInBounds_toArray, List.set_cons_zero, List.set_cons_succ]
            unfold wpSegs
            simp only [pick]
            refine wpQuiet_nil ?_
            refine wpOp_run (some 161) (.bool false) W4 (by rfl) (by rfl) (by rfl) (by go_simp) ⟨⟨⟨W4, R4⟩, rfl⟩, ?_⟩
            simp only [Act.put, List.setIfInBounds_toArray, List.set_cons_zero, List.set_cons_succ]
            unfold wpSegs
            have HF : Hid (TwoP w p g b q p' g' c' q' (i + 1) W4) := ⟨_, _, _, _, hk2, B4.mono (by omega)⟩
            clear B4 R4
            go_wp2_with fail
            go_meet
            exact HF.out
          by_cases hk5_ : ek = 5
          · subst hk5_
            obtain ⟨B, hLk, RW, hFg, hGg, hwg⟩ := HW.out
            have x0 : W.cell? ⟨k, 0, none⟩ = some (.int .i64 5) := RW.cell 0
            have x1 : W.cell? ⟨k, 1, none⟩ = some (.int .i64 ez) := RW.cell 1
            have x2 : W.cell? ⟨k, 2, none⟩ = some (.int .u8 (eu.toNat : Int)) := RW.cell 2
            have c1 := fuse_any B.P.bits.disk ez z1 z2
            go_wp2_with fail
            refine c1.mono ?_
            rintro _ W1 ⟨rfl, D1, t1⟩
            obtain ⟨F1, B1, s1⟩ := B.left (Nat.le_refl _) (B.P.disk ⟨_, D1, t1⟩ (setFuse_ps _ _) (setFuse_ws _ _))
            obtain ⟨R1, _⟩ := RW.aside s1 hFg
            have y1 : W1.cell? ⟨k, 1, none⟩ = some (.int .i64 ez) := R1.cell 1
            have c2 := reffuse_any B1.R.disk ez z2
            clear c1 D1 t1 s1 R1 RW B x0 x1 x2
            go_wp2_with fail
            refine c2.mono ?_
            rintro _ W2 ⟨rfl, E2, t2⟩
            obtain ⟨G2, B2, _⟩ := B1.right (Nat.le_refl _) (B1.R.disk' ⟨_, E2, t2⟩ (refFuse_ps _ _) (refFuse_ws _ _))
            have HF : Hid (TwoP w p g b q p' g' c' q' (i + 1) W2) := ⟨_, _, _, _, hLk.disk (hLk.d.setFuse ez).1, B2.mono (by omega)⟩
            clear c2 E2 t2 B1 B2 y1
            go_wp2_with fail
            go_meet
            exact HF.out
          by_cases hk6_ : ek = 6
          · subst hk6_
            obtain ⟨B, hLk, RW, hFg, hGg, hwg⟩ := HW.out
            have x0 : W.cell? ⟨k, 0, none⟩ = some (.int .i64 6) := RW.cell 0
            have x1 : W.cell? ⟨k, 1, none⟩ = some (.int .i64 ez) := RW.cell 1
            have x2 : W.cell? ⟨k, 2, none⟩ = some (.int .u8 (eu.toNat : Int)) := RW.cell 2
            have N0 : New W (W.alloc (.cells #[.int .u8 (eu.toNat : Int)] 5)) := (New.refl W).alloc _
            have B0 := B.new N0
            have R0 := RW.after N0
            have by0 : Bytes (W.alloc (.cells #[.int .u8 (eu.toNat : Int)] 5)) (some ⟨W.heap.size, 0, none⟩) [eu] := one_bytes W eu
            have c1 := crash_any B0.P.bits.disk (some ⟨W.heap.size, 0, none⟩) 1 [eu] by0 (fun x hx hF => by cases hx; have := B.P.bits.disk.inside _ hF; exact absurd this (Nat.lt_irrefl _)) (by show 1 ≤ 4611686018427387904; decide)
            go_wp2_with fail
            refine c1.mono ?_
            rintro _ W1 ⟨rfl, L1⟩
            obtain ⟨F1, B1, s1⟩ := B0.left (Nat.le_refl _) (B0.P.disk L1 (crash_len _ _) (crash_ws _ _))
            obtain ⟨R1, _⟩ := R0.aside s1 hFg
            have y2 : W1.cell? ⟨k, 2, none⟩ = some (.int .u8 (eu.toNat : Int)) := R1.cell 2
            have N1 : New W1 (W1.alloc (.cells #[.int .u8 (eu.toNat : Int)] 5)) := (New.refl W1).alloc _
            have B2 := B1.new N1
            have c2 := refcrash_any B2.R.disk (some ⟨W1.heap.size, 0, none⟩) 1 [eu] (one_bytes W1 eu) (fun _ x hx hG => by cases hx; have := B1.R.disk.inside _ hG; exact absurd this (Nat.lt_irrefl _)) (by show 1 ≤ 4611686018427387904; decide)
            clear c1 L1 s1 R1 RW B B0 R0 by0 N0 B1 N1 x0 x1 x2
            go_wp2_with fail
            refine c2.mono ?_
            rintro _ W2 ⟨rfl, L2⟩
            obtain ⟨G2, B3, _⟩ := B2.right (Nat.le_refl _) (B2.R.disk' L2 (crash_len _ _) (crash_ws _ _))
            have HF : Hid (TwoP w p g b q p' g' c' q' (i + 1) W2) := ⟨_, _, _, _, hLk.disk (hLk.d.crash [eu]).1, B3.mono (by omega)⟩
            clear c2 L2 B2 B3 y2
            go_wp2_with fail
            go_meet
            exact HF.out
          obtain ⟨B, hLk, RW, hFg, hGg, hwg⟩ := HW.out
          have x0 : W.cell? ⟨k, 0, none⟩ = some (.int .i64 ek) := RW.cell 0
          have x1 : W.cell? ⟨k, 1, none⟩ = some (.int .i64 ez) := RW.cell 1
          have x2 : W.cell? ⟨k, 2, none⟩ = some (.int .u8 (eu.toNat : Int)) := RW.cell 2
          have HF : Hid (TwoP w p g b q p' g' c' q' (i + 1) W) := ⟨_, _, _, _, hLk, B.mono (by omega)⟩
          clear B RW
          go_wp2_with fail
          go_meet
          exact HF.out
        case rest =>
          obtain ⟨S5, T5, F5, G5, hLk5, B5⟩ := hcut
          have HB5 : Hid (Duo w wc (4 * (i + 1)) p g b q p' g' c' q' F5 G5 S5 T5 ∧ LikeP S5 T5) := ⟨B5, hLk5⟩
          obtain ⟨b1, d1, b2, d2, _, k1, k2, _, _, _, _, _, P2⟩ := B5.R.disk.open
          rw [hLk5.d.ws] at k2 P2
          have HP2 : Hid (Pl wc (fun g => G5 g ∧ g ≠ q' ∧ (Value.slice b1 T5.d.ps.length d1).ownBlock ≠ some g) 76 2 (.slice b2 S5.d.ws.length d2) (S5.d.ws.map tellL)) := P2
          have hfew5 := B5.P.bits.disk.ok.few
          have hh5 : (sorted (held S5.fs)).length ≤ 100000 := by rw [sorted_length]; have h1 : (held S5.fs).length ≤ (keys S5.fs).length := List.length_filterMap_le _ _; rw [keys_length] at h1; have := B5.P.inv.most; omega
          have hd5 : (sorted (dirties S5.fs)).length ≤ 100000 := by rw [sorted_length]; have := dirties_le S5.fs; have := B5.P.inv.most; omega
          have hps5 := pages_held B5.R.inv (Nat.le_trans B5.R.disk.ok.len B5.R.disk.ok.lim)
          have hpd5 := pages_dirty B5.R.inv (Nat.le_trans B5.R.disk.ok.len B5.R.disk.ok.lim)
          rw [hLk5.held] at hps5
          rw [hLk5.dirties] at hpd5
          have HPP : Hid (sorted (held S5.fs) = rpL false T5 200 ∧ sorted (dirties S5.fs) = rpL true T5 200) := ⟨hps5, hpd5⟩
          have q2 : ∀ n : NewW wc, n.v.cell? ⟨q', 2, none⟩ = some (.slice b2 S5.d.ws.length d2) := fun n => NewW.cell k2 n
          have hne := NewW.ne wc
          clear B5 hLk5 k1 k2 P2 hps5 hpd5
          go_wp2_with fail
          refine region_segs [([0, 2], 1), ([], 3), ([], 4), ([5, 6, 7, 9], 8), ([], 10), ([], 11), ([12, 13, 14, 15, 17, 18, 19, 20], 16), ([], 21), ([22], 23)] (fun w' => ∃ n : NewW wc, w' = n.v) ⟨⟨wc.drew, New.drew wc⟩, rfl⟩ (by kernel_rfl) (by kernel_rfl) (fun d _ _ _ _ h => by cases d <;> exact h) ?_
          unfold wpSegs
          simp only [pick, List.getElem?_cons_succ, List.getElem?_cons_zero, Option.toList_some, List.cons_append, List.nil_append]
          iterate 2 (go_big_quiet_step (fail))
          refine wpQuiet_nil ?_
          refine wpOp_call (some 185) 28 #[.pointer (some ⟨p, 0, none⟩)] (by rfl) (by rfl) (by rfl) (by go_simp) ?_
          refine (held_any (HB5.out.1.P.after (New.drew wc)) (by omega)).mono ?_
          rintro _ W1 ⟨v1, rfl, Q1, N1⟩
          have M1 : New wc W1 := (New.drew wc).trans N1
          refine ⟨_, rfl, ⟨⟨W1, M1⟩, rfl⟩, ?_⟩
          simp only [Act.put, List.setIfInBounds_toArray, List.set_cons_zero, List.set_cons_succ]
          unfold wpSegs
          simp only [pick]
          refine wpQuiet_nil ?_
          have cp := rpages_any (HB5.out.1.R.after M1) false
          rw [← HPP.out.1] at cp
          refine wpOp_call (some 187) 29 #[.pointer (some ⟨p', 0, none⟩), .bool false] (by rfl) (by rfl) (by rfl) (by go_simp) ?_
          refine (cp).mono ?_
          rintro _ W2 ⟨v2, rfl, Q2, N2⟩
          have M2 : New wc W2 := M1.trans N2
          refine ⟨_, rfl, ⟨⟨W2, M2⟩, rfl⟩, ?_⟩
          simp only [Act.put, List.setIfInBounds_toArray, List.set_cons_zero, List.set_cons_succ]
          clear cp
          unfold wpSegs
          simp only [pick]
          refine wpQuiet_nil ?_
          refine wpOp_call (some 188) 27 #[v1, v2] (by rfl) (by rfl) (by rfl) (by go_simp) ?_
          refine (ints_any (Q1.after N2) Q2 hh5).mono ?_
          rintro _ W3 ⟨rfl, N3⟩
          have M3 : New wc W3 := M2.trans N3
          refine ⟨_, rfl, ⟨⟨W3, M3⟩, rfl⟩, ?_⟩
          simp only [Act.put, List.setIfInBounds_toArray, List.set_cons_zero, List.set_cons_succ]
          clear Q1 Q2
          unfold wpSegs
          simp only [pick, List.getElem?_cons_succ, List.getElem?_cons_zero, Option.toList_some, List.cons_append, List.nil_append]
          iterate 4 (go_big_quiet_step (fail))
          refine wpQuiet_nil ?_
          refine wpOp_call (some 192) 30 #[.pointer (some ⟨p, 0, none⟩)] (by rfl) (by rfl) (by rfl) (by go_simp) ?_
          refine (dirty_any (HB5.out.1.P.after M3)).mono ?_
          rintro _ W4 ⟨v4, rfl, Q4, N4⟩
          have M4 : New wc W4 := M3.trans N4
          refine ⟨_, rfl, ⟨⟨W4, M4⟩, rfl⟩, ?_⟩
          simp only [Act.put, List.setIfInBounds_toArray, List.set_cons_zero, List.set_cons_succ]
          unfold wpSegs
          simp only [pick]
          refine wpQuiet_nil ?_
          have cp := rpages_any (HB5.out.1.R.after M4) true
          rw [← HPP.out.2] at cp
          refine wpOp_call (some 194) 29 #[.pointer (some ⟨p', 0, none⟩), .bool true] (by rfl) (by rfl) (by rfl) (by go_simp) ?_
          refine (cp).mono ?_
          rintro _ W5 ⟨v5, rfl, Q5, N5⟩
          have M5 : New wc W5 := M4.trans N5
          refine ⟨_, rfl, ⟨⟨W5, M5⟩, rfl⟩, ?_⟩
          simp only [Act.put, List.setIfInBounds_toArray, List.set_cons_zero, List.set_cons_succ]
          clear cp
          unfold wpSegs
          simp only [pick]
          refine wpQuiet_nil ?_
          refine wpOp_call (some 195) 27 #[v4, v5] (by rfl) (by rfl) (by rfl) (by go_simp) ?_
          refine (ints_any (Q4.after N5) Q5 hd5).mono ?_
          rintro _ W6 ⟨rfl, N6⟩
          have M6 : New wc W6 := M5.trans N6
          refine ⟨_, rfl, ⟨⟨W6, M6⟩, rfl⟩, ?_⟩
          simp only [Act.put, List.setIfInBounds_toArray, List.set_cons_zero, List.set_cons_succ]
          clear Q4 Q5
          unfold wpSegs
          simp only [pick, List.getElem?_cons_succ, List.getElem?_cons_zero, Option.toList_some, List.cons_append, List.nil_append]
          iterate 8 (go_big_quiet_step (fail))
          refine wpQuiet_nil ?_
          clear q2
          refine wpOp_call (some 200) 32 #[.pointer (some ⟨q, 0, none⟩)] (by rfl) (by rfl) (by rfl) (by go_simp) ?_
          refine (waiting_any (HB5.out.1.P.bits.disk.after M6)).mono ?_
          rintro _ W7 ⟨v7, rfl, Q7, N7⟩
          have M7 : New wc W7 := M6.trans N7
          obtain ⟨a7, c7, hv, _⟩ := Q7.form
          rw [List.length_map] at hv
          subst hv
          refine ⟨_, rfl, ⟨⟨W7, M7⟩, rfl⟩, ?_⟩
          simp only [Act.put, List.setIfInBounds_toArray, List.set_cons_zero, List.set_cons_succ]
          unfold wpSegs
          simp only [pick]
          refine wpQuiet_nil ?_
          refine wpOp_call (some 205) 31 #[.slice a7 S5.d.ws.length c7, .slice b2 S5.d.ws.length d2] (by rfl) (by rfl) (by rfl) (by go_simp) ?_
          refine (writes_same a7 b2 c7 d2 S5.d.ws Q7 (HP2.out.after M7) hfew5).mono ?_
          rintro _ W8 ⟨rfl, N8⟩
          have M8 := M7.trans N8
          clear Q7
          refine ⟨_, rfl, ⟨⟨W8, M8⟩, rfl⟩, ?_⟩
          simp only [Act.put, List.setIfInBounds_toArray, List.set_cons_zero, List.set_cons_succ]
          unfold wpSegs
          simp only [pick, List.getElem?_cons_succ, List.getElem?_cons_zero, Option.toList_some, List.cons_append, List.nil_append]
          iterate 1 (go_big_quiet_step (fail))
          refine wpQuiet_nil ?_
          refine wpOp_run (some 207) (.bool false) W8 (by rfl) (by rfl) (by rfl) (by go_simp) ⟨⟨⟨W8, M8⟩, rfl⟩, ?_⟩
          simp only [Act.put, List.setIfInBounds_toArray, List.set_cons_zero, List.set_cons_succ]
          unfold wpSegs
          have HF : Hid (TwoP w p g b q p' g' c' q' (i + 1) W8) := ⟨_, _, _, _, HB5.out.2, HB5.out.1.new M8⟩
          clear hne N1 N2 N3 N4 N5 N6 N7 N8 M1 M2 M3 M4 M5 M6 M7 M8
          go_wp2_with fail
          exact ⟨⟨i + 1, by go_num, by omega, HF.out⟩, by simp [intOf]; omega⟩
      · obtain rfl : i = l.length := by omega
        have HE : Hid (Duo w wr (4 * l.length) p g b q p' g' c' q' F G S T ∧ LikeP S T) := ⟨B, hLk⟩
        have cp := pages_any B.P.bits.disk
        have h200 : (latest S.d.ps S.d.ws).length ≤ 200 := by rw [latest_length]; exact Nat.le_trans B.P.bits.disk.ok.len B.P.bits.disk.ok.lim
        clear B hLk
        go_wp2_with fail
        refine cp.mono ?_
        rintro _ W2 ⟨v2, rfl, Q2, M2⟩
        clear cp
        have cp := refpages_any (HE.out.1.R.disk.after M2)
        rw [HE.out.2.d.ps, HE.out.2.d.ws] at cp
        generalize latest S.d.ps S.d.ws = ts at Q2 cp h200
        go_wp2_with fail
        refine cp.mono ?_
        rintro _ W3 ⟨v5, rfl, Q5, N5⟩
        have M3 := M2.trans N5
        have Q2' := Q2.after N5
        obtain ⟨a2, c2, hv2, _⟩ := Q2'.form
        obtain ⟨a5, c5, hv5, _⟩ := Q5.form
        rw [List.length_map] at hv2 hv5
        subst hv2
        subst hv5
        have ct := texts_any W3 a2 a5 c2 c5 (ts.map bs) (ts.map bs) (texts_of Q2').1 (texts_of Q5).1 (by rw [List.length_map]; omega)
        rw [decide_eq_true rfl, List.length_map] at ct
        clear cp Q2 N5 Q2' Q5
        go_wp2_with fail
        refine ct.mono ?_
        rintro _ W4 ⟨rfl, N4⟩
        have M4 := M3.trans N4
        clear ct
        go_wp2_with fail
        refine (wakes8 W4 (HE.out.1.P.bits.tab.after M4)).mono ?_
        rintro _ W5 ⟨rfl, N5⟩
        have HF : Hid (New w W5) := (HE.out.1.new (M4.trans N5)).toNew
        clear M2 M3 M4 N4 N5
        go_wp2_with fail
        go_ret
        exact ⟨rfl, HF.out⟩
  · have h1 : fr < 1 ∨ 64 < fr := by omega
    have hnp := newpool_no (w := w4) q fr h1
    have hnr := rnew_no (w := w4) q' fr h1
    have N4 := HD.out.2.2.1
    clear HD
    go_wp2_with fail
    refine hnp.mono ?_
    rintro _ w5 ⟨rfl, rfl⟩
    clear hnp
    go_wp2_with fail
    refine hnr.mono ?_
    rintro _ w6 ⟨rfl, rfl⟩
    clear hnr
    go_wp2_with fail
    refine (wakes8 _ (HT.out.after N4)).mono ?_
    rintro _ w7 ⟨rfl, N7⟩
    go_wp2_with fail
    go_ret
    exact ⟨rfl, N4.trans N7⟩
end Go.Proofs.YtkcoclpbkealgaaDoor
