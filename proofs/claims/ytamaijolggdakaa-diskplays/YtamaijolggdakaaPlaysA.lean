/-
  DiskPlays walked: a disk's calls, one behind the other: each answer, all pages, what waits.
-/
import Derived.Test.YtamaijolggdakaaLike
import Derived.Deep.CutRange
import Derived.Deep.CutBlock
namespace Go.Proofs.Ytamaijolggdakaa
open Go.RowKit

/-- Both disks, alike, behind so many calls. -/
def Two (w : World) (p q lim n : Nat) (wx : World) : Prop := ∃ S R F G, Like S R ∧ S.lim = lim ∧ S.ws.length ≤ n ∧ Both w wx p q S R F G

set_option maxRecDepth 40000 in
set_option maxHeartbeats 8000000 in
theorem plays_walk (lim : Int) (a : Option Addr) (c : Nat) (l : List Ask1) (w : World) (hP : Steps w a l) (hl : l.length ≤ 9223372036854775807) :
    Calls Try.prog 3 #[.int .i64 lim, .slice a l.length c] w fun e w' => e = .returned (.bool true) ∧ New w w' := by
  have HP : Hid (Steps w a l) := hP
  have hnew := new_any w lim
  clear hP
  by_cases hlim : 1 ≤ lim ∧ lim ≤ 200
  · obtain ⟨m, rfl⟩ : ∃ m : Nat, lim = (m : Int) := ⟨lim.toNat, by omega⟩
    rw [decide_eq_true hlim, Int.toNat_natCast] at hnew
    obtain ⟨hm1, hm2⟩ := hlim
    go_enter Try.func3, Try.ntmps3
    go_wp2_with fail
    refine hnew.mono ?_
    rintro _ w1 ⟨N1, p, F1, rfl, D1, hF1⟩
    have hrn := refnew_yes w1 (m : Int) hm1 hm2
    clear hnew
    go_wp2_with fail
    refine hrn.mono ?_
    rintro _ w2 ⟨rfl, N2, R2⟩
    have hpq := D1.lt
    have E2 : Rd w2 (fun b => b = w1.heap.size) w1.heap.size ⟨m, [], [], -1, false⟩ := by
      have hlt := R2.lt
      refine ⟨⟨(fun q h => by cases h), (fun q h => by cases h), by show m ≤ 200; omega, Nat.zero_le _, Nat.zero_le _, by show _ ≤ (-1 : Int); decide, by show (-1 : Int) ≤ _; decide⟩, rfl, (fun b hb => by rw [hb]; exact hlt), .slice none 0 0, .slice none 0 0, R2, Pl.nil _ _ _ _, Pl.nil _ _ _ _⟩
    have B2 : Both w w2 p w1.heap.size ⟨m, [], [], -1, false⟩ ⟨m, [], [], -1, false⟩ F1 (fun b => b = w1.heap.size) := by
      have A1 : Above w.heap.size w w1 F1 := ⟨N1, hF1, N1.size⟩
      refine ⟨D1.after N2, E2, fun b hb h => ?_, A1.new N2, ⟨(A1.new N2).below, (fun b hb => by rw [hb]; exact N1.size), (A1.new N2).size⟩⟩
      have := D1.inside b hb
      omega
    have T2 : Two w p w1.heap.size m 0 w2 := ⟨_, _, _, _, Like.new m, rfl, Nat.le_refl _, B2⟩
    clear hrn N1 D1 hF1 N2 R2 E2 B2 hpq
    generalize w1.heap.size = q at T2 ⊢
    by_cases h80 : 80 < l.length
    · go_wp2_with fail
      refine (wakes_any _).mono ?_
      rintro _ w3 ⟨rfl, N3⟩
      obtain ⟨S, R, F, G, _, _, _, B⟩ := T2
      go_wp2_with fail
      go_ret
      exact ⟨rfl, (B.AF.new N3).below⟩
    · have h80' : ¬ (80 : Int) < (l.length : Int) := by omega
      go_wp2_with fail
      go_loopw [9] (fun u wr => ∃ i : Nat, u = .int .i64 (i : Int) ∧ i ≤ l.length ∧ Two w p q m i wr) (fun u _ => l.length - (intOf u).toNat)
      case atStart => exact ⟨0, rfl, by omega, T2⟩
      case round =>
        clear T2
        obtain ⟨i, rfl, hi, S, R, F, G, hLk, hSl, hSw, B⟩ := hrel
        by_cases hil : i < l.length
        · have hil' : (i : Int) < (l.length : Int) := by omega
          obtain ⟨x, rfl, hx⟩ := HP.out (by omega)
          have hA := hx i hil
          clear hx
          generalize l.getD i ask0 = e at hA
          obtain ⟨ek, ez, eu, ea, ec, ecs⟩ := e
          have e0 := cell_below (j := i * 4) B.AF.below hA.c0 (Nat.le_refl _)
          have e1 := cell_below (j := 1) B.AF.below hA.c1 (Nat.le_refl _)
          have e2 := cell_below (j := 2) B.AF.below hA.c2 (Nat.le_refl _)
          have e3 := cell_below (j := 3) B.AF.below hA.c3 (Nat.le_refl _)
          have HA : Hid (Asked w (x.add (i * 4)) ⟨ek, ez, eu, ea, ec, ecs⟩) := hA
          simp only at e0 e1 e2 e3
          have e1' : wr.cell? ⟨(x.add (i * 4)).block, (x.add (i * 4)).off + 1, none⟩ = some (.int .i64 ez) := e1
          have e2' : wr.cell? ⟨(x.add (i * 4)).block, (x.add (i * 4)).off + 2, none⟩ = some (.int .u8 (eu.toNat : Int)) := e2
          have e3' : wr.cell? ⟨(x.add (i * 4)).block, (x.add (i * 4)).off + 3, none⟩ = some (.slice ea ecs.length ec) := e3
          clear hA e1 e2 e3
          have HB : Hid (Both w wr p q S R F G ∧ Like S R ∧ S.lim = m ∧ S.ws.length ≤ i) := ⟨B, hLk, hSl, hSw⟩
          clear B hLk hSl
          go_upto_block 2 with fail
          clear e0 e1' e2' e3'
          obtain ⟨g, hg⟩ : ∃ g, wr.heap.size = g := ⟨_, rfl⟩
          obtain ⟨W, hW, hNW, hRW⟩ : ∃ W, W = wr.alloc (.cells #[.int .i64 ek, .int .i64 ez, .int .u8 (eu.toNat : Int), .slice ea ecs.length ec] 32) ∧ New wr W ∧ Row W g #[.int .i64 ek, .int .i64 ez, .int .u8 (eu.toNat : Int), .slice ea ecs.length ec] 32 := ⟨_, rfl, (New.refl wr).alloc _, by rw [← hg]; exact Row.new wr _ _⟩
          rw [← hW, hg]
          have HW : Hid (Both w W p q S R F G ∧ Like S R ∧ S.lim = m ∧ S.ws.length ≤ i ∧ Row W g #[.int .i64 ek, .int .i64 ez, .int .u8 (eu.toNat : Int), .slice ea ecs.length ec] 32 ∧ ¬ F g ∧ ¬ G g ∧ w.heap.size ≤ g) := by
            obtain ⟨B, hLk, hSl, hSw⟩ := HB.out
            refine ⟨B.new hNW, hLk, hSl, hSw, hRW, fun h => ?_, fun h => ?_, by rw [← hg]; exact B.AF.size⟩
            · have := B.D.inside _ h
              omega
            · have := B.E.inside _ h
              omega
          clear hW hNW hRW HB hg
          go_cut [] from 55 to 202 (fun wx => Two w p q m (i + 1) wx)
          case first =>
            by_cases hk0_ : ek = 0
            · subst hk0_
              obtain ⟨B, hLk, hSl, hSw, RW, hFg, hGg, hwg⟩ := HW.out
              have x0 : W.cell? ⟨g, 0, none⟩ = some (.int .i64 0) := RW.cell 0
              have x1 : W.cell? ⟨g, 1, none⟩ = some (.int .i64 ez) := RW.cell 1
              have x2 : W.cell? ⟨g, 2, none⟩ = some (.int .u8 (eu.toNat : Int)) := RW.cell 2
              have x3 : W.cell? ⟨g, 3, none⟩ = some (.slice ea ecs.length ec) := RW.cell 3
              go_wp2_with fail
              refine region_segs [([0, 1, 2, 3, 4, 7, 8, 9, 10, 11], 5), ([], 6), ([], 12), ([], 13), ([], 14)] (HasRow g #[.int .i64 0, .int .i64 ez, .int .u8 (eu.toNat : Int), .slice ea ecs.length ec] 32) ⟨⟨W.drew, RW.after (New.drew W)⟩, rfl⟩ (by kernel_rfl) (by kernel_rfl) (fun d _ _ _ _ h => by cases d <;> exact h) ?_
              unfold wpSegs HasRow
              simp only [pick, List.getElem?_cons_succ, List.getElem?_cons_zero, Option.toList_some, List.cons_append, List.nil_append]
              have hne : Nonempty (RowW g #[.int .i64 0, .int .i64 ez, .int .u8 (eu.toNat : Int), .slice ea ecs.length ec] 32) := ⟨⟨W, RW⟩⟩
              have q1 : ∀ q : RowW g #[.int .i64 0, .int .i64 ez, .int .u8 (eu.toNat : Int), .slice ea ecs.length ec] 32, q.v.cell? ⟨g, 1, none⟩ = some (.int .i64 ez) := fun q => Row.cell (w := q.v) (g := g) q.h 1
              have q2 : ∀ q : RowW g #[.int .i64 0, .int .i64 ez, .int .u8 (eu.toNat : Int), .slice ea ecs.length ec] 32, q.v.cell? ⟨g, 2, none⟩ = some (.int .u8 (eu.toNat : Int)) := fun q => Row.cell (w := q.v) (g := g) q.h 2
              iterate 10 (go_big_quiet_step (fail))
              refine wpQuiet_nil ?_
              clear q1 q2 hne
              have B0 := B.new (New.drew W)
              have R0 := RW.after (New.drew W)
              clear x0 x1 x2 x3
              refine wpOp_call (some 74) 13 #[.int .u8 (eu.toNat : Int)] (by rfl) (by rfl) (by rfl) (by go_simp) ?_
              refine (fill_any eu _).mono ?_
              rintro _ W1 ⟨rfl, N1⟩
              have B1 := B0.new N1
              have R1 := R0.after N1
              refine ⟨_, rfl, ⟨⟨W1, R1⟩, rfl⟩, ?_⟩
              obtain ⟨hk1, hk2, hk3, hk4⟩ := hLk.write ez (fillL eu)
              simp only [Act.put, List.setIfInBounds_toArray, List.set_cons_zero, List.set_cons_succ]
              unfold wpSegs
              simp only [pick]
              refine wpQuiet_nil ?_
              have c1 := write_any B1.D ez (bs (fillL eu)) (by omega)
              rw [L_bs] at c1
              generalize (S.write ez (fillL eu)).2 = S1 at hk2 hk3 hk4 c1
              generalize (S.write ez (fillL eu)).1 = r at hk1 c1
              refine wpOp_call (some 75) 12 #[.pointer (some ⟨p, 0, none⟩), .int .i64 ez, .string (bs (fillL eu))] (by rfl) (by rfl) (by rfl) (by go_simp) ?_
              refine (c1).mono ?_
              rintro _ W2 ⟨rfl, F_, D_, T_⟩
              have B2 := B1.left D_ T_
              obtain ⟨R2, hFg2⟩ := R1.beside T_ hFg
              clear D_ T_
              refine ⟨_, rfl, ⟨⟨W2, R2⟩, rfl⟩, ?_⟩
              simp only [Act.put, List.setIfInBounds_toArray, List.set_cons_zero, List.set_cons_succ]
              unfold wpSegs
              simp only [pick]
              refine wpQuiet_nil ?_
              refine wpOp_call (some 81) 13 #[.int .u8 (eu.toNat : Int)] (by rfl) (by rfl) (by rfl) (by go_simp) ?_
              refine (fill_any eu _).mono ?_
              rintro _ W3 ⟨rfl, N3⟩
              have B3 := B2.new N3
              have R3 := R2.after N3
              refine ⟨_, rfl, ⟨⟨W3, R3⟩, rfl⟩, ?_⟩
              simp only [Act.put, List.setIfInBounds_toArray, List.set_cons_zero, List.set_cons_succ]
              unfold wpSegs
              simp only [pick]
              refine wpQuiet_nil ?_
              have c3 := refwrite_any B3.E ez (bs (fillL eu)) (by rw [hLk.ws]; omega)
              rw [L_bs, hk1] at c3
              refine wpOp_call (some 82) 14 #[.pointer (some ⟨q, 0, none⟩), .int .i64 ez, .string (bs (fillL eu))] (by rfl) (by rfl) (by rfl) (by go_simp) ?_
              refine (c3).mono ?_
              rintro _ W4 ⟨rfl, G_, E_, K_⟩
              have B4 := B3.right E_ K_
              obtain ⟨R4, hGg4⟩ := R3.beside K_ hGg
              clear E_ K_
              refine ⟨_, rfl, ⟨⟨W4, R4⟩, rfl⟩, ?_⟩
              simp only [Act.put, List.setIfInBounds_toArray, List.set_cons_zero, List.set_cons_succ]
              unfold wpSegs
              simp only [pick]
              refine wpQuiet_nil ?_
              refine wpOp_run (some 83) (.bool false) W4 (by rfl) (by rfl) (by rfl) (by go_simp) ⟨⟨⟨W4, R4⟩, rfl⟩, ?_⟩
              simp only [Act.put, List.setIfInBounds_toArray, List.set_cons_zero, List.set_cons_succ]
              unfold wpSegs
              have HF : Hid (Two w p q m (i + 1) W4) := ⟨_, _, _, _, hk2, hk3.trans hSl, by omega, B4⟩
              clear B4 R4
              go_wp2_with fail
              go_meet
              exact HF.out
            by_cases hk1_ : ek = 1
            · subst hk1_
              obtain ⟨B, hLk, hSl, hSw, RW, hFg, hGg, hwg⟩ := HW.out
              have x0 : W.cell? ⟨g, 0, none⟩ = some (.int .i64 1) := RW.cell 0
              have x1 : W.cell? ⟨g, 1, none⟩ = some (.int .i64 ez) := RW.cell 1
              have x2 : W.cell? ⟨g, 2, none⟩ = some (.int .u8 (eu.toNat : Int)) := RW.cell 2
              have x3 : W.cell? ⟨g, 3, none⟩ = some (.slice ea ecs.length ec) := RW.cell 3
              have c1 := read_any B.D ez
              have c2 : ∀ n : NewW W, Calls Try.prog 16 #[.pointer (some ⟨q, 0, none⟩), .int .i64 ez] n.v fun e w' => e = .returned (.tuple #[.string (bs (S.read ez).2), .int .i64 (S.read ez).1]) ∧ w' = n.v := fun n => by
                have := refread_any (B.E.after n.h) ez
                rw [hLk.read] at this
                exact this
              generalize bs (S.read ez).2 = st at c1 c2
              generalize (S.read ez).1 = r at c1 c2
              have hz : (st.toList == st.toList) = true := by simp
              go_wp2_with fail
              refine c1.mono ?_
              rintro _ W1 ⟨rfl, N1⟩
              have y1 := (N1.cell (World.block_lt_of_cell? _ _ x1)).trans x1
              have c3 := c2 ⟨W1, N1⟩
              simp only at c3
              clear c1 c2 x0 x1 x2 x3
              go_wp2_with fail
              refine c3.mono ?_
              rintro _ W2 ⟨rfl, rfl⟩
              clear c3 y1
              have HF : Hid (Two w p q m (i + 1) W2) := ⟨_, _, _, _, hLk, hSl, by omega, B.new N1⟩
              clear B RW
              go_wp2_with fail
              go_meet
              exact HF.out
            by_cases hk2_ : ek = 2
            · subst hk2_
              obtain ⟨B, hLk, hSl, hSw, RW, hFg, hGg, hwg⟩ := HW.out
              have x0 : W.cell? ⟨g, 0, none⟩ = some (.int .i64 2) := RW.cell 0
              have x1 : W.cell? ⟨g, 1, none⟩ = some (.int .i64 ez) := RW.cell 1
              have x2 : W.cell? ⟨g, 2, none⟩ = some (.int .u8 (eu.toNat : Int)) := RW.cell 2
              have x3 : W.cell? ⟨g, 3, none⟩ = some (.slice ea ecs.length ec) := RW.cell 3
              obtain ⟨hk1, hk2, hk3, hk4⟩ := hLk.sync
              have c1 := sync_any B.D
              generalize S.sync.2 = S1 at hk2 hk3 hk4 c1
              generalize S.sync.1 = r at hk1 c1
              go_wp2_with fail
              refine c1.mono ?_
              rintro _ W1 ⟨rfl, F1, D1, T1⟩
              have B1 := B.left D1 T1
              have c2 := refsync_any B1.E
              rw [hk1] at c2
              clear c1 D1 T1 x0 x1 x2 x3
              go_wp2_with fail
              refine c2.mono ?_
              rintro _ W2 ⟨rfl, G2, E2, K2⟩
              have HF : Hid (Two w p q m (i + 1) W2) := ⟨_, _, _, _, hk2, hk3.trans hSl, by omega, B1.right E2 K2⟩
              clear c2 E2 K2 B1 B RW
              go_wp2_with fail
              go_meet
              exact HF.out
            by_cases hk3_ : ek = 3
            · subst hk3_
              obtain ⟨B, hLk, hSl, hSw, RW, hFg, hGg, hwg⟩ := HW.out
              have x0 : W.cell? ⟨g, 0, none⟩ = some (.int .i64 3) := RW.cell 0
              have x1 : W.cell? ⟨g, 1, none⟩ = some (.int .i64 ez) := RW.cell 1
              have x2 : W.cell? ⟨g, 2, none⟩ = some (.int .u8 (eu.toNat : Int)) := RW.cell 2
              have x3 : W.cell? ⟨g, 3, none⟩ = some (.slice ea ecs.length ec) := RW.cell 3
              go_wp2_with fail
              refine region_segs [([0, 1, 2, 4, 5, 6], 3), ([], 7), ([], 8)] (HasRow g #[.int .i64 3, .int .i64 ez, .int .u8 (eu.toNat : Int), .slice ea ecs.length ec] 32) ⟨⟨W.drew, RW.after (New.drew W)⟩, rfl⟩ (by kernel_rfl) (by kernel_rfl) (fun d _ _ _ _ h => by cases d <;> exact h) ?_
              unfold wpSegs HasRow
              simp only [pick, List.getElem?_cons_succ, List.getElem?_cons_zero, Option.toList_some, List.cons_append, List.nil_append]
              have hne : Nonempty (RowW g #[.int .i64 3, .int .i64 ez, .int .u8 (eu.toNat : Int), .slice ea ecs.length ec] 32) := ⟨⟨W, RW⟩⟩
              have q1 : ∀ q : RowW g #[.int .i64 3, .int .i64 ez, .int .u8 (eu.toNat : Int), .slice ea ecs.length ec] 32, q.v.cell? ⟨g, 1, none⟩ = some (.int .i64 ez) := fun q => Row.cell (w := q.v) (g := g) q.h 1
              have q2 : ∀ q : RowW g #[.int .i64 3, .int .i64 ez, .int .u8 (eu.toNat : Int), .slice ea ecs.length ec] 32, q.v.cell? ⟨g, 2, none⟩ = some (.int .u8 (eu.toNat : Int)) := fun q => Row.cell (w := q.v) (g := g) q.h 2
              iterate 6 (go_big_quiet_step (fail))
              refine wpQuiet_nil ?_
              clear q1 q2 hne
              have B0 := B.new (New.drew W)
              have R0 := RW.after (New.drew W)
              clear x0 x1 x2 x3
              obtain ⟨hk1, hk2, hk3, hk4⟩ := hLk.grow ez
              have c1 := grow_any B0.D ez
              generalize (S.grow ez).2 = S1 at hk2 hk3 hk4 c1
              generalize (S.grow ez).1 = r at hk1 c1
              refine wpOp_call (some 120) 19 #[.pointer (some ⟨p, 0, none⟩), .int .i64 ez] (by rfl) (by rfl) (by rfl) (by go_simp) ?_
              refine (c1).mono ?_
              rintro _ W2 ⟨rfl, F_, D_, T_⟩
              have B2 := B0.left D_ T_
              obtain ⟨R2, hFg2⟩ := R0.beside T_ hFg
              clear D_ T_
              refine ⟨_, rfl, ⟨⟨W2, R2⟩, rfl⟩, ?_⟩
              simp only [Act.put, List.setIfInBounds_toArray, List.set_cons_zero, List.set_cons_succ]
              unfold wpSegs
              simp only [pick]
              refine wpQuiet_nil ?_
              have c3 := refgrow_any B2.E ez
              rw [hk1] at c3
              refine wpOp_call (some 124) 20 #[.pointer (some ⟨q, 0, none⟩), .int .i64 ez] (by rfl) (by rfl) (by rfl) (by go_simp) ?_
              refine (c3).mono ?_
              rintro _ W4 ⟨rfl, G_, E_, K_⟩
              have B4 := B2.right E_ K_
              obtain ⟨R4, hGg4⟩ := R2.beside K_ hGg
              clear E_ K_
              refine ⟨_, rfl, ⟨⟨W4, R4⟩, rfl⟩, ?_⟩
              simp only [Act.put, List.setIfInBounds_toArray, List.set_cons_zero, List.set_cons_succ]
              unfold wpSegs
              simp only [pick]
              refine wpQuiet_nil ?_
              refine wpOp_run (some 125) (.bool false) W4 (by rfl) (by rfl) (by rfl) (by go_simp) ⟨⟨⟨W4, R4⟩, rfl⟩, ?_⟩
              simp only [Act.put, List.setIfInBounds_toArray, List.set_cons_zero, List.set_cons_succ]
              unfold wpSegs
              have HF : Hid (Two w p q m (i + 1) W4) := ⟨_, _, _, _, hk2, hk3.trans hSl, by omega, B4⟩
              clear B4 R4
              go_wp2_with fail
              go_meet
              exact HF.out
            by_cases hk4_ : ek = 4
            · subst hk4_
              obtain ⟨B, hLk, hSl, hSw, RW, hFg, hGg, hwg⟩ := HW.out
              have x0 : W.cell? ⟨g, 0, none⟩ = some (.int .i64 4) := RW.cell 0
              have x1 : W.cell? ⟨g, 1, none⟩ = some (.int .i64 ez) := RW.cell 1
              have x2 : W.cell? ⟨g, 2, none⟩ = some (.int .u8 (eu.toNat : Int)) := RW.cell 2
              have x3 : W.cell? ⟨g, 3, none⟩ = some (.slice ea ecs.length ec) := RW.cell 3
              go_wp2_with fail
              refine region_segs [([0, 1, 2, 4, 5, 6], 3), ([], 7), ([], 8)] (HasRow g #[.int .i64 4, .int .i64 ez, .int .u8 (eu.toNat : Int), .slice ea ecs.length ec] 32) ⟨⟨W.drew, RW.after (New.drew W)⟩, rfl⟩ (by kernel_rfl) (by kernel_rfl) (fun d _ _ _ _ h => by cases d <;> exact h) ?_
              unfold wpSegs HasRow
              simp only [pick, List.getElem?_cons_succ, List.getElem?_cons_zero, Option.toList_some, List.cons_append, List.nil_append]
              have hne : Nonempty (RowW g #[.int .i64 4, .int .i64 ez, .int .u8 (eu.toNat : Int), .slice ea ecs.length ec] 32) := ⟨⟨W, RW⟩⟩
              have q1 : ∀ q : RowW g #[.int .i64 4, .int .i64 ez, .int .u8 (eu.toNat : Int), .slice ea ecs.length ec] 32, q.v.cell? ⟨g, 1, none⟩ = some (.int .i64 ez) := fun q => Row.cell (w := q.v) (g := g) q.h 1
              have q2 : ∀ q : RowW g #[.int .i64 4, .int .i64 ez, .int .u8 (eu.toNat : Int), .slice ea ecs.length ec] 32, q.v.cell? ⟨g, 2, none⟩ = some (.int .u8 (eu.toNat : Int)) := fun q => Row.cell (w := q.v) (g := g) q.h 2
              iterate 6 (go_big_quiet_step (fail))
              refine wpQuiet_nil ?_
              clear q1 q2 hne
              have B0 := B.new (New.drew W)
              have R0 := RW.after (New.drew W)
              clear x0 x1 x2 x3
              obtain ⟨hk1, hk2, hk3, hk4⟩ := hLk.shrink ez
              have c1 := shrink_any B0.D ez
              generalize (S.shrink ez).2 = S1 at hk2 hk3 hk4 c1
              generalize (S.shrink ez).1 = r at hk1 c1
              refine wpOp_call (some 131) 21 #[.pointer (some ⟨p, 0, none⟩), .int .i64 ez] (by rfl) (by rfl) (by rfl) (by go_simp) ?_
              refine (c1).mono ?_
              rintro _ W2 ⟨rfl, F_, D_, T_⟩
              have B2 := B0.left D_ T_
              obtain ⟨R2, hFg2⟩ := R0.beside T_ hFg
              clear D_ T_
              refine ⟨_, rfl, ⟨⟨W2, R2⟩, rfl⟩, ?_⟩
              simp only [Act.put, List.setIfInBounds_toArray, List.set_cons_zero, List.set_cons_succ]
              unfold wpSegs
              simp only [pick]
              refine wpQuiet_nil ?_
              have c3 := refshrink_any B2.E ez
              rw [hk1] at c3
              refine wpOp_call (some 135) 22 #[.pointer (some ⟨q, 0, none⟩), .int .i64 ez] (by rfl) (by rfl) (by rfl) (by go_simp) ?_
              refine (c3).mono ?_
              rintro _ W4 ⟨rfl, G_, E_, K_⟩
              have B4 := B2.right E_ K_
              obtain ⟨R4, hGg4⟩ := R2.beside K_ hGg
              clear E_ K_
              refine ⟨_, rfl, ⟨⟨W4, R4⟩, rfl⟩, ?_⟩
              simp only [Act.put, List.setIfInBounds_toArray, List.set_cons_zero, List.set_cons_succ]
              unfold wpSegs
              simp only [pick]
              refine wpQuiet_nil ?_
              refine wpOp_run (some 136) (.bool false) W4 (by rfl) (by rfl) (by rfl) (by go_simp) ⟨⟨⟨W4, R4⟩, rfl⟩, ?_⟩
              simp only [Act.put, List.setIfInBounds_toArray, List.set_cons_zero, List.set_cons_succ]
              unfold wpSegs
              have HF : Hid (Two w p q m (i + 1) W4) := ⟨_, _, _, _, hk2, hk3.trans hSl, by omega, B4⟩
              clear B4 R4
              go_wp2_with fail
              go_meet
              exact HF.out
            by_cases hk5_ : ek = 5
            · subst hk5_
              obtain ⟨B, hLk, hSl, hSw, RW, hFg, hGg, hwg⟩ := HW.out
              have x0 : W.cell? ⟨g, 0, none⟩ = some (.int .i64 5) := RW.cell 0
              have x1 : W.cell? ⟨g, 1, none⟩ = some (.int .i64 ez) := RW.cell 1
              have x2 : W.cell? ⟨g, 2, none⟩ = some (.int .u8 (eu.toNat : Int)) := RW.cell 2
              have x3 : W.cell? ⟨g, 3, none⟩ = some (.slice ea ecs.length ec) := RW.cell 3
              obtain ⟨hk2, hk3, hk4⟩ := hLk.setFuse ez
              have c1 := fuse_any B.D ez HA.out.lo HA.out.hi
              go_wp2_with fail
              refine c1.mono ?_
              rintro _ W1 ⟨rfl, D1, T1⟩
              have B1 := B.left D1 T1
              obtain ⟨R1, _⟩ := RW.beside T1 hFg
              have y1 : W1.cell? ⟨g, 1, none⟩ = some (.int .i64 ez) := R1.cell 1
              have c2 := reffuse_any B1.E ez HA.out.hi
              clear c1 D1 T1 x0 x1 x2 x3
              go_wp2_with fail
              refine c2.mono ?_
              rintro _ W2 ⟨rfl, E2, K2⟩
              have HF : Hid (Two w p q m (i + 1) W2) := ⟨_, _, _, _, hk2, hk3.trans hSl, by omega, B1.right E2 K2⟩
              clear c2 E2 K2 B1 B RW R1
              go_wp2_with fail
              go_meet
              exact HF.out
            by_cases hk6_ : ek = 6
            · subst hk6_
              obtain ⟨B, hLk, hSl, hSw, RW, hFg, hGg, hwg⟩ := HW.out
              have x0 : W.cell? ⟨g, 0, none⟩ = some (.int .i64 6) := RW.cell 0
              have x1 : W.cell? ⟨g, 1, none⟩ = some (.int .i64 ez) := RW.cell 1
              have x2 : W.cell? ⟨g, 2, none⟩ = some (.int .u8 (eu.toNat : Int)) := RW.cell 2
              have x3 : W.cell? ⟨g, 3, none⟩ = some (.slice ea ecs.length ec) := RW.cell 3
              obtain ⟨hk2, hk3, hk4⟩ := hLk.crash ecs
              have hlen := HA.out.len
              have HBy : Hid (Bytes w ea ecs) := HA.out.by_
              simp only at hlen
              obtain ⟨v, Wc, hr, Q, N⟩ := run_copied_wide W 30 5 30 (.int .u8 0) 1 Try.underlying30 info5 rfl ea ec (cellsL ecs) (bytes_cells (HBy.out.below B.AF.below (Nat.le_refl _))) (cellsL_one _) (by rw [cellsL_length, Nat.mul_one]; omega) (by rw [cellsL_length]; unfold maxLen; omega)
              rw [cellsL_length] at hr
              obtain ⟨ca, cc, hv, _⟩ := Q.form
              rw [List.length_map, cellsL_length] at hv
              subst hv
              have B1 := B.new N
              have R1 := RW.after N
              have hFc : 0 < ecs.length → ∀ x, ca = some x → ¬ F x.block := fun h0 x hx hFx => by
                subst hx
                have h4 := Q.foot x.block rfl
                unfold Fresh at h4
                have h5 := B.D.inside _ hFx
                omega
              have cr := crash_more B1.D ca cc ecs (Pl.bytes Q).1 hFc (by omega)
              clear Q hFc
              have hgl : g < W.heap.size := RW.lt
              have x3a : (W.alloc (.cells #[] 5)).cell? ⟨g, 3, none⟩ = some (.slice ea ecs.length ec) := (((New.refl W).alloc _).cell (p := ⟨g, 3, none⟩) hgl).trans x3
              go_wp2_with (refine wpList_appends (by rfl) _ _ 30 30 _ _ _ Wc (by rfl) (by rfl) (by rfl) (by rfl) hr ?_)
              refine cr.mono ?_
              rintro _ W2 ⟨rfl, F2, D2, T2⟩
              have B2 := B1.left D2 T2
              obtain ⟨R2, _⟩ := R1.beside T2 hFg
              have y3 : W2.cell? ⟨g, 3, none⟩ = some (.slice ea ecs.length ec) := R2.cell 3
              have cr2 := refcrash_any B2.E ea ec ecs (HBy.out.below B2.AF.below (Nat.le_refl _)) (fun h0 x hx hGx => by
                have h4 := HBy.out.block h0 x hx
                have h5 := B2.AG.foot _ hGx
                omega) (by omega)
              clear cr D2 T2 x0 x1 x2 x3 hr x3a
              go_wp2_with fail
              refine cr2.mono ?_
              rintro _ W3 ⟨rfl, G3, E3, K3⟩
              have HF : Hid (Two w p q m (i + 1) W3) := ⟨_, _, _, _, hk2, hk3.trans hSl, by omega, B2.right E3 K3⟩
              clear cr2 E3 K3 B2 B1 B RW R1 R2
              go_wp2_with fail
              go_meet
              exact HF.out
            by_cases hk7_ : ek = 7
            · subst hk7_
              obtain ⟨B, hLk, hSl, hSw, RW, hFg, hGg, hwg⟩ := HW.out
              have x0 : W.cell? ⟨g, 0, none⟩ = some (.int .i64 7) := RW.cell 0
              have x1 : W.cell? ⟨g, 1, none⟩ = some (.int .i64 ez) := RW.cell 1
              have x2 : W.cell? ⟨g, 2, none⟩ = some (.int .u8 (eu.toNat : Int)) := RW.cell 2
              have x3 : W.cell? ⟨g, 3, none⟩ = some (.slice ea ecs.length ec) := RW.cell 3
              go_wp2_with fail
              refine region_segs [([0, 1, 2, 4, 5, 6], 3), ([], 7), ([], 8)] (HasRow g #[.int .i64 7, .int .i64 ez, .int .u8 (eu.toNat : Int), .slice ea ecs.length ec] 32) ⟨⟨W.drew, RW.after (New.drew W)⟩, rfl⟩ (by kernel_rfl) (by kernel_rfl) (fun d _ _ _ _ h => by cases d <;> exact h) ?_
              unfold wpSegs HasRow
              simp only [pick, List.getElem?_cons_succ, List.getElem?_cons_zero, Option.toList_some, List.cons_append, List.nil_append]
              have hne : Nonempty (RowW g #[.int .i64 7, .int .i64 ez, .int .u8 (eu.toNat : Int), .slice ea ecs.length ec] 32) := ⟨⟨W, RW⟩⟩
              have q1 : ∀ q : RowW g #[.int .i64 7, .int .i64 ez, .int .u8 (eu.toNat : Int), .slice ea ecs.length ec] 32, q.v.cell? ⟨g, 1, none⟩ = some (.int .i64 ez) := fun q => Row.cell (w := q.v) (g := g) q.h 1
              have q2 : ∀ q : RowW g #[.int .i64 7, .int .i64 ez, .int .u8 (eu.toNat : Int), .slice ea ecs.length ec] 32, q.v.cell? ⟨g, 2, none⟩ = some (.int .u8 (eu.toNat : Int)) := fun q => Row.cell (w := q.v) (g := g) q.h 2
              iterate 6 (go_big_quiet_step (fail))
              refine wpQuiet_nil ?_
              clear q1 q2 hne
              have B0 := B.new (New.drew W)
              have R0 := RW.after (New.drew W)
              clear x0 x1 x2 x3
              obtain ⟨hk1, hk2, hk3, hk4⟩ := hLk.write ez (L ⟨#[120]⟩)
              have c1 := write_any B0.D ez ⟨#[120]⟩ (by omega)
              generalize (S.write ez (L ⟨#[120]⟩)).2 = S1 at hk2 hk3 hk4 c1
              generalize (S.write ez (L ⟨#[120]⟩)).1 = r at hk1 c1
              refine wpOp_call (some 165) 12 #[.pointer (some ⟨p, 0, none⟩), .int .i64 ez, .string ⟨#[120]⟩] (by rfl) (by rfl) (by rfl) (by go_simp) ?_
              refine (c1).mono ?_
              rintro _ W2 ⟨rfl, F_, D_, T_⟩
              have B2 := B0.left D_ T_
              obtain ⟨R2, hFg2⟩ := R0.beside T_ hFg
              clear D_ T_
              refine ⟨_, rfl, ⟨⟨W2, R2⟩, rfl⟩, ?_⟩
              simp only [Act.put, List.setIfInBounds_toArray, List.set_cons_zero, List.set_cons_succ]
              unfold wpSegs
              simp only [pick]
              refine wpQuiet_nil ?_
              have c3 := refwrite_any B2.E ez ⟨#[120]⟩ (by rw [hLk.ws]; omega)
              rw [hk1] at c3
              refine wpOp_call (some 169) 14 #[.pointer (some ⟨q, 0, none⟩), .int .i64 ez, .string ⟨#[120]⟩] (by rfl) (by rfl) (by rfl) (by go_simp) ?_
              refine (c3).mono ?_
              rintro _ W4 ⟨rfl, G_, E_, K_⟩
              have B4 := B2.right E_ K_
              obtain ⟨R4, hGg4⟩ := R2.beside K_ hGg
              clear E_ K_
              refine ⟨_, rfl, ⟨⟨W4, R4⟩, rfl⟩, ?_⟩
              simp only [Act.put, List.setIfInBounds_toArray, List.set_cons_zero, List.set_cons_succ]
              unfold wpSegs
              simp only [pick]
              refine wpQuiet_nil ?_
              refine wpOp_run (some 170) (.bool false) W4 (by rfl) (by rfl) (by rfl) (by go_simp) ⟨⟨⟨W4, R4⟩, rfl⟩, ?_⟩
              simp only [Act.put, List.setIfInBounds_toArray, List.set_cons_zero, List.set_cons_succ]
              unfold wpSegs
              have HF : Hid (Two w p q m (i + 1) W4) := ⟨_, _, _, _, hk2, hk3.trans hSl, by omega, B4⟩
              clear B4 R4
              go_wp2_with fail
              go_meet
              exact HF.out
            obtain ⟨B, hLk, hSl, hSw, RW, hFg, hGg, hwg⟩ := HW.out
            have x0 : W.cell? ⟨g, 0, none⟩ = some (.int .i64 ek) := RW.cell 0
            have x1 : W.cell? ⟨g, 1, none⟩ = some (.int .i64 ez) := RW.cell 1
            have x2 : W.cell? ⟨g, 2, none⟩ = some (.int .u8 (eu.toNat : Int)) := RW.cell 2
            have x3 : W.cell? ⟨g, 3, none⟩ = some (.slice ea ecs.length ec) := RW.cell 3
            have HF : Hid (Two w p q m (i + 1) W) := ⟨_, _, _, _, hLk, hSl, by omega, B⟩
            clear B RW
            go_wp2_with fail
            go_meet
            exact HF.out
          case rest =>
            obtain ⟨S5, R5, F5, G5, hLk5, hSl5, hSw5, B5⟩ := hcut
            have HB5 : Hid (Both w wc p q S5 R5 F5 G5 ∧ Like S5 R5 ∧ S5.lim = m ∧ S5.ws.length ≤ i + 1) := ⟨B5, hLk5, hSl5, hSw5⟩
            obtain ⟨b1, d1, b2, d2, _, k1, k2, _, _, _, _, _, P2⟩ := B5.E.open
            rw [hLk5.ps] at k1
            rw [hLk5.ws] at k2 P2
            have HP2 : Hid (Pl wc (fun g => G5 g ∧ g ≠ q ∧ (Value.slice b1 R5.ps.length d1).ownBlock ≠ some g) 82 2 (.slice b2 S5.ws.length d2) (S5.ws.map tellL)) := P2
            have hfew5 := B5.D.ok.few
            have q1 : ∀ n : NewW wc, n.v.cell? ⟨q, 1, none⟩ = some (.slice b1 S5.ps.length d1) := fun n => NewW.cell k1 n
            have q2 : ∀ n : NewW wc, n.v.cell? ⟨q, 2, none⟩ = some (.slice b2 S5.ws.length d2) := fun n => NewW.cell k2 n
            have hne := NewW.ne wc
            clear B5 hLk5 hSl5 k1 k2 P2
            go_wp2_with fail
            refine region_segs [([0, 2, 3, 4, 5, 6], 1), ([7, 8, 9, 11], 10), ([12, 13, 14, 15, 17, 18, 19, 20], 16), ([], 21), ([22, 23, 24, 25, 27], 26), ([], 28), ([], 29), ([30], 31)] (fun w' => ∃ n : NewW wc, w' = n.v) ⟨⟨wc.drew, New.drew wc⟩, rfl⟩ (by kernel_rfl) (by kernel_rfl) (fun d _ _ _ _ h => by cases d <;> exact h) ?_
            unfold wpSegs
            simp only [pick, List.getElem?_cons_succ, List.getElem?_cons_zero, Option.toList_some, List.cons_append, List.nil_append]
            iterate 6 (go_big_quiet_step (fail))
            refine wpQuiet_nil ?_
            refine wpOp_call (some 172) 27 #[.pointer (some ⟨p, 0, none⟩)] (by rfl) (by rfl) (by rfl) (by go_simp) ?_
            refine (length_any (HB5.out.1.D.after (New.drew wc))).mono ?_
            rintro _ W1 ⟨rfl, rfl⟩
            refine ⟨_, rfl, ⟨⟨wc.drew, New.drew wc⟩, rfl⟩, ?_⟩
            simp only [Act.put, List.setIfInBounds_toArray, List.set_cons_zero, List.set_cons_succ]
            unfold wpSegs
            simp only [pick, List.getElem?_cons_succ, List.getElem?_cons_zero, Option.toList_some, List.cons_append, List.nil_append]
            iterate 4 (go_big_quiet_step (fail))
            refine wpQuiet_nil ?_
            have cl := limit_any (HB5.out.1.D.after (New.drew wc))
            rw [HB5.out.2.2.1] at cl
            refine wpOp_call (some 181) 28 #[.pointer (some ⟨p, 0, none⟩)] (by rfl) (by rfl) (by rfl) (by go_simp) ?_
            refine cl.mono ?_
            rintro _ W1 ⟨rfl, rfl⟩
            clear cl
            refine ⟨_, rfl, ⟨⟨wc.drew, New.drew wc⟩, rfl⟩, ?_⟩
            simp only [Act.put, List.setIfInBounds_toArray, List.set_cons_zero, List.set_cons_succ]
            unfold wpSegs
            simp only [pick, List.getElem?_cons_succ, List.getElem?_cons_zero, Option.toList_some, List.cons_append, List.nil_append]
            iterate 8 (go_big_quiet_step (fail))
            refine wpQuiet_nil ?_
            clear q1 q2
            refine wpOp_call (some 187) 30 #[.pointer (some ⟨p, 0, none⟩)] (by rfl) (by rfl) (by rfl) (by go_simp) ?_
            refine (waiting_any (HB5.out.1.D.after (New.drew wc))).mono ?_
            rintro _ W2 ⟨v2, rfl, Q2, N2⟩
            have M2 : New wc W2 := (New.drew wc).trans N2
            obtain ⟨a7, c7, hv, _⟩ := Q2.form
            rw [List.length_map] at hv
            subst hv
            refine ⟨_, rfl, ⟨⟨W2, M2⟩, rfl⟩, ?_⟩
            simp only [Act.put, List.setIfInBounds_toArray, List.set_cons_zero, List.set_cons_succ]
            unfold wpSegs
            simp only [pick]
            refine wpQuiet_nil ?_
            refine wpOp_call (some 192) 29 #[.slice a7 S5.ws.length c7, .slice b2 S5.ws.length d2] (by rfl) (by rfl) (by rfl) (by go_simp) ?_
            refine (writes_same a7 b2 c7 d2 S5.ws Q2 (HP2.out.after M2) hfew5).mono ?_
            rintro _ W3 ⟨rfl, N3⟩
            have M3 := M2.trans N3
            clear Q2 N3 N2
            refine ⟨_, rfl, ⟨⟨W3, M3⟩, rfl⟩, ?_⟩
            simp only [Act.put, List.setIfInBounds_toArray, List.set_cons_zero, List.set_cons_succ]
            unfold wpSegs
            simp only [pick, List.getElem?_cons_succ, List.getElem?_cons_zero, Option.toList_some, List.cons_append, List.nil_append]
            iterate 5 (go_big_quiet_step (fail))
            refine wpQuiet_nil ?_
            refine wpOp_call (some 197) 32 #[.pointer (some ⟨p, 0, none⟩)] (by rfl) (by rfl) (by rfl) (by go_simp) ?_
            refine (pages_any (HB5.out.1.D.after M3)).mono ?_
            rintro _ W4 ⟨v4, rfl, Q4, N4⟩
            have M4 := M3.trans N4
            have hsh : (latest S5.ps S5.ws).map textL = ((latest S5.ps S5.ws).map bs).map fun t => [Value.string t] := by rw [List.map_map]; rfl
            rw [hsh] at Q4
            obtain ⟨a8, c8, hv, _⟩ := Q4.form
            rw [List.length_map] at hv
            subst hv
            refine ⟨_, rfl, ⟨⟨W4, M4⟩, rfl⟩, ?_⟩
            simp only [Act.put, List.setIfInBounds_toArray, List.set_cons_zero, List.set_cons_succ]
            unfold wpSegs
            simp only [pick]
            refine wpQuiet_nil ?_
            have cp := refpages_any (HB5.out.1.E.after M4)
            rw [HB5.out.2.1.ps, HB5.out.2.1.ws, hsh] at cp
            have h63 : ((latest S5.ps S5.ws).map bs).length ≤ 200 := by
              rw [List.length_map, latest_length]
              exact Nat.le_trans HB5.out.1.D.ok.len HB5.out.1.D.ok.lim
            clear hsh
            generalize (latest S5.ps S5.ws).map bs = ts at Q4 cp h63 ⊢
            refine wpOp_call (some 199) 33 #[.pointer (some ⟨q, 0, none⟩)] (by rfl) (by rfl) (by rfl) (by go_simp) ?_
            refine cp.mono ?_
            rintro _ W5 ⟨v5, rfl, Q5, N5⟩
            have M5 := M4.trans N5
            obtain ⟨a9, c9, hv, _⟩ := Q5.form
            rw [List.length_map] at hv
            subst hv
            refine ⟨_, rfl, ⟨⟨W5, M5⟩, rfl⟩, ?_⟩
            simp only [Act.put, List.setIfInBounds_toArray, List.set_cons_zero, List.set_cons_succ]
            unfold wpSegs
            simp only [pick]
            refine wpQuiet_nil ?_
            have ct := texts_any W5 a8 a9 c8 c9 ts ts ((Pl.texts Q4).1.after N5) (Pl.texts Q5).1 (by omega)
            rw [decide_eq_true rfl] at ct
            clear cp Q4 Q5
            refine wpOp_call (some 200) 31 #[.slice a8 ts.length c8, .slice a9 ts.length c9] (by rfl) (by rfl) (by rfl) (by go_simp) ?_
            refine ct.mono ?_
            rintro _ W6 ⟨rfl, N6⟩
            have M6 := M5.trans N6
            clear ct
            refine ⟨_, rfl, ⟨⟨W6, M6⟩, rfl⟩, ?_⟩
            simp only [Act.put, List.setIfInBounds_toArray, List.set_cons_zero, List.set_cons_succ]
            unfold wpSegs
            simp only [pick, List.getElem?_cons_succ, List.getElem?_cons_zero, Option.toList_some, List.cons_append, List.nil_append]
            iterate 1 (go_big_quiet_step (fail))
            refine wpQuiet_nil ?_
            refine wpOp_run (some 202) (.bool false) W6 (by rfl) (by rfl) (by rfl) (by go_simp) ⟨⟨⟨W6, M6⟩, rfl⟩, ?_⟩
            simp only [Act.put, List.setIfInBounds_toArray, List.set_cons_zero, List.set_cons_succ]
            unfold wpSegs
            have HF : Hid (Two w p q m (i + 1) W6) := ⟨_, _, _, _, HB5.out.2.1, HB5.out.2.2.1, HB5.out.2.2.2, HB5.out.1.new M6⟩
            clear hne N4 N5 N6
            go_wp2_with fail
            exact ⟨⟨i + 1, by go_num, by omega, HF.out⟩, by simp [intOf]; omega⟩
        · obtain rfl : i = l.length := by omega
          go_wp2_with fail
          refine (wakes_any wr).mono ?_
          rintro _ w3 ⟨rfl, N3⟩
          go_wp2_with fail
          go_ret
          exact ⟨rfl, (B.AF.new N3).below⟩
  · rw [decide_eq_false hlim] at hnew
    have hrn := refnew_no
    by_cases h80 : 80 < l.length
    · go_enter Try.func3, Try.ntmps3
      go_wp2_with fail
      refine hnew.mono ?_
      rintro _ w1 ⟨N1, rfl⟩
      have hr1 := hrn w1 lim hlim
      clear hnew hrn
      go_wp2_with fail
      refine hr1.mono ?_
      rintro _ w2 ⟨rfl, rfl⟩
      clear hr1
      go_wp2_with fail
      refine (wakes_any _).mono ?_
      rintro _ w3 ⟨rfl, N3⟩
      go_wp2_with fail
      go_ret
      exact ⟨rfl, N1.trans N3⟩
    · have h80' : ¬ (80 : Int) < (l.length : Int) := by omega
      go_enter Try.func3, Try.ntmps3
      go_wp2_with fail
      refine hnew.mono ?_
      rintro _ w1 ⟨N1, rfl⟩
      have hr1 := hrn w1 lim hlim
      clear hnew hrn
      go_wp2_with fail
      refine hr1.mono ?_
      rintro _ w2 ⟨rfl, rfl⟩
      clear hr1
      go_wp2_with fail
      refine (wakes_any _).mono ?_
      rintro _ w3 ⟨rfl, N3⟩
      go_wp2_with fail
      go_ret
      exact ⟨rfl, N1.trans N3⟩

end Go.Proofs.Ytamaijolggdakaa
