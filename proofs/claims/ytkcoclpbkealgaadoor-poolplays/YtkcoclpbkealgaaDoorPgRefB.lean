/-
  What the document's own Put returns: a page's bytes, or nothing.
-/
import Derived.Test.YtkcoclpbkealgaaDoorPgRefA
namespace Go.Proofs.YtkcoclpbkealgaaDoor
open Go.RowKit
set_option maxRecDepth 20000

/-- make([]byte, n), and its text. -/
theorem make_noughts (m : Nat) (hm : m ≤ 1000) (w : World) : ∃ v W, (Instr.makeSlice 22 (.int .i64 (m : Int)) (.int .i64 (m : Int))).run Tryd.prog w = .ok v W ∧ (convert 22 9 v).run Tryd.prog W = .ok (.string (bs (List.replicate m 0))) W ∧ New w W := by
  obtain ⟨i0, hi0, hz0, hz1, hz2⟩ := info_parts info5
  obtain ⟨W, h1, h2, h3⟩ := run_make_full (P := Tryd.prog) w w.heap.size 22 5 i0 _ 1 Tryd.underlying22 hi0 hz0 hz1 .i64 .i64 m (by rw [hz2]; omega) (by unfold maxLen; omega) (Nat.le_refl _)
  refine ⟨_, W, h1, conv_own (B := w.heap.size) (n := m) (List.length_replicate ..) ?_, (New.refl w).grown h3 (fun _ h => by cases h)⟩
  have e : (madeCells (Value.int .u8 0).cells (m * 1)).toList = cellsL (List.replicate m 0) := by
    show (madeCells #[Value.int .u8 0] (m * 1)).toList = _
    rw [toList_madeCells_one, Nat.mul_one]
    unfold cellsL
    rw [List.map_replicate]
    rfl
  rw [e] at h2
  exact h2

set_option maxRecDepth 20000 in
set_option maxHeartbeats 2000000 in
theorem refPut_no (k a g : Int) (s : ByteArray) (h : ¬ Fits k a g (s.size : Int)) (w : World) :
    Calls Tryd.prog 49 #[.agg #[.int .i64 k, .int .i64 g, .string s], .int .i64 a] w fun e w' => e = .returned (.string ⟨#[]⟩) ∧ New w w' := by
  rcases not_fits h with h1 | ⟨h1, h2⟩ | ⟨h1, h2, h3⟩ | ⟨h1, h2, h3, h4⟩ | ⟨h1, h2, h3, h4, h5⟩ | ⟨h1, h2, h3, h4, h5, h6⟩ | ⟨h1, h2, h3, h4, h5, h6, h7⟩
  all_goals
    clear h
    go_enter Tryd.func49, Tryd.ntmps49
    go_wp2_with (refine wpList_box_at (by rfl) 2 (by rfl) 111 _ (by rfl) _ (by rfl) ?_; intro W1 R1 N1; have ha0 := R1.has 0 (by rfl); have ha1 := R1.has 1 (by rfl); have ha2 := R1.has 2 (by rfl))
    go_ret
    exact ⟨rfl, N1⟩

set_option maxRecDepth 20000 in
set_option maxHeartbeats 4000000 in
theorem refPut_yes (k n g : Nat) (hk1 : 1 ≤ k) (hk2 : k < 256) (hn : n < 65536) (hg : g < 2147483648) (s : ByteArray) (hs : s.size ≤ 243) (w : World) :
    Calls Tryd.prog 49 #[.agg #[.int .i64 (k : Int), .int .i64 (g : Int), .string s], .int .i64 (n : Int)] w fun e w' => e = .returned (.string (bs (pageB (frOf k n g (L s))))) ∧ New w w' := by
  have t1 : decide ((k : Int) < 1) = false := decide_eq_false (by omega)
  have t2 : decide ((255 : Int) < (k : Int)) = false := decide_eq_false (by omega)
  have t3 : decide ((n : Int) < 0) = false := decide_eq_false (by omega)
  have t4 : decide ((65535 : Int) < (n : Int)) = false := decide_eq_false (by omega)
  have t5 : decide ((g : Int) < 0) = false := decide_eq_false (by omega)
  have t6 : decide ((2147483647 : Int) < (g : Int)) = false := decide_eq_false (by omega)
  have t7 : decide ((243 : Int) < (s.size : Int)) = false := decide_eq_false (by omega)
  have hL : (L s).length ≤ 243 := by rw [L_size]; exact hs
  have hO : (frOf k n g (L s)).Ok := frOf_ok hk2 hn (by omega) hL
  obtain ⟨s1, hs1⟩ : ∃ x, bs (bigL k 1) = x := ⟨_, rfl⟩
  obtain ⟨s2, hs2⟩ : ∃ x, bs (bigL n 2) = x := ⟨_, rfl⟩
  obtain ⟨s3, hs3⟩ : ∃ x, bs (bigL g 4) = x := ⟨_, rfl⟩
  obtain ⟨s4, hs4⟩ : ∃ x, bs (bigL s.size 2) = x := ⟨_, rfl⟩
  have z1 : s1.size = 1 := by rw [← hs1, bs_size, bigL_length]
  have z2 : s2.size = 2 := by rw [← hs2, bs_size, bigL_length]
  have z3 : s3.size = 4 := by rw [← hs3, bs_size, bigL_length]
  have z4 : s4.size = 2 := by rw [← hs4, bs_size, bigL_length]
  have b1 : ∀ w, Calls Tryd.prog 70 #[.int .i64 (k : Int), .int .i64 1] w fun e w' => e = .returned (.string s1) ∧ New w w' := fun w => by rw [← hs1]; exact big_any k 1 (by decide) w
  have b2 : ∀ w, Calls Tryd.prog 70 #[.int .i64 (n : Int), .int .i64 2] w fun e w' => e = .returned (.string s2) ∧ New w w' := fun w => by rw [← hs2]; exact big_any n 2 (by decide) w
  have b3 : ∀ w, Calls Tryd.prog 70 #[.int .i64 (g : Int), .int .i64 4] w fun e w' => e = .returned (.string s3) ∧ New w w' := fun w => by rw [← hs3]; exact big_any g 4 (by decide) w
  have b4 : ∀ w, Calls Tryd.prog 70 #[.int .i64 (s.size : Int), .int .i64 2] w fun e w' => e = .returned (.string s4) ∧ New w w' := fun w => by rw [← hs4]; exact big_any s.size 2 (by decide) w
  obtain ⟨a1, ha1⟩ : ∃ x, s1 ++ s2 = x := ⟨_, rfl⟩
  obtain ⟨a2, ha2⟩ : ∃ x, a1 ++ s3 = x := ⟨_, rfl⟩
  obtain ⟨a3, ha3⟩ : ∃ x, a2 ++ s4 = x := ⟨_, rfl⟩
  obtain ⟨a4, ha4⟩ : ∃ x, a3 ++ s = x := ⟨_, rfl⟩
  have y1 : a1.size = 3 := by rw [← ha1, ByteArray.size_append]; omega
  have y2 : a2.size = 7 := by rw [← ha2, ByteArray.size_append]; omega
  have y3 : a3.size = 9 := by rw [← ha3, ByteArray.size_append]; omega
  have y4 : a4.size = 9 + s.size := by rw [← ha4, ByteArray.size_append]; omega
  have hL4 : L a4 = (frOf k n g (L s)).head ++ L s := by
    rw [← ha4, L_append, ← ha3, L_append, ← ha2, L_append, ← ha1, L_append, ← hs1, ← hs2, ← hs3, ← hs4, L_bs, L_bs, L_bs, L_bs, big1, big2, big4, big2, ← L_size s]
    rfl
  obtain ⟨m, hm⟩ : ∃ m, 243 - s.size = m := ⟨_, rfl⟩
  have hmI : (252 : Int) - (9 + (s.size : Int)) = (m : Int) := by omega
  have hml : m ≤ 1000 := by omega
  obtain ⟨t, ht⟩ : ∃ t, a4 ++ bs (List.replicate m 0) = t := ⟨_, rfl⟩
  have hLt : L t = (frOf k n g (L s)).text := by
    rw [← ht, L_append, hL4, L_bs, ← hm, ← L_size s, List.append_assoc]
    rfl
  have hts : t.size = 252 := by rw [← L_size, hLt, Fr.text_length hO.p]
  obtain ⟨v, hv⟩ : ∃ v, sumL 0 (L t) = v := ⟨_, rfl⟩
  have hvl : v < 4294967296 := by rw [← hv]; exact sumL_lt (by decide) _
  have hof : ∀ w, Calls Tryd.prog 65 #[.string t] w fun e w' => e = .returned (.int .u32 (v : Int)) ∧ w' = w := fun w => by
    have := refOf_any t (by omega) w
    rw [hv] at this
    exact this
  have HP : Hid (t ++ bs (putL v) = bs (pageB (frOf k n g (L s)))) := by
    show _ = _
    refine eq_of_L ?_
    rw [L_append, L_bs, L_bs, ← hv, hLt]
    rfl
  have zr : (bs (List.replicate m (0 : UInt8))).size = m := by rw [bs_size, List.length_replicate]
  have zp : (bs (putL v)).size = 4 := rfl
  have HM : Hid (∀ W : World, ∃ v W', (Instr.makeSlice 22 (.int .i64 (m : Int)) (.int .i64 (m : Int))).run Tryd.prog W = .ok v W' ∧ (convert 22 9 v).run Tryd.prog W' = .ok (.string (bs (List.replicate m 0))) W' ∧ New W W') := fun W => make_noughts m hml W
  generalize bs (List.replicate m (0 : UInt8)) = zz at *
  clear hs1 hs2 hs3 hs4 hL hL4 hLt hv hO hm
  go_enter Tryd.func49, Tryd.ntmps49
  go_wp2_with (refine wpList_box_at (by rfl) 2 (by rfl) 111 _ (by rfl) _ (by rfl) ?_; intro W1 R1 N1; have hc0 := R1.has 0 (by rfl); have hc1 := R1.has 1 (by rfl); have hc2 := R1.has 2 (by rfl))
  have q0 := fun p => NewW.cell hc0 p
  have q1 := fun p => NewW.cell hc1 p
  have q2 := fun p => NewW.cell hc2 p
  have hne := NewW.ne W1
  clear hc0 hc1 hc2 t1 t2 t3 t4 t5 t6 t7 R1
  refine region_first 19 0 W1 (New.refl W1) (by kernel_rfl) (by kernel_rfl) ?_
  simp only [List.take_succ_cons, List.take_zero, List.drop_succ_cons, List.drop_zero]
  iterate 3 (go_big_quiet_step (exact Calls.neww (b1 _)))
  iterate 3 (go_big_quiet_step (exact Calls.neww (b2 _)))
  iterate 4 (go_big_quiet_step (exact Calls.neww (b3 _)))
  iterate 9 (go_big_quiet_step (exact Calls.neww (b4 _)))
  refine wpQuiet_nil ?_
  rintro w5 ⟨⟨_, hk5⟩, rfl⟩
  obtain ⟨x, W6, hmk, hcv, N6⟩ := HM.out w5
  clear q0 q1 q2 hne b1 b2 b3 b4
  go_wp2_with fail
  refine (hof _).mono ?_
  rintro _ w7 ⟨rfl, rfl⟩
  go_wp2_with fail
  refine (refPut_any v hvl _).mono ?_
  rintro _ W8 ⟨rfl, N8⟩
  go_wp2_with fail
  go_ret
  exact ⟨by rw [← HP.out]; rfl, ((N1.trans hk5).trans N6).trans N8⟩

end Go.Proofs.YtkcoclpbkealgaaDoor
