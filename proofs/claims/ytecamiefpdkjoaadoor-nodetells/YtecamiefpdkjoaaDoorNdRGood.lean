/-
  The reference's Good: it says what Good says.
-/
import Derived.Test.YtecamiefpdkjoaaDoorNdWakes
namespace Go.Proofs.YtecamiefpdkjoaaDoor
open Go.RowKit
set_option maxRecDepth 20000
set_option linter.unusedVariables false

theorem hide {p : Prop} (h : p) : Hid p := h
def allH (hs : List (List UInt8)) : Bool := hs.all fun h => decide (h.length = 32)
theorem goodH_all (hs : List (List UInt8)) (n : Nat) : goodH hs n = (decide (hs.length = n) && allH hs) := rfl
theorem rgood_h (I : It) (h : allH I.hs = false) : goodI I = false := by
  have h1 : ∀ n, goodH I.hs n = false := fun n => by rw [goodH_all, h, Bool.and_false]
  have h2 : goodLf I = false := by
    unfold goodLf
    cases hh : decide (I.hs.length = 0)
    · simp
    · have := of_decide_eq_true hh
      rw [List.length_eq_zero_iff] at this
      rw [this] at h
      cases h
  unfold goodI goodEx goodBr
  simp only [h1, h2, Bool.and_false]
  split <;> first | rfl | (split <;> first | rfl | (split <;> rfl))
theorem rgood_v (I : It) (h : goodV I = false) : goodI I = false := by
  have h3 : goodEx I = false := by
    unfold goodEx
    cases hh : I.has
    · cases he : emptyB I.v
      · simp
      · unfold goodV at h
        have := emptyB_true.1 he
        rw [hh, he, this] at h
        cases h
    · simp
  unfold goodI goodLf goodBr
  simp only [h, h3, Bool.and_false, Bool.false_and]
  split <;> first | rfl | (split <;> first | rfl | (split <;> rfl))
theorem rgood_1 (I : It) (hk : I.k = 1) (h1 : allH I.hs = true) (h2 : goodV I = true) : goodI I = (goodB I.p && (I.has && (decide (I.m = 0) && decide (I.hs.length = 0)))) := by
  unfold goodI goodLf
  rw [if_pos hk, h2, Bool.true_and]
theorem rgood_2 (I : It) (hk : I.k = 2) (h1 : allH I.hs = true) (h2 : goodV I = true) : goodI I = (goodB I.p && (!emptyB I.p && (!I.has && (decide (I.m = 1) && decide (I.hs.length = 1))))) := by
  unfold goodI goodEx
  rw [if_neg (by rw [hk]; decide), if_pos hk, goodH_all, h1, Bool.and_true]
  cases hh : I.has
  · have he : emptyB I.v = true := by
      unfold goodV at h2
      rw [hh] at h2
      simpa using (Bool.and_eq_true _ _ ▸ h2).2
    rw [he]
    cases emptyB I.p <;> cases goodB I.p <;> rfl
  · cases emptyB I.p <;> cases goodB I.p <;> rfl
theorem rgood_3 (I : It) (hk : I.k = 3) (h1 : allH I.hs = true) (h2 : goodV I = true) : goodI I = (emptyB I.p && (decide (0 ≤ I.m) && (decide (I.m ≤ 65535) && (decide (popN I.m.toNat = I.hs.length) && decide (2 ≤ I.hs.length + if I.has then 1 else 0))))) := by
  unfold goodI goodBr leadsN
  rw [if_neg (by rw [hk]; decide), if_neg (by rw [hk]; decide), if_pos hk, goodH_all, h1, h2, Bool.and_true, Bool.true_and]
  by_cases h : I.hs.length = popN I.m.toNat
  · rw [h, decide_eq_true rfl]
    simp
  · rw [decide_eq_false h, decide_eq_false (show ¬ popN I.m.toNat = I.hs.length from fun e => h e.symm)]
    simp
theorem rgood_0 (I : It) (h1 : I.k ≠ 1) (h2 : I.k ≠ 2) (h3 : I.k ≠ 3) : goodI I = false := by
  unfold goodI
  rw [if_neg h1, if_neg h2, if_neg h3]

set_option maxHeartbeats 8000000 in
theorem rGood_any (I : It) (hS : Small I) (a : Option Addr) (c : Nat) (w : World) (hT : Tx w a I.hs) :
    Calls Tryd.prog 14 #[itV I a c] w fun e w' => e = .returned (.bool (goodI I)) ∧ New w w' := by
  have HF0 : Hid (allH I.hs = false → goodI I = false) := rgood_h I
  have HFv : Hid (goodV I = false → goodI I = false) := rgood_v I
  have HF1 := hide (rgood_1 I)
  have HF2 := hide (rgood_2 I)
  have HF3 := hide (rgood_3 I)
  have HFk := hide (rgood_0 I)
  have HVV : Hid (goodV I = (decide (I.v.length ≤ 16) && (I.has || emptyB I.v))) := rfl
  have HP : ∀ w, Calls Tryd.prog 29 #[.string (bs I.p)] w fun e w' => e = .returned (.bool (goodB I.p)) ∧ w' = w := refGood_any (bs I.p) hS.p
  have hp4 : (bs I.p).size ≤ 4000 := hS.p
  have hv4 : (bs I.v).size ≤ 4000 := hS.v
  have hn4 := hS.n
  have H4 := hide hS.h
  obtain ⟨k, p, has, v, m, hs⟩ := I
  simp only at HF0 HFv HF1 HF2 HF3 HFk HVV HP hp4 hv4 hn4 H4
  generalize goodI ⟨k, p, has, v, m, hs⟩ = g at *
  generalize goodV ⟨k, p, has, v, m, hs⟩ = gv at *
  obtain ⟨b1, hb1⟩ : ∃ b, goodB p = b := ⟨_, rfl⟩
  obtain ⟨b0, hb0⟩ : ∃ b, emptyB p = b := ⟨_, rfl⟩
  obtain ⟨bl, hbl⟩ : ∃ b, decide (v.length ≤ 16) = b := ⟨_, rfl⟩
  obtain ⟨be, hbe⟩ : ∃ b, emptyB v = b := ⟨_, rfl⟩
  rw [hb1] at HP HF1 HF2
  rw [hb0] at HF2 HF3
  rw [hbl, hbe] at HVV
  have e01 : (bs p).toList.isEmpty = b0 := by rw [← hb0]; exact isEmpty_bs p
  have e02 : ((bs p).toList == []) = b0 := by rw [← hb0]; exact beq_nil_bs p
  have e03 : ((bs p).toList != []) = !b0 := by rw [← hb0]; exact bne_nil_bs p
  have e04 : decide (1 ≤ ((bs p).size : Int)) = !b0 := by
    rw [← hb0, bs_size]
    unfold emptyB
    by_cases h : p.length = 0
    · rw [decide_eq_true h, decide_eq_false (by omega)]; rfl
    · rw [decide_eq_false h, decide_eq_true (by omega)]; rfl
  have e05 : decide (1 ≤ (bs p).size) = !b0 := by rw [← e04]; exact decide_eq_decide.2 (by omega)
  have e21 : (bs v).toList.isEmpty = be := by rw [← hbe]; exact isEmpty_bs v
  have e22 : ((bs v).toList == []) = be := by rw [← hbe]; exact beq_nil_bs v
  have e23 : ((bs v).toList != []) = !be := by rw [← hbe]; exact bne_nil_bs v
  have e3 : decide ((16 : Int) < ((bs v).size : Int)) = !bl := by
    rw [← hbl, bs_size]
    by_cases h : v.length ≤ 16
    · rw [decide_eq_true h, decide_eq_false (by omega)]; rfl
    · rw [decide_eq_false h, decide_eq_true (by omega)]; rfl
  have e3' : decide (16 < (bs v).size) = !bl := by rw [← e3]; exact decide_eq_decide.2 (by omega)
  obtain ⟨bz, hbz⟩ : ∃ b, decide (hs.length = 0) = b := ⟨_, rfl⟩
  obtain ⟨bo, hbo⟩ : ∃ b, decide (hs.length = 1) = b := ⟨_, rfl⟩
  obtain ⟨m0, hm0⟩ : ∃ b, decide (m = 0) = b := ⟨_, rfl⟩
  obtain ⟨m1, hm1⟩ : ∃ b, decide (m = 1) = b := ⟨_, rfl⟩
  rw [hm0, hbz] at HF1
  rw [hm1, hbo] at HF2
  have ez : ((hs.length : Int) == 0) = bz := by rw [← hbz]; exact nat_beq hs.length 0
  have eo : ((hs.length : Int) == 1) = bo := by rw [← hbo]; exact nat_beq hs.length 1
  have em0 : (m == 0) = m0 := by rw [← hm0]; exact int_beq _ _
  have em1 : (m == 1) = m1 := by rw [← hm1]; exact int_beq _ _
  have HT : Hid (Tx w a hs) := hT
  clear hb1 hb0 hbl hbe hbz hbo hm0 hm1 hT hS
  show Calls Tryd.prog 14 #[.agg #[.int .i64 k, .string (bs p), .bool has, .string (bs v), .int .i64 m, .slice a hs.length c]] w _
  generalize bs p = sp at *
  generalize bs v = sv at *
  have R0 := Row.new w #[.int .i64 k, .string sp, .bool has, .string sv, .int .i64 m, .slice a hs.length c] 24
  have N0 : New w (w.alloc (.cells #[.int .i64 k, .string sp, .bool has, .string sv, .int .i64 m, .slice a hs.length c] 24)) := (New.refl w).alloc _
  go_enter Tryd.func14, Tryd.ntmps14
  go_wp2_with fail
  generalize w.alloc (.cells #[.int .i64 k, .string sp, .bool has, .string sv, .int .i64 m, .slice a hs.length c] 24) = W at *
  have c0 : W.cell? ⟨w.heap.size, 0, none⟩ = some (.int .i64 k) := R0.cell 0
  have c1 : W.cell? ⟨w.heap.size, 1, none⟩ = some (.string sp) := R0.cell 1
  have c2 : W.cell? ⟨w.heap.size, 2, none⟩ = some (.bool has) := R0.cell 2
  have c3 : W.cell? ⟨w.heap.size, 3, none⟩ = some (.string sv) := R0.cell 3
  have c4 : W.cell? ⟨w.heap.size, 4, none⟩ = some (.int .i64 m) := R0.cell 4
  have c5 : W.cell? ⟨w.heap.size, 5, none⟩ = some (.slice a hs.length c) := R0.cell 5
  have HTW := hide (HT.out.after N0)
  go_loop [3] (fun i => ∃ k : Nat, k ≤ hs.length ∧ i = .int .i64 (k : Int) ∧ ∀ (j : Nat) h, j < k → hs[j]? = some h → h.length = 32) (fun i => hs.length - (intOf i).toNat)
  case atStart => exact ⟨0, by omega, rfl, fun j h hj => absurd hj (by omega)⟩
  case round =>
    obtain ⟨n, hn, rfl, hall⟩ := hrel
    have HA : Hid (∀ (j : Nat) h, j < n → hs[j]? = some h → h.length = 32) := hall
    clear hall
    by_cases hlt : n < hs.length
    · have hlt' : (n : Int) < (hs.length : Int) := by omega
      obtain ⟨x, rfl, hx⟩ := HTW.out (by omega)
      have hk' : hs[n]? = some hs[n] := List.getElem?_eq_getElem hlt
      have hcell := hx n _ hk'
      have hsz : (bs hs[n]).size = hs[n].length := rfl
      have hb := H4.out _ (List.getElem_mem hlt)
      have HK : Hid (hs[n]? = some hs[n]) := hk'
      clear hx hk'
      by_cases h32 : hs[n].length = 32
      · have ht : (((bs hs[n]).size : Int) != 32) = false := by rw [bne_eq_false_iff_eq, hsz]; omega
        have HE : Hid (hs[n].length = 32) := h32
        rw [hsz] at ht
        clear h32
        generalize bs hs[n] = q at *
        go_wp2_with fail
        go_round
        case rel => exact ⟨n + 1, by omega, by go_num, fun j h hj hjh => by
          by_cases e : j = n
          · subst e; rw [HK.out] at hjh; cases hjh; exact HE.out
          · exact HA.out j h (by omega) hjh⟩
        case measure => simp [intOf]; omega
      · have ht : (((bs hs[n]).size : Int) != 32) = true := by rw [bne_iff_ne, hsz]; omega
        have HF : Hid (g = false) := by
          refine HF0.out ?_
          rw [Bool.eq_false_iff]
          intro h
          exact h32 (of_decide_eq_true (List.all_eq_true.1 h _ (List.getElem_mem hlt)))
        rw [hsz] at ht
        clear h32
        generalize bs hs[n] = q at *
        go_wp2_with fail
        go_ret
        exact ⟨ret_bool HF.out.symm, N0⟩
    · obtain rfl : n = hs.length := by omega
      have hA1 : allH hs = true := by
        unfold allH
        rw [List.all_eq_true]
        intro h hh
        obtain ⟨j, hj⟩ := List.getElem?_of_mem hh
        exact decide_eq_true (HA.out j h (List.getElem?_eq_some_iff.1 hj).1 hj)
      have HA1 := hide hA1
      clear hA1 HF0
      cases bl
      · have HF : Hid (g = false) := HFv.out HVV.out
        go_wp2_with fail
        go_ret
        exact ⟨ret_bool HF.out.symm, N0⟩
      · cases has
        · cases be
          · have HF : Hid (g = false) := HFv.out HVV.out
            go_wp2_with fail
            go_ret
            exact ⟨ret_bool HF.out.symm, N0⟩
          · have HG : Hid (gv = true) := HVV.out
            clear HVV HFv
            by_cases k1 : k = 1
            · have d1 : (k == 1) = true := by rw [int_beq]; exact decide_eq_true k1
              have HF := hide (HF1.out k1 HA1.out HG.out)
              clear k1 HF1 HF2 HF3 HFk
              cases b1
              all_goals
                go_wp2_with fail
                refine (HP _).mono ?_
                rintro _ _ ⟨rfl, rfl⟩
                go_wp2_with fail
                go_ret
                exact ⟨ret_bool HF.out.symm, N0⟩
            · have d1 : (k == 1) = false := by rw [int_beq]; exact decide_eq_false k1
              by_cases k2 : k = 2
              · have d2 : (k == 2) = true := by rw [int_beq]; exact decide_eq_true k2
                have HF := hide (HF2.out k2 HA1.out HG.out)
                clear k1 k2 HF1 HF2 HF3 HFk
                cases b1
                · skip
                  go_wp2_with fail
                  refine (HP _).mono ?_
                  rintro _ _ ⟨rfl, rfl⟩
                  go_wp2_with fail
                  go_ret
                  exact ⟨ret_bool HF.out.symm, N0⟩
                · cases b0
                  · cases m1
                    · skip
                      go_wp2_with fail
                      refine (HP _).mono ?_
                      rintro _ _ ⟨rfl, rfl⟩
                      go_wp2_with fail
                      go_ret
                      exact ⟨ret_bool HF.out.symm, N0⟩
                    · cases bo
                      all_goals
                        go_wp2_with fail
                        refine (HP _).mono ?_
                        rintro _ _ ⟨rfl, rfl⟩
                        go_wp2_with fail
                        go_ret
                        exact ⟨ret_bool HF.out.symm, N0⟩
                  · skip
                    go_wp2_with fail
                    refine (HP _).mono ?_
                    rintro _ _ ⟨rfl, rfl⟩
                    go_wp2_with fail
                    go_ret
                    exact ⟨ret_bool HF.out.symm, N0⟩
              · have d2 : (k == 2) = false := by rw [int_beq]; exact decide_eq_false k2
                by_cases k3 : k = 3
                · have d3 : (k == 3) = true := by rw [int_beq]; exact decide_eq_true k3
                  have HF := hide (HF3.out k3 HA1.out HG.out)
                  clear k1 k2 k3 HF1 HF2 HF3 HFk HP
                  obtain ⟨b8, hb8⟩ : ∃ b, decide (2 ≤ hs.length + 0) = b := ⟨_, rfl⟩
                  have d8 : decide (2 ≤ (hs.length : Int)) = b8 := by rw [← hb8]; exact decide_eq_decide.2 (by omega)
                  replace HF : Hid (g = (b0 && (decide (0 ≤ m) && (decide (m ≤ 65535) && (decide (popN m.toNat = hs.length) && b8))))) := by show _ = _; rw [HF.out, ← hb8]; rfl
                  clear hb8
                  have y1 : ∀ p : NewW W, p.v.cell? ⟨w.heap.size, 1, none⟩ = some (.string sp) := NewW.cell c1
                  have y4 : ∀ p : NewW W, p.v.cell? ⟨w.heap.size, 4, none⟩ = some (.int .i64 m) := NewW.cell c4
                  have y5 : ∀ p : NewW W, p.v.cell? ⟨w.heap.size, 5, none⟩ = some (.slice a hs.length c) := NewW.cell c5
                  have hne := NewW.ne W
                  by_cases hm1 : 0 ≤ m
                  · rw [decide_eq_true hm1] at HF
                    have x1 : decide (0 ≤ m) = true := decide_eq_true hm1
                    by_cases hm2 : m ≤ 65535
                    · rw [decide_eq_true hm2] at HF
                      have x2 : decide (m ≤ 65535) = true := decide_eq_true hm2
                      obtain ⟨u, rfl⟩ : ∃ u : Nat, m = (u : Int) := ⟨m.toNat, by omega⟩
                      rw [Int.toNat_natCast] at HF
                      obtain ⟨q, hq⟩ : ∃ q, popN u = q := ⟨_, rfl⟩
                      have HB : ∀ w, Calls Tryd.prog 30 #[.int .i64 (u : Int)] w fun e w' => e = .returned (.int .i64 (q : Int)) ∧ New w w' := fun w => by rw [← hq]; exact (bits_any u (by omega) w).mono fun e w' ⟨h1, h2⟩ => ⟨h1, by rw [h2]; exact New.refl w⟩
                      have hq16 : q ≤ 16 := by rw [← hq]; exact popN_le u
                      obtain ⟨b7, hb7⟩ : ∃ b, decide (q = hs.length) = b := ⟨_, rfl⟩
                      have x7 : ((q : Int) == (hs.length : Int)) = b7 := by rw [← hb7]; exact nat_beq _ _
                      rw [hq, hb7] at HF
                      clear hm1 hm2 hq hb7 em0 em1
                      cases b0
                      · skip
                        go_wp2_with fail
                        refine region_new W (New.refl W) (by kernel_rfl) (by kernel_rfl) ?_
                        repeat (go_big_quiet_step (first | (go_at_call 30; exact Calls.neww (HB _))))
                        refine wpQuiet_nil ?_
                        rintro w5 ⟨⟨_, k5⟩, rfl⟩
                        go_wp2_with fail
                        go_ret
                        exact ⟨ret_bool HF.out.symm, N0.trans k5⟩
                      · cases b7
                        · skip
                          go_wp2_with fail
                          refine region_new W (New.refl W) (by kernel_rfl) (by kernel_rfl) ?_
                          repeat (go_big_quiet_step (first | (go_at_call 30; exact Calls.neww (HB _))))
                          refine wpQuiet_nil ?_
                          rintro w5 ⟨⟨_, k5⟩, rfl⟩
                          go_wp2_with fail
                          go_ret
                          exact ⟨ret_bool HF.out.symm, N0.trans k5⟩
                        · cases b8
                          all_goals
                            go_wp2_with fail
                            refine region_new W (New.refl W) (by kernel_rfl) (by kernel_rfl) ?_
                            repeat (go_big_quiet_step (first | (go_at_call 30; exact Calls.neww (HB _))))
                            refine wpQuiet_nil ?_
                            rintro w5 ⟨⟨_, k5⟩, rfl⟩
                            go_wp2_with fail
                            go_ret
                            exact ⟨ret_bool HF.out.symm, N0.trans k5⟩
                    · rw [decide_eq_false hm2] at HF
                      have x2 : decide (m ≤ 65535) = false := decide_eq_false hm2
                      have HB := bits_any 0 (by omega)
                      clear hm1 hm2
                      cases b0
                      all_goals
                        go_wp2_with fail
                        refine region_new W (New.refl W) (by kernel_rfl) (by kernel_rfl) ?_
                        repeat (go_big_quiet_step (fail))
                        refine wpQuiet_nil ?_
                        rintro w5 ⟨⟨_, k5⟩, rfl⟩
                        go_wp2_with fail
                        go_ret
                        exact ⟨ret_bool HF.out.symm, N0.trans k5⟩
                  · rw [decide_eq_false hm1] at HF
                    have x1 : decide (0 ≤ m) = false := decide_eq_false hm1
                    clear hm1
                    cases b0
                    all_goals
                      go_wp2_with fail
                      refine region_new W (New.refl W) (by kernel_rfl) (by kernel_rfl) ?_
                      repeat (go_big_quiet_step (fail))
                      refine wpQuiet_nil ?_
                      rintro w5 ⟨⟨_, k5⟩, rfl⟩
                      go_wp2_with fail
                      go_ret
                      exact ⟨ret_bool HF.out.symm, N0.trans k5⟩
                · have d3 : (k == 3) = false := by rw [int_beq]; exact decide_eq_false k3
                  have HF := hide (HFk.out k1 k2 k3)
                  clear k1 k2 k3 HF1 HF2 HF3 HFk HP
                  go_wp2_with fail
                  go_ret
                  exact ⟨ret_bool HF.out.symm, N0⟩
        · have HG : Hid (gv = true) := by
            show _ = _
            rw [HVV.out]
            rfl
          clear HVV HFv
          by_cases k1 : k = 1
          · have d1 : (k == 1) = true := by rw [int_beq]; exact decide_eq_true k1
            have HF := hide (HF1.out k1 HA1.out HG.out)
            clear k1 HF1 HF2 HF3 HFk
            cases b1
            · skip
              go_wp2_with fail
              refine (HP _).mono ?_
              rintro _ _ ⟨rfl, rfl⟩
              go_wp2_with fail
              go_ret
              exact ⟨ret_bool HF.out.symm, N0⟩
            · cases m0
              · skip
                go_wp2_with fail
                refine (HP _).mono ?_
                rintro _ _ ⟨rfl, rfl⟩
                go_wp2_with fail
                go_ret
                exact ⟨ret_bool HF.out.symm, N0⟩
              · cases bz
                all_goals
                  go_wp2_with fail
                  refine (HP _).mono ?_
                  rintro _ _ ⟨rfl, rfl⟩
                  go_wp2_with fail
                  go_ret
                  exact ⟨ret_bool HF.out.symm, N0⟩
          · have d1 : (k == 1) = false := by rw [int_beq]; exact decide_eq_false k1
            by_cases k2 : k = 2
            · have d2 : (k == 2) = true := by rw [int_beq]; exact decide_eq_true k2
              have HF := hide (HF2.out k2 HA1.out HG.out)
              clear k1 k2 HF1 HF2 HF3 HFk
              cases b1
              · skip
                go_wp2_with fail
                refine (HP _).mono ?_
                rintro _ _ ⟨rfl, rfl⟩
                go_wp2_with fail
                go_ret
                exact ⟨ret_bool HF.out.symm, N0⟩
              · cases b0
                · skip
                  go_wp2_with fail
                  refine (HP _).mono ?_
                  rintro _ _ ⟨rfl, rfl⟩
                  go_wp2_with fail
                  go_ret
                  exact ⟨ret_bool HF.out.symm, N0⟩
                · skip
                  go_wp2_with fail
                  refine (HP _).mono ?_
                  rintro _ _ ⟨rfl, rfl⟩
                  go_wp2_with fail
                  go_ret
                  exact ⟨ret_bool HF.out.symm, N0⟩
            · have d2 : (k == 2) = false := by rw [int_beq]; exact decide_eq_false k2
              by_cases k3 : k = 3
              · have d3 : (k == 3) = true := by rw [int_beq]; exact decide_eq_true k3
                have HF := hide (HF3.out k3 HA1.out HG.out)
                clear k1 k2 k3 HF1 HF2 HF3 HFk HP
                obtain ⟨b8, hb8⟩ : ∃ b, decide (2 ≤ hs.length + 1) = b := ⟨_, rfl⟩
                have d8 : decide (2 ≤ (hs.length : Int) + 1) = b8 := by rw [← hb8]; exact decide_eq_decide.2 (by omega)
                replace HF : Hid (g = (b0 && (decide (0 ≤ m) && (decide (m ≤ 65535) && (decide (popN m.toNat = hs.length) && b8))))) := by show _ = _; rw [HF.out, ← hb8]; rfl
                clear hb8
                have y1 : ∀ p : NewW W, p.v.cell? ⟨w.heap.size, 1, none⟩ = some (.string sp) := NewW.cell c1
                have y4 : ∀ p : NewW W, p.v.cell? ⟨w.heap.size, 4, none⟩ = some (.int .i64 m) := NewW.cell c4
                have y5 : ∀ p : NewW W, p.v.cell? ⟨w.heap.size, 5, none⟩ = some (.slice a hs.length c) := NewW.cell c5
                have hne := NewW.ne W
                by_cases hm1 : 0 ≤ m
                · rw [decide_eq_true hm1] at HF
                  have x1 : decide (0 ≤ m) = true := decide_eq_true hm1
                  by_cases hm2 : m ≤ 65535
                  · rw [decide_eq_true hm2] at HF
                    have x2 : decide (m ≤ 65535) = true := decide_eq_true hm2
                    obtain ⟨u, rfl⟩ : ∃ u : Nat, m = (u : Int) := ⟨m.toNat, by omega⟩
                    rw [Int.toNat_natCast] at HF
                    obtain ⟨q, hq⟩ : ∃ q, popN u = q := ⟨_, rfl⟩
                    have HB : ∀ w, Calls Tryd.prog 30 #[.int .i64 (u : Int)] w fun e w' => e = .returned (.int .i64 (q : Int)) ∧ New w w' := fun w => by rw [← hq]; exact (bits_any u (by omega) w).mono fun e w' ⟨h1, h2⟩ => ⟨h1, by rw [h2]; exact New.refl w⟩
                    have hq16 : q ≤ 16 := by rw [← hq]; exact popN_le u
                    obtain ⟨b7, hb7⟩ : ∃ b, decide (q = hs.length) = b := ⟨_, rfl⟩
                    have x7 : ((q : Int) == (hs.length : Int)) = b7 := by rw [← hb7]; exact nat_beq _ _
                    rw [hq, hb7] at HF
                    clear hm1 hm2 hq hb7 em0 em1
                    cases b0
                    · skip
                      go_wp2_with fail
                      refine region_new W (New.refl W) (by kernel_rfl) (by kernel_rfl) ?_
                      repeat (go_big_quiet_step (first | (go_at_call 30; exact Calls.neww (HB _))))
                      refine wpQuiet_nil ?_
                      rintro w5 ⟨⟨_, k5⟩, rfl⟩
                      go_wp2_with fail
                      go_ret
                      exact ⟨ret_bool HF.out.symm, N0.trans k5⟩
                    · cases b7
                      · skip
                        go_wp2_with fail
                        refine region_new W (New.refl W) (by kernel_rfl) (by kernel_rfl) ?_
                        repeat (go_big_quiet_step (first | (go_at_call 30; exact Calls.neww (HB _))))
                        refine wpQuiet_nil ?_
                        rintro w5 ⟨⟨_, k5⟩, rfl⟩
                        go_wp2_with fail
                        go_ret
                        exact ⟨ret_bool HF.out.symm, N0.trans k5⟩
                      · cases b8
                        all_goals
                          go_wp2_with fail
                          refine region_new W (New.refl W) (by kernel_rfl) (by kernel_rfl) ?_
                          repeat (go_big_quiet_step (first | (go_at_call 30; exact Calls.neww (HB _))))
                          refine wpQuiet_nil ?_
                          rintro w5 ⟨⟨_, k5⟩, rfl⟩
                          go_wp2_with fail
                          go_ret
                          exact ⟨ret_bool HF.out.symm, N0.trans k5⟩
                  · rw [decide_eq_false hm2] at HF
                    have x2 : decide (m ≤ 65535) = false := decide_eq_false hm2
                    have HB := bits_any 0 (by omega)
                    clear hm1 hm2
                    cases b0
                    all_goals
                      go_wp2_with fail
                      refine region_new W (New.refl W) (by kernel_rfl) (by kernel_rfl) ?_
                      repeat (go_big_quiet_step (fail))
                      refine wpQuiet_nil ?_
                      rintro w5 ⟨⟨_, k5⟩, rfl⟩
                      go_wp2_with fail
                      go_ret
                      exact ⟨ret_bool HF.out.symm, N0.trans k5⟩
                · rw [decide_eq_false hm1] at HF
                  have x1 : decide (0 ≤ m) = false := decide_eq_false hm1
                  clear hm1
                  cases b0
                  all_goals
                    go_wp2_with fail
                    refine region_new W (New.refl W) (by kernel_rfl) (by kernel_rfl) ?_
                    repeat (go_big_quiet_step (fail))
                    refine wpQuiet_nil ?_
                    rintro w5 ⟨⟨_, k5⟩, rfl⟩
                    go_wp2_with fail
                    go_ret
                    exact ⟨ret_bool HF.out.symm, N0.trans k5⟩
              · have d3 : (k == 3) = false := by rw [int_beq]; exact decide_eq_false k3
                have HF := hide (HFk.out k1 k2 k3)
                clear k1 k2 k3 HF1 HF2 HF3 HFk HP
                go_wp2_with fail
                go_ret
                exact ⟨ret_bool HF.out.symm, N0⟩

end Go.Proofs.YtecamiefpdkjoaaDoor
