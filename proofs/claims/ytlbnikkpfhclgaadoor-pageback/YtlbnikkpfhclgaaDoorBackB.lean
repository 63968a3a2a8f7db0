/-
  PageBack, walked: the page of a page's bytes is it, at its number alone; with up to four bytes in a row turned it is none.
-/
import Derived.Test.YtlbnikkpfhclgaaDoorBackA
namespace Go.Proofs.YtlbnikkpfhclgaaDoor
open Go.RowKit

set_option maxRecDepth 20000 in
set_option maxHeartbeats 4000000 in
theorem back_no (k g : Int) (s : ByteArray) (x0 x1 x2 : Int) (y : List UInt8) (h : ¬ Fits k x0 g (s.size : Int)) (w : World) (hT : Tab w) :
    Calls Tryd.prog 4 #[.agg #[.int .i64 k, .int .i64 g, .string s], .agg #[.int .i64 x0, .int .i64 x1, .int .i64 x2], .agg (cellsL y).toArray] w fun e w' => e = .returned (.bool true) ∧ New w w' := by
  have hput := fun w => put_no k x0 g s h w
  generalize (cellsL y).toArray = cy at *
  go_enter Tryd.func4, Tryd.ntmps4
  go_wp2_with (first
    | (refine wpList_box_at (by rfl) 3 (by rfl) 23 _ (by rfl) _ (by rfl) ?_; intro W1 R1 N1)
    | (refine wpList_box_at (by rfl) 4 (by rfl) 36 _ (by rfl) _ (by rfl) ?_; intro W2 R2 N2; have Ra := R1.after N2; have l2 := Ra.lt)
    | (refine wpList_box_at (by rfl) 5 (by rfl) 37 _ (by rfl) _ (by rfl) ?_; intro W3 R3 N3; have Rb := R2.after N3; have Rc := Ra.after N3; have hb0 := Rb.has 0 (by rfl))
    | refine wpList_load_row (by rfl) 23 _ (by rfl) w.heap.size (by rfl) 23 _ (0, 0) _ Rc Tryd.underlying23 rfl i23 ?_)
  refine (hput _).mono ?_
  rintro _ W4 ⟨rfl, N4⟩
  have N4' := ((N1.trans N2).trans N3).trans N4
  go_wp2_with fail
  refine (wakes_any _ (hT.after N4')).mono ?_
  rintro _ W5 ⟨rfl, N5⟩
  go_wp2_with fail
  go_ret
  exact ⟨rfl, N4'.trans N5⟩

theorem place_of (x : Int) : ∃ K : Nat, K < 249 ∧ (IntKind.u64.wrap x).tmod 249 = (K : Int) ∧ wrap64 (K : Int) = (K : Int) := by
  have h0 : 0 ≤ IntKind.u64.wrap x := by rw [IntKind.wrap_u64]; omega
  have h1 : ∃ K : Nat, K < 249 ∧ (IntKind.u64.wrap x).tmod 249 = (K : Int) := by
    rw [Int.tmod_eq_emod_of_nonneg h0]
    exact ⟨(IntKind.u64.wrap x % 249).toNat, by omega, by omega⟩
  obtain ⟨K, h2, h3⟩ := h1
  exact ⟨K, h2, h3, by unfold wrap64; omega⟩

theorem Lies.but {w w1 w2 : World} {B : Nat} {l : List UInt8} (h : Lies w B l) (k : New w w1) (b : But w.heap.size w1 w2) (h0 : 0 < l.length) : Lies w2 B l := by
  have hB := h.lt h0
  have h1 := h.after k h0
  have e : w2.heap[B]? = w1.heap[B]? := b.block B (by omega)
  refine ⟨fun j c hc => ?_, fun j hj => ?_⟩
  · rw [← h1.1 j c hc]
    unfold World.cell?
    simp only [e]
  · rw [← h1.2 j hj]
    unfold World.frozen?
    simp only [e]

set_option maxRecDepth 20000 in
set_option maxHeartbeats 8000000 in
theorem back_yes (k n g : Nat) (hk1 : 1 ≤ k) (hk2 : k < 256) (hn : n < 65536) (hg : g < 2147483648) (s : ByteArray) (hs : s.size ≤ 243) (x1 x2 : Int) (y : List UInt8) (hy : y.length = 4) (w : World) (hT : Tab w) :
    Calls Tryd.prog 4 #[.agg #[.int .i64 (k : Int), .int .i64 (g : Int), .string s], .agg #[.int .i64 (n : Int), .int .i64 x1, .int .i64 x2], .agg (cellsL y).toArray] w fun e w' => e = .returned (.bool true) ∧ New w w' := by
  have hput := fun w hT => put_yes k n g hk1 hk2 hn hg s hs w hT
  have hget := fun w hT => get_yes k n g hk1 hk2 hn hg s hs w hT
  have hL : (L s).length ≤ 243 := by rw [L_size]; exact hs
  have hO : (frOf k n g (L s)).Ok := frOf_ok hk2 hn (by omega) hL
  have hR : Right (pageB (frOf k n g (L s))) := right_page hO.p
  obtain ⟨E, hE⟩ : ∃ E, (x1 == (n : Int)) = E := ⟨_, rfl⟩
  obtain ⟨o1, ho1⟩ : ∃ o : Int, (if E = true then 0 else 6) = o := ⟨_, rfl⟩
  obtain ⟨c1, hc1⟩ : ∃ c : Array Value, (if E = true then #[.int .i64 (k : Int), .int .i64 (g : Int), .string s] else noPg) = c := ⟨_, rfl⟩
  have hget1 : ∀ w, Tab w → Calls Tryd.prog 9 #[.string (bs (pageB (frOf k n g (L s)))), .int .i64 x1] w fun e w' => e = .returned (.tuple #[.agg c1, .int .i64 o1]) ∧ New w w' := fun w hT => by
    cases E
    · rw [← ho1, ← hc1]
      exact get_no _ x1 (other_number hk2 hn hg hs (by rw [beq_eq_false_iff_ne] at hE; exact hE)) w hT
    · rw [← ho1, ← hc1]
      rw [beq_iff_eq] at hE
      subst hE
      exact hget w hT
  have hright : ∀ w, Tab w → Calls Tryd.prog 11 #[.string (bs (pageB (frOf k n g (L s))))] w fun e w' => e = .returned (.bool true) ∧ New w w' := fun w h => by
    have := right_any (bs (pageB (frOf k n g (L s)))) w h
    rw [L_bs, (rightB_iff _).2 hR] at this
    exact this
  have heq0 : ∀ w, (Op.equalIn 10000 23 (.agg #[.int .i64 (k : Int), .int .i64 (g : Int), .string s]) (.agg #[.int .i64 (k : Int), .int .i64 (g : Int), .string s])).run Tryd.prog w = .ok true w := fun w => by
    rw [eq_pages, eqPg_self]
  have c1size : (Tryd.prog.info? 23).map (·.size) = some c1.size := by rw [← hc1]; split <;> exact i23
  have c1all : c1.all (·.oneCell') = true := by rw [← hc1]; split <;> exact pg_all _ _ _
  have c1same : noPg.size = c1.size := by rw [← hc1]; split <;> rfl
  have hsz : (bs (pageB (frOf k n g (L s)))).size = 256 := by rw [bs_size, pageB_length hO.p]
  have HL : Hid (Right (pageB (frOf k n g (L s)))) := hR
  have HB : Hid ((pageB (frOf k n g (L s))).length = 256) := pageB_length hO.p
  generalize pageB (frOf k n g (L s)) = l at *
  obtain ⟨K, hKl, hKI, hKW⟩ : ∃ K : Nat, K < 249 ∧ (IntKind.u64.wrap x2).tmod 249 = (K : Int) ∧ wrap64 (K : Int) = (K : Int) := place_of x2
  obtain ⟨o4, c4, hget4, ho4, hc4, c4size, c4same, c4all⟩ := turned_get HL.out hget hKl hy
  have hr4 := turned_rightB HL.out hKl hy
  have hq4 := fun w => eq4 y [0, 0, 0, 0] hy rfl w
  have HY : Hid (∀ j : Nat, j < 4 → (cellsL y).toArray[j]? = some (.int .u8 ((y.getD j 0).toNat : Int))) := four_at hy
  have cysize : (Tryd.prog.info? 37).map (·.size) = some (cellsL y).toArray.size := by rw [cellsL_size, hy]; exact i37
  obtain ⟨Z, hZ⟩ : ∃ Z, (y == [0, 0, 0, 0]) = Z := ⟨_, rfl⟩
  rw [hZ] at ho4 hc4 hr4
  simp only [hZ] at hq4
  have hright4 : ∀ w, Tab w → Calls Tryd.prog 11 #[.string (bs (turnN l K y 4))] w fun e w' => e = .returned (.bool Z) ∧ New w w' := fun w h => by
    have := right_any (bs (turnN l K y 4)) w h
    rw [L_bs, hr4] at this
    exact this
  have HC : Hid (∀ (wr : World) (B cap : Nat), Lies wr B (turnN l K y 4) → (convert 39 9 (.slice (some ⟨B, 0, none⟩) 256 cap)).run Tryd.prog wr = .ok (.string (bs (turnN l K y 4))) wr) := fun wr B cap hl => conv_back (by rw [turnN_length, HB.out]) hl
  clear hZ hr4
  generalize (cellsL y).toArray = cy at *
  go_enter Tryd.func4, Tryd.ntmps4
  go_wp2_with (first
    | (refine wpList_box_at (by rfl) 3 (by rfl) 23 _ (by rfl) _ (by rfl) ?_; intro W1 R1 N1)
    | (refine wpList_box_at (by rfl) 4 (by rfl) 36 _ (by rfl) _ (by rfl) ?_; intro W2 R2 N2; have Ra := R1.after N2; have l2 := Ra.lt)
    | (refine wpList_box_at (by rfl) 5 (by rfl) 37 _ (by rfl) _ (by rfl) ?_; intro W3 R3 N3; have Rb := R2.after N3; have Rc := Ra.after N3; have hb0 := Rb.has 0 (by rfl))
    | refine wpList_load_row (by rfl) 23 _ (by rfl) w.heap.size (by rfl) 23 _ (0, 0) _ Rc Tryd.underlying23 rfl i23 ?_)
  have l3 := Rb.lt
  have N3' := (N1.trans N2).trans N3
  clear R1 R2 Ra N1 N2 N3 hb0
  refine (hput _ (hT.after N3')).mono ?_
  rintro _ W4 ⟨rfl, N4⟩
  have R4a := Rc.after N4
  have R4b := Rb.after N4
  have R4c := R3.after N4
  have N4' := N3'.trans N4
  have l4 := R4c.lt
  have b0 := R4b.has 0 (by rfl)
  clear Rc Rb R3 N4 N3' hput
  go_wp2_with fail
  refine (hget _ (hT.after N4')).mono ?_
  rintro _ W5 ⟨rfl, N5⟩
  have R5a := R4a.after N5
  have R5b := R4b.after N5
  have R5c := R4c.after N5
  have N5' := N4'.trans N5
  have l5 := R5c.lt
  have la5 := R5a.lt
  have lb5 := R5b.lt
  have m5 := N5.size
  clear R4a R4b R4c N5 N4' b0
  go_wp2_with (first
    | (refine wpList_alloc_at (by rfl) 9 (by rfl) 23 (by rfl) _ _ _ info23 ?_; intro W6 R6 N6)
    | (refine wpList_store_new (by rfl) 23 _ _ (by rfl) W5.heap.size #[.int .i64 (k : Int), .int .i64 (g : Int), .string s] (by rfl) (by rfl) 23 noPg R6 i23 rfl (pg_all _ _ _) ?_; intro W7 R7 B7; have R7a : Row W7 w.heap.size _ 23 := (R5a.after N6).but B7 (by omega); have R7b : Row W7 W1.heap.size _ 36 := (R5b.after N6).but B7 (by omega); have R7c : Row W7 W2.heap.size _ 37 := (R5c.after N6).but B7 (by omega); have N7 : New w W7 := B7.new (N5'.trans N6) N5'.size; have b1 := R7b.has 1 (by rfl)))
  have l7 := R7.lt
  clear R6 N6 B7 R5a R5b R5c N5'
  refine (hget1 _ (hT.after N7)).mono ?_
  rintro _ W8 ⟨rfl, N8⟩
  have R8a := R7a.after N8
  have R8b := R7b.after N8
  have R8c := R7c.after N8
  have R8d := R7.after N8
  have N8' := N7.trans N8
  have l8 := R8d.lt
  have la8 := R8a.lt
  have lb8 := R8b.lt
  have lc8 := R8c.lt
  have m8 := N8.size
  clear R7 R7a R7b R7c N7 N8 b1 hget1
  have gd := guard23
  go_wp2_with (first
    | (refine wpList_alloc_at (by rfl) 11 (by rfl) 23 (by rfl) _ _ _ info23 ?_; intro W9 R9 N9)
    | (refine wpList_store_new (by rfl) 23 _ _ (by rfl) W8.heap.size c1 (by rfl) (by rfl) 23 noPg R9 c1size c1same c1all ?_; intro W10 R10 B10; have R10a : Row W10 w.heap.size _ 23 := (R8a.after N9).but B10 (by omega); have R10b : Row W10 W1.heap.size _ 36 := (R8b.after N9).but B10 (by omega); have R10c : Row W10 W2.heap.size _ 37 := (R8c.after N9).but B10 (by omega); have R10d : Row W10 W5.heap.size _ 23 := (R8d.after N9).but B10 (by omega); have N10 : New w W10 := B10.new (N8'.trans N9) N8'.size)
    | refine wpList_load_want (by rfl) 23 (.tmp 9) (by rfl) W5.heap.size (by rfl) 23 _ _ R10d Tryd.underlying23 rfl i23 ?_
    | refine wpList_load_want (by rfl) 23 (.tmp 3) (by rfl) w.heap.size (by rfl) 23 _ _ R10a Tryd.underlying23 rfl i23 ?_)
  clear R9 N9 B10 R8a R8b R8c R8d N8'
  refine (hright _ (hT.after N10)).mono ?_
  rintro _ W11 ⟨rfl, N11⟩
  have R11a := R10a.after N11
  have R11b := R10b.after N11
  have R11c := R10c.after N11
  have R11e := R10.after N11
  have N11' := N10.trans N11
  have b0 := R11b.has 0 (by rfl)
  have b1 := R11b.has 1 (by rfl)
  have b2 := R11b.has 2 (by rfl)
  clear R10 R10a R10b R10c R10d N10 N11
  obtain ⟨W12, cap, hcv, N12, lies⟩ := conv_text (bs l) W11
  rw [L_bs] at lies
  cases E
  all_goals
    simp only [if_true, Bool.false_eq_true, if_false] at ho1 hc1
    subst ho1
    subst hc1
    go_wp2_with (first
      | refine wpList_load_want (by rfl) 23 (.tmp 11) (by rfl) W8.heap.size (by rfl) 23 _ _ R11e Tryd.underlying23 rfl i23 ?_
      | refine wpList_load_want (by rfl) 23 (.tmp 3) (by rfl) w.heap.size (by rfl) 23 _ _ R11a Tryd.underlying23 rfl i23 ?_)
    clear hcv b1 b2 R11e R11a hKI hKW
    go_loopw [15] (fun i wr => ∃ j : Nat, j ≤ 4 ∧ i = .int .i64 (j : Int) ∧ Lies wr W11.heap.size (turnN l K y j) ∧ New W11 wr) (fun i _ => 4 - (intOf i).toNat)
    case atStart => exact ⟨0, by omega, rfl, lies, N12⟩
    case round =>
      clear lies N12
      obtain ⟨j, hj, rfl, hl, hN⟩ := hrel
      by_cases hlt : j < 4
      · have hlt' : (j : Int) < 4 := by omega
        obtain ⟨q, hq⟩ : ∃ q, K + j = q := ⟨_, rfl⟩
        have hqI : (K : Int) + (j : Int) = (q : Int) := by omega
        have hq256 : q < 256 := by omega
        have hqI2 : (q : Int) < 256 := by omega
        have hlen : (turnN l K y j).length = 256 := by rw [turnN_length, HB.out]
        have HS : Hid (turnN l K y (j + 1) = (turnN l K y j).set q ((turnN l K y j).getD q 0 ^^^ y.getD j 0)) := by rw [← hq]; exact rfl
        have hcq : wr.cell? ⟨W11.heap.size, q, none⟩ = some (.int .u8 (((turnN l K y j).getD q 0).toNat : Int)) := hl.1 q _ (by rw [List.getD_eq_getElem?_getD, List.getElem?_eq_getElem (by omega)]; rfl)
        have hcy4 : wr.cell? ⟨W2.heap.size, j, none⟩ = some (.int .u8 ((y.getD j 0).toNat : Int)) := (R11c.after hN).has j (HY.out j hlt)
        have hxor := xor_bytes ((turnN l K y j).getD q 0) (y.getD j 0)
        have HX : Hid (Lies wr W11.heap.size (turnN l K y j)) := hl
        have HM : Hid ((turnN l K y j).length = 256) := hlen
        clear hl hlen hq
        generalize turnN l K y j = m at *
        generalize m.getD q 0 = c at *
        generalize y.getD j 0 = d at *
        have p1 := fun p => NewW.cell hcq p
        have p2 := fun p => NewW.cell hcy4 p
        have hne := NewW.ne wr
        clear hcq hcy4
        go_wp2_with fail
        refine region_first 11 1 wr (New.refl wr) (by kernel_rfl) (by kernel_rfl) ?_
        simp only [List.take_succ_cons, List.take_zero, List.drop_succ_cons, List.drop_zero]
        repeat (go_big_quiet_step (fail))
        refine wpQuiet_nil ?_
        rintro w5 ⟨⟨_, hk5⟩, rfl⟩
        have hl5 := HX.out.after hk5 (by rw [HM.out]; decide)
        have hcq : w5.cell? ⟨W11.heap.size, q, none⟩ = some (.int .u8 (c.toNat : Int)) := p1 ⟨w5, hk5⟩
        have hfz := hl5.2 q (by rw [HM.out]; exact hq256)
        have N5 := hN.trans hk5
        have HL5 : Hid (Lies w5 W11.heap.size m) := hl5
        clear p1 p2 hne hl5
        go_wp2_with fail
        refine ⟨⟨j + 1, by omega, by go_num, ?_, N5.setCell (Nat.le_refl _) _⟩, by simp [intOf]; omega⟩
        rw [HS.out]
        exact HL5.out.set q (by rw [HM.out]; exact hq256) _
      · obtain rfl : j = 4 := by omega
        have hcv4 := HC.out wr W11.heap.size cap hl
        have Rb := R11b.after hN
        have Rc := R11c.after hN
        have b0' := Rb.has 0 (by rfl)
        have N12 := N11'.trans hN
        have HX : Hid (Lies wr W11.heap.size (turnN l K y 4)) := hl
        have H256 : Hid ((turnN l K y 4).length = 256) := by show _ = _; rw [turnN_length, HB.out]
        clear hl R11b R11c N11' hN b0 Rb hright hget heq0 HY
        obtain ⟨t4, ht4⟩ : ∃ t, bs (turnN l K y 4) = t := ⟨_, rfl⟩
        rw [ht4] at hcv4 hget4 hright4 HC
        clear ht4
        go_wp2_with fail
        refine (hget4 _ (hT.after N12)).mono ?_
        rintro _ W13 ⟨rfl, N13⟩
        have Rc13 := Rc.after N13
        have HX13 : Hid (Lies W13 W11.heap.size (turnN l K y 4)) := HX.out.after N13 (by rw [H256.out]; decide)
        have N13' := N12.trans N13
        have l13 := Rc13.lt
        clear Rc b0' N13 HX hcv4 hget4 N12
        have gd2 := guard37
        have heqn : ∀ w, (Op.equalIn 10000 23 (.agg noPg) (.agg noPg)).run Tryd.prog w = .ok true w := fun w => by
          unfold noPg
          rw [eq_pages, eqPg_self]
        cases Z
        · obtain ⟨rfl, rfl⟩ := hc4 rfl
          go_wp2_with (first
            | (refine wpList_alloc_at (by rfl) 16 (by rfl) 23 (by rfl) _ _ _ info23 ?_; intro W14 R14 N14)
            | (refine wpList_store_new (by rfl) 23 _ _ (by rfl) W13.heap.size noPg (by rfl) (by rfl) 23 noPg R14 i23 rfl (pg_all _ _ _) ?_; intro W15 R15 B15; have Rc15 : Row W15 W2.heap.size _ 37 := (Rc13.after N14).but B15 (by omega); have N15 : New w W15 := B15.new (N13'.trans N14) N13'.size; have hcv5 := HC.out W15 W11.heap.size cap (Lies.but HX13.out N14 B15 (by rw [H256.out]; decide)))
            | refine wpList_load_row (by rfl) 37 _ (by rfl) W2.heap.size (by rfl) 37 _ (0, 0) _ Rc15 Tryd.underlying37 rfl cysize ?_
            | refine wpList_build0 (by rfl) 37 (by rfl) _ built37_none ?_
            | refine wpList_load_want (by rfl) 23 (.tmp 16) (by rfl) W13.heap.size (by rfl) 23 _ _ R15 Tryd.underlying23 rfl i23 ?_
            | refine wpList_build0w (by rfl) 23 (by rfl) noPg built23_none ?_)
          refine (hright4 _ (hT.after N15)).mono ?_
          rintro _ W16 ⟨rfl, N16⟩
          go_wp2_with fail
          refine (wakes_any _ (hT.after (N15.trans N16))).mono ?_
          rintro _ W17 ⟨rfl, N17⟩
          go_wp2_with fail
          go_ret
          exact ⟨rfl, (N15.trans N16).trans N17⟩
        · go_wp2_with (first
            | (refine wpList_alloc_at (by rfl) 16 (by rfl) 23 (by rfl) _ _ _ info23 ?_; intro W14 R14 N14)
            | (refine wpList_store_new (by rfl) 23 _ _ (by rfl) W13.heap.size c4 (by rfl) (by rfl) 23 noPg R14 c4size c4same c4all ?_; intro W15 R15 B15; have Rc15 : Row W15 W2.heap.size _ 37 := (Rc13.after N14).but B15 (by omega); have N15 : New w W15 := B15.new (N13'.trans N14) N13'.size)
            | refine wpList_load_row (by rfl) 37 _ (by rfl) W2.heap.size (by rfl) 37 _ (0, 0) _ Rc15 Tryd.underlying37 rfl cysize ?_
            | refine wpList_build0 (by rfl) 37 (by rfl) _ built37_none ?_)
          refine (wakes_any _ (hT.after N15)).mono ?_
          rintro _ W17 ⟨rfl, N17⟩
          go_wp2_with fail
          go_ret
          exact ⟨rfl, N15.trans N17⟩

end Go.Proofs.YtlbnikkpfhclgaaDoor
