/-
  DiskSurvives walked: what was synced is there behind each crash; of what waited each sector is the old one or the new one, as chosen.
-/
import Derived.Test.YtamaijolggdakaaSurvA
namespace Go.Proofs.Ytamaijolggdakaa
open Go.RowKit

set_option maxRecDepth 40000 in
set_option maxHeartbeats 8000000 in
theorem survives_walk (a : Option Addr) (c : Nat) (l : List (UInt8 × UInt8)) (a' : Option Addr) (c' : Nat) (m : List (UInt8 × UInt8)) (b : Option Addr) (d : Nat) (cs : List UInt8) (w : World) (hP : Pairs w a l) (hl : l.length ≤ 9223372036854775807) (hQ : Pairs w a' m) (hm : m.length ≤ 9223372036854775807) (hB : Bytes w b cs) (hcs : cs.length ≤ 9223372036854775807) :
    Calls Try.prog 5 #[.slice a l.length c, .slice a' m.length c', .slice b cs.length d] w fun e w' => e = .returned (.bool true) ∧ New w w' := by
  have HP : Hid (Pairs w a l) := hP
  have HQ : Hid (Pairs w a' m) := hQ
  have HB : Hid (Bytes w b cs) := hB
  clear hP hQ hB
  by_cases h1 : 30 < l.length
  · go_enter Try.func5, Try.ntmps5
    go_wp2_with fail
    refine (wakes_any w).mono ?_
    rintro _ w1 ⟨rfl, b1⟩
    go_wp2_with fail
    go_ret
    exact ⟨rfl, b1⟩
  by_cases h2 : 30 < m.length
  · go_enter Try.func5, Try.ntmps5
    go_wp2_with fail
    refine (wakes_any w).mono ?_
    rintro _ w1 ⟨rfl, b1⟩
    go_wp2_with fail
    go_ret
    exact ⟨rfl, b1⟩
  by_cases h3 : 60 < cs.length
  · go_enter Try.func5, Try.ntmps5
    go_wp2_with fail
    refine (wakes_any w).mono ?_
    rintro _ w1 ⟨rfl, b1⟩
    go_wp2_with fail
    go_ret
    exact ⟨rfl, b1⟩
  have hnew := new_any w 4
  go_enter Try.func5, Try.ntmps5
  go_wp2_with fail
  refine hnew.mono ?_
  rintro _ w1 ⟨N1, p, F1, rfl, D1, hF1⟩
  have A1 : Above w.heap.size w w1 F1 := ⟨N1, hF1, N1.size⟩
  have c1 := grow_any D1 4
  change Calls _ _ _ _ (fun e w' => e = .returned (.int .i64 (St.grow ⟨4, [], [], -1, false⟩ 4).1) ∧ Left F1 p w1 (St.grow ⟨4, [], [], -1, false⟩ 4).2 w') at c1
  rw [ee4] at c1
  clear hnew N1 hF1 D1
  go_wp2_with fail
  refine c1.mono ?_
  rintro _ w2 ⟨rfl, F2, D2, T2⟩
  have A2 := A1.step T2
  clear c1 A1 T2
  go_wp2_with (refine wpList_alloc_new (by rfl) 60 (by rfl) _ _ _ info60 ?_; intro W3 R3 N3)
  have A3 := A2.new N3
  have D3 := D2.after N3
  have hF3 : ¬ F2 w2.heap.size := fun h => absurd (D2.inside _ h) (Nat.lt_irrefl _)
  have hb3 : w.heap.size ≤ w2.heap.size := A2.size
  have C3 : Calm ⟨4, [zeros, zeros, zeros, zeros], [], -1, false⟩ 4 4 0 := ⟨rfl, rfl, Nat.le_refl _, rfl, rfl⟩
  have E3 : St.seen ⟨4, [zeros, zeros, zeros, zeros], [], -1, false⟩ = ([0, 0, 0, 0] : List UInt8).map fillL := fills_zero4
  generalize (⟨4, [zeros, zeros, zeros, zeros], [], -1, false⟩ : St) = S3 at D3 C3 E3
  generalize w2.heap.size = g at R3 hF3 hb3 ⊢
  clear A2 N3 D2
  go_loopw [10] (fun u wr => ∃ (i : Nat) (S : St) (old : List UInt8) (F : Nat → Prop), u = .int .i64 (i : Int) ∧ i ≤ l.length ∧ old.length = 4 ∧ Calm S 4 4 i ∧ S.seen = old.map fillL ∧ Disk wr F p S ∧ Above w.heap.size w wr F ∧ Row wr g (cellsL old).toArray 60 ∧ ¬ F g) (fun u _ => l.length - (intOf u).toNat)
  case atStart => exact ⟨0, S3, [0, 0, 0, 0], _, rfl, by omega, rfl, C3, E3, D3, A3, R3, hF3⟩
  case round =>
    obtain ⟨i, S, old, F, rfl, hi, hold, C, E, D, A, R, hF⟩ := hrel
    by_cases hil : i < l.length
    · obtain ⟨x, rfl, hx⟩ := HP.out (by omega)
      obtain ⟨hx0, hx1⟩ := hx i hil
      clear hx
      generalize l.getD i (0, 0) = uv at hx0 hx1
      obtain ⟨u, v⟩ := uv
      simp only at hx0 hx1
      have HX : Hid (w.cell? (x.add (i * 2)) = some (.int .u8 (u.toNat : Int)) ∧ w.cell? (x.add (i * 2 + 1)) = some (.int .u8 (v.toNat : Int))) := ⟨hx0, hx1⟩
      obtain ⟨n, hn, hn256⟩ : ∃ n : Nat, u.toNat = n ∧ n < 256 := ⟨_, rfl, UInt8.toNat_lt _⟩
      rw [hn] at hx0 HX
      clear hn
      obtain ⟨k, hk, hk4⟩ : ∃ k : Nat, (n : Int) % 4 = (k : Int) ∧ k < 4 := ⟨n % 4, by omega, by omega⟩
      obtain ⟨y0, y1, y2⟩ := pair_cells A.below hx0 hx1
      clear hx0 hx1
      have hne := NewW.ne wr
      have hil' : (i : Int) < (l.length : Int) := by omega
      go_wp2_with fail
      refine region_first 14 2 wr (New.refl wr) (by kernel_rfl) (by kernel_rfl) ?_
      simp only [List.take_succ_cons, List.take_zero, List.drop_succ_cons, List.drop_zero, List.take_nil]
      iterate 14 (go_big_quiet_step (first | (go_at_call 13; exact Calls.neww (fill_any v _))))
      refine wpQuiet_nil ?_
      rintro w4 ⟨⟨_, N4⟩, rfl⟩
      have A4 := A.new N4
      have D4 := D.after N4
      have R4 := R.after N4
      obtain ⟨S5, e5, C5, E5, _⟩ := C.write hk4 (fillL_length v)
      have c5 := write_any D4 (k : Int) (bs (fillL v)) (by have := C.few; omega)
      rw [L_bs, e5] at c5
      clear y0 y1 y2 hne N4 A D R
      go_wp2_with fail
      refine c5.mono ?_
      rintro _ w5 ⟨rfl, F5, D5, T5⟩
      have A5 := A4.step T5
      obtain ⟨R5, hF5⟩ := R4.beside T5 hF
      obtain ⟨y0, y1, y2⟩ := pair_cells A5.below HX.out.1 HX.out.2
      have hne := NewW.ne w5
      rw [E, ← List.map_set] at E5
      clear c5 A4 T5 R4 D4 hF C e5 E
      go_wp2_with fail
      refine region_first 12 1 w5 (New.refl w5) (by kernel_rfl) (by kernel_rfl) ?_
      simp only [List.take_succ_cons, List.take_zero, List.drop_succ_cons, List.drop_zero, List.take_nil]
      iterate 12 (go_big_quiet_step (fail))
      refine wpQuiet_nil ?_
      rintro w6 ⟨⟨_, N6⟩, rfl⟩
      have A6 := A5.new N6
      have D6 := D5.after N6
      have R6 := R5.after N6
      have hr1 := R6.byte (i := k) (by omega)
      have hr2 := R6.frozen k
      have hn5 : (old.set k v).length = 4 := by rw [List.length_set, hold]
      have RR := R6.setByte k v
      have DD : Disk (w6.setCell ⟨g, k, none⟩ (.int .u8 (v.toNat : Int))) F5 p S5 := D6.of (fun b hb => Below.heap_setCell _ _ _ _ (fun e => hF5 (by cases e; exact hb))) (by simp [World.setCell])
      have AA : Above w.heap.size w (w6.setCell ⟨g, k, none⟩ (.int .u8 (v.toNat : Int))) F5 := ⟨Below.setCell A6.below hb3 _, A6.foot, by simpa [World.setCell] using A6.size⟩
      clear y0 y1 y2 hne N6 A5 D5 R5 A6 D6 R6
      go_wp2_with fail
      exact ⟨⟨i + 1, S5, old.set k v, F5, by go_num, by omega, hn5, C5, E5, DD, AA, RR, hF5⟩, by simp [intOf]; omega⟩
    · obtain rfl : i = l.length := by omega
      have c4 := sync_any D
      obtain ⟨S4, e4, C4, _, E4, E5⟩ := C.sync
      rw [e4] at c4
      rw [E] at E4
      go_wp2_with fail
      refine c4.mono ?_
      rintro _ w4 ⟨rfl, F4, D4, T4⟩
      have A4 := A.step T4
      obtain ⟨R4, hF4⟩ := R.beside T4 hF
      clear c4 T4 A D R hF C E e4 HP hi
      go_wp2_with fail
      go_loopw [11] (fun u wr => ∃ (i : Nat) (S : St) (F : Nat → Prop), u = .int .i64 (i : Int) ∧ i ≤ m.length ∧ Calm S 4 4 i ∧ S.ps = old.map fillL ∧ S.ws = waitsOf (m.take i) ∧ Disk wr F p S ∧ Above w.heap.size w wr F ∧ Row wr g (cellsL old).toArray 60 ∧ ¬ F g) (fun u _ => m.length - (intOf u).toNat)
      case atStart => exact ⟨0, S4, _, rfl, by omega, C4, E4, E5, D4, A4, R4, hF4⟩
      case round =>
        clear D4 A4 R4 hF4 C4 E4 E5
        obtain ⟨i, S, F, rfl, hi, C, E, E', D, A, R, hF⟩ := hrel
        by_cases him : i < m.length
        · obtain ⟨x, rfl, hx⟩ := HQ.out (by omega)
          obtain ⟨hx0, hx1⟩ := hx i him
          clear hx
          have hnx := waitsOf_next m him
          generalize m.getD i (0, 0) = uv at hx0 hx1 hnx
          obtain ⟨u, v⟩ := uv
          simp only at hx0 hx1 hnx
          obtain ⟨n, hn, hn256⟩ : ∃ n : Nat, u.toNat = n ∧ n < 256 := ⟨_, rfl, UInt8.toNat_lt _⟩
          rw [hn] at hx0 hnx
          clear hn
          obtain ⟨k, hk, hk4, hkn⟩ : ∃ k : Nat, (n : Int) % 4 = (k : Int) ∧ k < 4 ∧ n % 4 = k := ⟨n % 4, by omega, by omega, rfl⟩
          rw [hkn, ← E'] at hnx
          obtain ⟨y0, y1, y2⟩ := pair_cells A.below hx0 hx1
          have HN : Hid (waitsOf (m.take (i + 1)) = S.ws ++ [(k, fillL v)]) := hnx
          clear hx0 hx1 hnx
          have hne := NewW.ne wr
          have him' : (i : Int) < (m.length : Int) := by omega
          go_wp2_with fail
          refine region_first 14 2 wr (New.refl wr) (by kernel_rfl) (by kernel_rfl) ?_
          simp only [List.take_succ_cons, List.take_zero, List.drop_succ_cons, List.drop_zero, List.take_nil]
          iterate 14 (go_big_quiet_step (first | (go_at_call 13; exact Calls.neww (fill_any v _))))
          refine wpQuiet_nil ?_
          rintro w4 ⟨⟨_, N4⟩, rfl⟩
          have A4 := A.new N4
          have D4 := D.after N4
          have R4 := R.after N4
          obtain ⟨S5, e5, C5, _, E5, E6⟩ := C.write hk4 (fillL_length v)
          have c5 := write_any D4 (k : Int) (bs (fillL v)) (by have := C.few; omega)
          rw [L_bs, e5] at c5
          rw [E] at E5
          rw [← HN.out] at E6
          clear y0 y1 y2 hne N4 A D R
          go_wp2_with fail
          refine c5.mono ?_
          rintro _ w5 ⟨rfl, F5, D5, T5⟩
          have A5 := A4.step T5
          obtain ⟨R5, hF5⟩ := R4.beside T5 hF
          clear c5 A4 T5 R4 D4 hF C e5 E E'
          go_wp2_with fail
          exact ⟨⟨i + 1, S5, F5, by go_num, by omega, C5, E5, E6, D5, A5, R5, hF5⟩, by simp [intOf]; omega⟩
        · obtain rfl : i = m.length := by omega
          rw [List.take_length] at E'
          have hFb : 0 < cs.length → ∀ x, b = some x → ¬ F x.block := fun h0 x hx hFx => by
            have h4 := HB.out.block h0 x hx
            have h5 := A.foot _ hFx
            omega
          have c5 := crash_more D b d cs (HB.out.below A.below (Nat.le_refl _)) hFb (by omega)
          have e5 : S.crash cs = ⟨4, crashN (old.map fillL) (waitsOf m) cs (min cs.length m.length), [], -1, false⟩ := by
            unfold St.crash crashed
            rw [C.lim, E, E', waitsOf_length]
          rw [e5] at c5
          clear C E E' e5 hFb
          go_wp2_with fail
          refine c5.mono ?_
          rintro _ w5 ⟨rfl, F5, D5, T5⟩
          have A5 := A.step T5
          obtain ⟨R5, hF5⟩ := R.beside T5 hF
          clear c5 T5 A D R hF hi
          obtain ⟨K, hK⟩ : ∃ K, min cs.length m.length = K := ⟨_, rfl⟩
          rw [hK] at D5
          have hpl : (crashN (old.map fillL) (waitsOf m) cs K).length = 4 := by rw [crashN_length, List.length_map, hold]
          have HS : Hid (∀ q k, q < 4 → k < 4 → sec ((crashN (old.map fillL) (waitsOf m) cs K).getD q []) k = List.replicate 64 (wantN (old.getD q 0) m cs q k K)) := fun q k hq hk => crashN_sec hold hq hk K (by omega)
          have HL : Hid (∀ q, q < 4 → ((crashN (old.map fillL) (waitsOf m) cs K).getD q []).length = 256) := fun q hq => getD_length (crashN_page (by rw [List.length_map, hold]) (fun q hq => by obtain ⟨v, _, rfl⟩ := List.mem_map.1 hq; exact fillL_length v) K (by omega)) (by omega)
          generalize crashN (old.map fillL) (waitsOf m) cs K = pp at D5 hpl HS HL
          go_wp2_with fail
          go_loopw [12] (fun u wr => ∃ q : Nat, u = .int .i64 (q : Int) ∧ q ≤ 4 ∧ Disk wr F5 p ⟨4, pp, [], -1, false⟩ ∧ Above w.heap.size w wr F5 ∧ Row wr g (cellsL old).toArray 60) (fun u _ => 4 - (intOf u).toNat)
          case atStart => exact ⟨0, rfl, by omega, D5, A5, R5⟩
          case round =>
            clear D5 A5 R5
            obtain ⟨q, rfl, hq, D6, A6, R6⟩ := hrel
            by_cases hq4 : q < 4
            · have hq4' : (q : Int) < 4 := by omega
              have c6 := read_any D6 (q : Int)
              rw [still_read q (by rw [hpl]; exact hq4)] at c6
              have hs6 : (bs (pp.getD q [])).size = 256 := by rw [bs_size]; exact HL.out q hq4
              have HS6 : Hid (∀ k, k < 4 → sec (pp.getD q []) k = List.replicate 64 (wantN (old.getD q 0) m cs q k K)) := fun k hk => HS.out q k hq4 hk
              generalize pp.getD q [] = pg at c6 hs6 HS6
              obtain ⟨sp, hsp⟩ : ∃ sp, bs pg = sp := ⟨_, rfl⟩
              rw [hsp] at c6 hs6
              have HSP : Hid (bs pg = sp) := hsp
              clear hsp
              go_wp2_with fail
              refine c6.mono ?_
              rintro _ w7 ⟨rfl, N7⟩
              have A7 := A6.new N7
              have D7 := D6.after N7
              have R7 := R6.after N7
              clear c6 N7 A6 D6 R6
              have hsI : (sp.size : Int) = 256 := by omega
              go_wp2_with fail
              go_loopw [15] (fun u wr => ∃ k : Nat, u = .int .i64 (k : Int) ∧ k ≤ 4 ∧ Disk wr F5 p ⟨4, pp, [], -1, false⟩ ∧ Above w.heap.size w wr F5 ∧ Row wr g (cellsL old).toArray 60) (fun u _ => 4 - (intOf u).toNat)
              case atStart => exact ⟨0, rfl, by omega, D7, A7, R7⟩
              case round =>
                clear D7 A7 R7
                obtain ⟨k, rfl, hk, D8, A8, R8⟩ := hrel
                by_cases hk4 : k < 4
                · have hk4' : (k : Int) < 4 := by omega
                  have hby := R8.byte (i := q) (by omega)
                  obtain ⟨z, hz⟩ : ∃ z, old.getD q 0 = z := ⟨_, rfl⟩
                  have HSk : Hid (sec pg k = List.replicate 64 (wantN z m cs q k K)) := by have := HS6.out k hk4; rw [hz] at this; exact this
                  rw [hz] at hby
                  have HZ : Hid (∀ i, wantN z m cs q k (i + 1) = if (m.getD i (0, 0)).1.toNat % 4 = q ∧ bitOf (cs.getD i 0).toNat k = true then (m.getD i (0, 0)).2 else wantN z m cs q k i) := wantN_next z m cs q k
                  have HZ0 : Hid (wantN z m cs q k 0 = z) := rfl
                  generalize wantN z m cs q k = wn at HSk HZ HZ0
                  clear hz
                  go_wp2_with fail
                  clear hby
                  go_loopw [16, 17] (fun u v wr' => ∃ i : Nat, u = .int .u8 ((wn i).toNat : Int) ∧ v = .int .i64 (i : Int) ∧ i ≤ K ∧ wr' = wr) (fun _ v _ => K - (intOf v).toNat)
                  case atStart => exact ⟨0, by rw [HZ0.out], rfl, by omega, rfl⟩
                  case round =>
                    obtain ⟨i, rfl, rfl, hi, rfl⟩ := hrel
                    by_cases hiK : i < K
                    · have him : (i : Int) < (m.length : Int) := by omega
                      have hic : (i : Int) < (cs.length : Int) := by omega
                      obtain ⟨x, rfl, hx⟩ := HQ.out (by omega)
                      obtain ⟨hx0, hx1⟩ := hx i (by omega)
                      obtain ⟨y, rfl, hy⟩ := HB.out (by omega)
                      have hy0 := cell_below A8.below (hy i (by omega)) (Nat.le_refl _)
                      have hz := HZ.out i
                      generalize m.getD i (0, 0) = uv at hx0 hx1 hz
                      obtain ⟨u, v⟩ := uv
                      simp only at hx0 hx1 hz
                      obtain ⟨n, hn, hn256⟩ : ∃ n : Nat, u.toNat = n ∧ n < 256 := ⟨_, rfl, UInt8.toNat_lt _⟩
                      obtain ⟨cb, hcb, hc256⟩ : ∃ cb : Nat, (cs.getD i 0).toNat = cb ∧ cb < 256 := ⟨_, rfl, UInt8.toNat_lt _⟩
                      rw [hn] at hx0 hz
                      rw [hcb] at hy0 hz
                      obtain ⟨y1, y2⟩ := pair_two A8.below hx1
                      have y0 := cell_below A8.below hx0 (Nat.le_refl _)
                      obtain ⟨e, he, he4⟩ : ∃ e : Nat, (n : Int) % 4 = (e : Int) ∧ n % 4 = e := ⟨n % 4, by omega, rfl⟩
                      rw [he4] at hz
                      clear hx hy hn hcb hx0 hx1 he4
                      have ht0 := bit_test cb 0 hc256
                      have ht1 := bit_test cb 1 hc256
                      have ht2 := bit_test cb 2 hc256
                      have ht3 := bit_test cb 3 hc256
                      rw [show ((cb / 2 ^ 0 : Nat) : Int) = (cb : Int) by omega] at ht0
                      rw [show ((cb / 2 ^ 1 : Nat) : Int) = (cb : Int) / 2 by omega] at ht1
                      rw [show ((cb / 2 ^ 2 : Nat) : Int) = (cb : Int) / 4 by omega] at ht2
                      rw [show ((cb / 2 ^ 3 : Nat) : Int) = (cb : Int) / 8 by omega] at ht3
                      by_cases heq : e = q
                      · subst heq
                        by_cases hbit : bitOf cb k = true
                        · have HW : Hid (wn (i + 1) = v) := by rw [if_pos ⟨rfl, hbit⟩] at hz; exact hz
                          have hk4c : k = 0 ∨ k = 1 ∨ k = 2 ∨ k = 3 := by omega
                          clear hz
                          rcases hk4c with rfl | rfl | rfl | rfl
                          all_goals
                            go_wp2_with fail
                            exact ⟨⟨i + 1, by rw [HW.out], by go_num, by omega, by trivial⟩, by simp [intOf]; omega⟩
                        · have HW : Hid (wn (i + 1) = wn i) := by rw [if_neg (fun h => hbit h.2)] at hz; exact hz
                          have hk4c : k = 0 ∨ k = 1 ∨ k = 2 ∨ k = 3 := by omega
                          clear hz
                          simp only [Bool.not_eq_true] at hbit
                          rcases hk4c with rfl | rfl | rfl | rfl
                          all_goals
                            go_wp2_with fail
                            exact ⟨⟨i + 1, by rw [HW.out], by go_num, by omega, by trivial⟩, by simp [intOf]; omega⟩
                      · have HW : Hid (wn (i + 1) = wn i) := by rw [if_neg (fun h => heq h.1)] at hz; exact hz
                        have heqI : ¬ (e : Int) = (q : Int) := by omega
                        clear hz ht0 ht1 ht2 ht3
                        go_wp2_with fail
                        exact ⟨⟨i + 1, by rw [HW.out], by go_num, by omega, by trivial⟩, by simp [intOf]; omega⟩
                    · obtain rfl : i = K := by omega
                      have hcut := page_cut HSk.out
                      have hfc := fill_cut (wn i)
                      have f9 := fill_any (wn i)
                      have hsf : (bs (fillL (wn i))).size = 256 := by rw [bs_size, fillL_length]
                      have hex : (¬ (i : Int) < (m.length : Int)) ∨ ((i : Int) < (m.length : Int) ∧ ¬ (i : Int) < (cs.length : Int)) := by omega
                      obtain ⟨o, ho⟩ : ∃ o : Nat, 64 * k = o := ⟨_, rfl⟩
                      have hoI : 64 * (k : Int) = (o : Int) := by omega
                      have ho4 : o + 64 ≤ 256 := by omega
                      rw [ho] at hcut
                      have hne := NewW.ne wr
                      have HD : Hid (Disk wr F5 p ⟨4, pp, [], -1, false⟩ ∧ Above w.heap.size w wr F5 ∧ Row wr g (cellsL old).toArray 60) := ⟨D8, A8, R8⟩
                      generalize (wn i).toNat = wnn at f9 ⊢
                      generalize bs (fillL (wn i)) = sf at hfc f9 hsf
                      generalize bs (List.replicate 64 (wn i)) = sr at hcut hfc
                      rw [HSP.out] at hcut
                      clear D8 A8 R8 HSk HZ HZ0 HS6 HS HL HQ HB
                      rcases hex with hex | ⟨hex, hey⟩
                      all_goals
                        go_wp2_with fail
                        refine region_first 11 0 wr (New.refl wr) (by kernel_rfl) (by kernel_rfl) ?_
                        simp only [List.take_succ_cons, List.drop_succ_cons, List.drop_zero, List.take_nil]
                        iterate 11 (go_big_quiet_step (first | (go_at_call 13; exact Calls.neww (f9 _))))
                        refine wpQuiet_nil ?_
                        rintro w9 ⟨⟨_, N9⟩, rfl⟩
                        go_wp2_with fail
                        exact ⟨⟨k + 1, by go_num, by omega, HD.out.1.after N9, HD.out.2.1.new N9, HD.out.2.2.after N9⟩, by simp [intOf]; omega⟩
                · obtain rfl : k = 4 := by omega
                  go_wp2_with fail
                  exact ⟨⟨q + 1, by go_num, by omega, D8, A8, R8⟩, by simp [intOf]; omega⟩
            · obtain rfl : q = 4 := by omega
              go_wp2_with fail
              refine (wakes_any wr).mono ?_
              rintro _ w1 ⟨rfl, b1⟩
              go_wp2_with fail
              go_ret
              exact ⟨rfl, (A6.new b1).below⟩

end Go.Proofs.Ytamaijolggdakaa
