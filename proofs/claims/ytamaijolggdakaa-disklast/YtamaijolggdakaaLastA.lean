/-
  DiskLast walked: what is read is what was written last.
-/
import Derived.Test.YtamaijolggdakaaCalm
namespace Go.Proofs.Ytamaijolggdakaa
open Go.RowKit

theorem ee5 : St.grow ⟨5, [], [], -1, false⟩ 3 = (0, ⟨5, [zeros, zeros, zeros], [], -1, false⟩) := by kernel_rfl
theorem fills_zero : [zeros, zeros, zeros] = ([0, 0, 0] : List UInt8).map fillL := by rw [← fill_zero]; rfl

theorem pair_cell {w w' : World} (hB : Below w.heap.size w w') {x : Addr} {i : Nat} {v : Value} (h : w.cell? (x.add (i * 2 + 1)) = some v) : w'.cell? ⟨(x.add (i * 2)).block, (x.add (i * 2)).off + 1, none⟩ = some v ∧ w'.cell? ⟨x.block, (x.add (i * 2)).off + 1, none⟩ = some v := by
  have h1 := cell_below hB h (Nat.le_refl _)
  rw [← Go.Deep.add_add] at h1
  refine ⟨h1, ?_⟩
  rw [← add_block x (i * 2)]
  exact h1

set_option maxRecDepth 40000 in
set_option maxHeartbeats 8000000 in
theorem last_walk (a : Option Addr) (c : Nat) (l : List (UInt8 × UInt8)) (s : Int) (w : World) (hP : Pairs w a l) (hl : l.length ≤ 9223372036854775807) : Calls Try.prog 8 #[.slice a l.length c, .int .u32 s] w fun e w' => e = .returned (.bool true) ∧ New w w' := by
  have HP : Hid (Pairs w a l) := hP
  clear hP
  by_cases h1 : 32 < l.length
  · go_enter Try.func8, Try.ntmps8
    go_wp2_with fail
    refine (wakes_any w).mono ?_
    rintro _ w1 ⟨rfl, b1⟩
    go_wp2_with fail
    go_ret
    exact ⟨rfl, b1⟩
  have hnew := new_any w 5
  go_enter Try.func8, Try.ntmps8
  go_wp2_with fail
  refine hnew.mono ?_
  rintro _ w1 ⟨N1, p, F1, rfl, D1, hF1⟩
  have A1 : Above w.heap.size w w1 F1 := ⟨N1, hF1, N1.size⟩
  have c1 := grow_any D1 3
  change Calls _ _ _ _ (fun e w' => e = .returned (.int .i64 (St.grow ⟨5, [], [], -1, false⟩ 3).1) ∧ Left F1 p w1 (St.grow ⟨5, [], [], -1, false⟩ 3).2 w') at c1
  rw [ee5] at c1
  clear hnew N1 hF1 D1
  go_wp2_with fail
  refine c1.mono ?_
  rintro _ w2 ⟨rfl, F2, D2, T2⟩
  have A2 := A1.step T2
  clear c1 A1 T2
  go_wp2_with (refine wpList_alloc_new (by rfl) 67 (by rfl) _ _ _ info67 ?_; intro W3 R3 N3)
  have A3 := A2.new N3
  have D3 := D2.after N3
  have hF3 : ¬ F2 w2.heap.size := fun h => absurd (D2.inside _ h) (Nat.lt_irrefl _)
  have hb3 : w.heap.size ≤ w2.heap.size := A2.size
  have C3 : Calm ⟨5, [zeros, zeros, zeros], [], -1, false⟩ 5 3 0 := ⟨rfl, rfl, Nat.le_refl _, rfl, rfl⟩
  have E3 : St.seen ⟨5, [zeros, zeros, zeros], [], -1, false⟩ = ([0, 0, 0] : List UInt8).map fillL := fills_zero
  generalize (⟨5, [zeros, zeros, zeros], [], -1, false⟩ : St) = S3 at D3 C3 E3
  generalize w2.heap.size = g at R3 hF3 hb3 ⊢
  clear A2 N3 D2
  go_loopw [8] (fun u wr => ∃ (i : Nat) (S : St) (now : List UInt8) (F : Nat → Prop), u = .int .i64 (i : Int) ∧ i ≤ l.length ∧ now.length = 3 ∧ Calm S 5 3 i ∧ S.seen = now.map fillL ∧ Disk wr F p S ∧ Above w.heap.size w wr F ∧ Row wr g (cellsL now).toArray 67 ∧ ¬ F g) (fun u _ => l.length - (intOf u).toNat)
  case atStart => exact ⟨0, S3, [0, 0, 0], _, rfl, by omega, rfl, C3, E3, D3, A3, R3, hF3⟩
  case round =>
    obtain ⟨i, S, now, F, rfl, hi, hnow, C, E, D, A, R, hF⟩ := hrel
    by_cases hil : i < l.length
    · obtain ⟨x, rfl, hx⟩ := HP.out (by omega)
      have hx0 := cell_below A.below (hx i hil).1 (Nat.le_refl _)
      have hx1 := (hx i hil).2
      clear hx
      generalize l.getD i (0, 0) = uv at hx0 hx1
      obtain ⟨u, v⟩ := uv
      simp only at hx0 hx1
      have HX : Hid (w.cell? (x.add (i * 2 + 1)) = some (.int .u8 (v.toNat : Int))) := hx1
      obtain ⟨hxa, hxb⟩ := pair_cell A.below hx1
      clear hx1
      obtain ⟨n, hn, hn256⟩ : ∃ n : Nat, u.toNat = n ∧ n < 256 := ⟨_, rfl, UInt8.toNat_lt _⟩
      rw [hn] at hx0
      clear hn
      obtain ⟨k, hk, hk4⟩ : ∃ k : Nat, (n : Int) % 4 = (k : Int) ∧ k < 4 := ⟨n % 4, by omega, by omega⟩
      have f1 := fill_any v wr
      have hil' : (i : Int) < (l.length : Int) := by omega
      go_wp2_with fail
      refine f1.mono ?_
      rintro _ w4 ⟨rfl, N4⟩
      have A4 := A.new N4
      have D4 := D.after N4
      have R4 := R.after N4
      clear hx0 hxa hxb f1 A D R N4
      by_cases hk3 : k < 3
      · obtain ⟨S5, e5, C5, E5, _⟩ := C.write hk3 (fillL_length v)
        have c5 := write_any D4 (k : Int) (bs (fillL v)) (by have := C.few; omega)
        rw [L_bs, e5] at c5
        go_wp2_with fail
        refine c5.mono ?_
        rintro _ w5 ⟨rfl, F5, D5, T5⟩
        have A5 := A4.step T5
        obtain ⟨R5, hF5⟩ := R4.beside T5 hF
        obtain ⟨hxa, hxb⟩ := pair_cell A5.below HX.out
        have hr1 := R5.byte (i := k) (by omega)
        have hr2 := R5.frozen k
        rw [E, ← List.map_set] at E5
        clear c5 A4 T5 R4 D4 hF C e5 E
        have hn5 : (now.set k v).length = 3 := by rw [List.length_set, hnow]
        have hgw := A5.size
        have R6 := R5.setByte k v
        have D6 : Disk (w5.setCell ⟨g, k, none⟩ (.int .u8 (v.toNat : Int))) F5 p S5 := D5.of (fun b hb => Below.heap_setCell _ _ _ _ (fun e => hF5 (by cases e; exact hb))) (by simp [World.setCell])
        have A6 : Above w.heap.size w (w5.setCell ⟨g, k, none⟩ (.int .u8 (v.toNat : Int))) F5 := ⟨Below.setCell A5.below hb3 _, A5.foot, by simpa [World.setCell] using A5.size⟩
        clear D5 A5 R5
        go_wp2_with fail
        all_goals
          clear hr1 hr2 hxa hxb
          generalize w5.setCell ⟨g, k, none⟩ (.int .u8 (v.toNat : Int)) = w5' at D6 A6 R6 ⊢
          generalize now.set k v = now' at E5 R6 hn5
        · have c6 := sync_any D6
          obtain ⟨S6, e6, C6, E6, _⟩ := C5.sync
          have C7 := C6.mono (Nat.zero_le (i + 1))
          rw [e6] at c6
          rw [E5] at E6
          refine c6.mono ?_
          rintro _ w6 ⟨rfl, F6, DD, T6⟩
          have AA := A6.step T6
          obtain ⟨RR, hF6⟩ := R6.beside T6 hF5
          clear c6 e6 C5 E5 D6 A6 R6 hF5 T6 C6
          go_wp2_with fail
          go_loopw [11] (fun u wr' => ∃ j : Nat, u = .int .i64 (j : Int) ∧ j ≤ 3 ∧ Disk wr' F6 p S6 ∧ Above w.heap.size w wr' F6 ∧ Row wr' g (cellsL (now')).toArray 67) (fun u _ => 3 - (intOf u).toNat)
          case atStart => exact ⟨0, rfl, by omega, DD, AA, RR⟩
          case round =>
            clear DD AA RR
            obtain ⟨j, rfl, hj, D7, A7, R7⟩ := hrel
            by_cases hj3 : j < 3
            · have hj3' : (j : Int) < 3 := by omega
              have c7 := read_any D7 (j : Int)
              rw [C7.read hj3, E6, fills_getD _ (by rw [hn5]; exact hj3)] at c7
              have hby := R7.byte (i := j) (by rw [hn5]; exact hj3)
              have HR : Hid (Row _ g (cellsL (now')).toArray 67) := R7
              generalize (now').getD j 0 = vj at c7 hby
              clear R7
              go_wp2_with fail
              refine c7.mono ?_
              rintro _ w8 ⟨rfl, N8⟩
              have hby8 := (N8.cell (World.block_lt_of_cell? _ _ hby)).trans hby
              have f8 := fill_any vj w8
              clear c7 hby
              go_wp2_with fail
              refine f8.mono ?_
              rintro _ w9 ⟨rfl, N9⟩
              clear f8 hby8
              go_wp2_with fail
              exact ⟨⟨j + 1, by go_num, by omega, D7.after (N8.trans N9), A7.new (N8.trans N9), HR.out.after (N8.trans N9)⟩, by simp [intOf]; omega⟩
            · obtain rfl : j = 3 := by omega
              go_wp2_with fail
              exact ⟨⟨i + 1, S6, now', F6, by go_num, by omega, hn5, C7, E6, D7, A7, R7, hF6⟩, by simp [intOf]; omega⟩
        · go_loopw [11] (fun u wr' => ∃ j : Nat, u = .int .i64 (j : Int) ∧ j ≤ 3 ∧ Disk wr' F5 p S5 ∧ Above w.heap.size w wr' F5 ∧ Row wr' g (cellsL (now')).toArray 67) (fun u _ => 3 - (intOf u).toNat)
          case atStart => exact ⟨0, rfl, by omega, D6, A6, R6⟩
          case round =>
            clear D6 A6 R6
            obtain ⟨j, rfl, hj, D7, A7, R7⟩ := hrel
            by_cases hj3 : j < 3
            · have hj3' : (j : Int) < 3 := by omega
              have c7 := read_any D7 (j : Int)
              rw [C5.read hj3, E5, fills_getD _ (by rw [hn5]; exact hj3)] at c7
              have hby := R7.byte (i := j) (by rw [hn5]; exact hj3)
              have HR : Hid (Row _ g (cellsL (now')).toArray 67) := R7
              generalize (now').getD j 0 = vj at c7 hby
              clear R7
              go_wp2_with fail
              refine c7.mono ?_
              rintro _ w8 ⟨rfl, N8⟩
              have hby8 := (N8.cell (World.block_lt_of_cell? _ _ hby)).trans hby
              have f8 := fill_any vj w8
              clear c7 hby
              go_wp2_with fail
              refine f8.mono ?_
              rintro _ w9 ⟨rfl, N9⟩
              clear f8 hby8
              go_wp2_with fail
              exact ⟨⟨j + 1, by go_num, by omega, D7.after (N8.trans N9), A7.new (N8.trans N9), HR.out.after (N8.trans N9)⟩, by simp [intOf]; omega⟩
            · obtain rfl : j = 3 := by omega
              go_wp2_with fail
              exact ⟨⟨i + 1, S5, now', F5, by go_num, by omega, hn5, C5, E5, D7, A7, R7, hF5⟩, by simp [intOf]; omega⟩
      · have e5 := C.writeOut (i := k) (by omega) (fillL_length v)
        have c5 := write_any D4 (k : Int) (bs (fillL v)) (by have := C.few; omega)
        rw [L_bs, e5] at c5
        obtain rfl : k = 3 := by omega
        go_wp2_with fail
        refine c5.mono ?_
        rintro _ w5 ⟨rfl, F5, D5, T5⟩
        have A5 := A4.step T5
        obtain ⟨R5, hF5⟩ := R4.beside T5 hF
        have C5 := C.mono (Nat.le_succ i)
        clear c5 A4 T5 R4 D4 hF e5
        go_wp2_with fail
        · have c6 := sync_any D5
          obtain ⟨S6, e6, C6, E6, _⟩ := C5.sync
          have C7 := C6.mono (Nat.zero_le (i + 1))
          rw [e6] at c6
          rw [E] at E6
          refine c6.mono ?_
          rintro _ w6 ⟨rfl, F6, DD, T6⟩
          have AA := A5.step T6
          obtain ⟨RR, hF6⟩ := R5.beside T6 hF5
          clear c6 e6 C5 E D5 A5 R5 hF5 T6 C6
          go_wp2_with fail
          go_loopw [11] (fun u wr' => ∃ j : Nat, u = .int .i64 (j : Int) ∧ j ≤ 3 ∧ Disk wr' F6 p S6 ∧ Above w.heap.size w wr' F6 ∧ Row wr' g (cellsL (now)).toArray 67) (fun u _ => 3 - (intOf u).toNat)
          case atStart => exact ⟨0, rfl, by omega, DD, AA, RR⟩
          case round =>
            clear DD AA RR
            obtain ⟨j, rfl, hj, D7, A7, R7⟩ := hrel
            by_cases hj3 : j < 3
            · have hj3' : (j : Int) < 3 := by omega
              have c7 := read_any D7 (j : Int)
              rw [C7.read hj3, E6, fills_getD _ (by rw [hnow]; exact hj3)] at c7
              have hby := R7.byte (i := j) (by rw [hnow]; exact hj3)
              have HR : Hid (Row _ g (cellsL (now)).toArray 67) := R7
              generalize (now).getD j 0 = vj at c7 hby
              clear R7
              go_wp2_with fail
              refine c7.mono ?_
              rintro _ w8 ⟨rfl, N8⟩
              have hby8 := (N8.cell (World.block_lt_of_cell? _ _ hby)).trans hby
              have f8 := fill_any vj w8
              clear c7 hby
              go_wp2_with fail
              refine f8.mono ?_
              rintro _ w9 ⟨rfl, N9⟩
              clear f8 hby8
              go_wp2_with fail
              exact ⟨⟨j + 1, by go_num, by omega, D7.after (N8.trans N9), A7.new (N8.trans N9), HR.out.after (N8.trans N9)⟩, by simp [intOf]; omega⟩
            · obtain rfl : j = 3 := by omega
              go_wp2_with fail
              exact ⟨⟨i + 1, S6, now, F6, by go_num, by omega, hnow, C7, E6, D7, A7, R7, hF6⟩, by simp [intOf]; omega⟩
        · go_loopw [11] (fun u wr' => ∃ j : Nat, u = .int .i64 (j : Int) ∧ j ≤ 3 ∧ Disk wr' F5 p S ∧ Above w.heap.size w wr' F5 ∧ Row wr' g (cellsL (now)).toArray 67) (fun u _ => 3 - (intOf u).toNat)
          case atStart => exact ⟨0, rfl, by omega, D5, A5, R5⟩
          case round =>
            clear D5 A5 R5
            obtain ⟨j, rfl, hj, D7, A7, R7⟩ := hrel
            by_cases hj3 : j < 3
            · have hj3' : (j : Int) < 3 := by omega
              have c7 := read_any D7 (j : Int)
              rw [C5.read hj3, E, fills_getD _ (by rw [hnow]; exact hj3)] at c7
              have hby := R7.byte (i := j) (by rw [hnow]; exact hj3)
              have HR : Hid (Row _ g (cellsL (now)).toArray 67) := R7
              generalize (now).getD j 0 = vj at c7 hby
              clear R7
              go_wp2_with fail
              refine c7.mono ?_
              rintro _ w8 ⟨rfl, N8⟩
              have hby8 := (N8.cell (World.block_lt_of_cell? _ _ hby)).trans hby
              have f8 := fill_any vj w8
              clear c7 hby
              go_wp2_with fail
              refine f8.mono ?_
              rintro _ w9 ⟨rfl, N9⟩
              clear f8 hby8
              go_wp2_with fail
              exact ⟨⟨j + 1, by go_num, by omega, D7.after (N8.trans N9), A7.new (N8.trans N9), HR.out.after (N8.trans N9)⟩, by simp [intOf]; omega⟩
            · obtain rfl : j = 3 := by omega
              go_wp2_with fail
              exact ⟨⟨i + 1, S, now, F5, by go_num, by omega, hnow, C5, E, D7, A7, R7, hF5⟩, by simp [intOf]; omega⟩
    · obtain rfl : i = l.length := by omega
      go_wp2_with fail
      refine (wakes_any wr).mono ?_
      rintro _ w1 ⟨rfl, b1⟩
      go_wp2_with fail
      go_ret
      exact ⟨rfl, (A.new b1).below⟩

end Go.Proofs.Ytamaijolggdakaa
