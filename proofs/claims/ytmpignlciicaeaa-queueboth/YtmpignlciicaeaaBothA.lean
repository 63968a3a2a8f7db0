/-
  QueueBoth walked: the one queue, the other into which is pushed, popped side by side.
-/
import Derived.Test.YtmpignlciicaeaaApp
namespace Go.Proofs.Ytmpignlciicaeaa
open Go.RowKit

set_option maxHeartbeats 4000000 in
theorem both_walk {w : World} {p q : Option Addr} {l m : List Int} (c d n k : Nat) (hn : l.length = n) (hk : m.length = k) (hn63 : n ≤ 9223372036854775807) (hk63 : k ≤ 9223372036854775807) (ha : Arg w p l) (hb : Arg w q m) :
    Calls Try.prog 5 #[.slice p n c, .slice q k d] w fun e w' => e = .returned (.bool true) ∧ Below w.heap.size w w' := by
  by_cases h1 : 150 < n
  · clear hn hk ha hb
    go_enter Try.func5, Try.ntmps5
    go_wp2_with fail
    refine (wakes_any w).mono ?_
    rintro _ w1 ⟨rfl, b1⟩
    go_wp2_with fail
    go_ret
    exact ⟨rfl, b1⟩
  by_cases h2 : 150 < k
  · clear hn hk ha hb
    go_enter Try.func5, Try.ntmps5
    go_wp2_with fail
    refine (wakes_any w).mono ?_
    rintro _ w1 ⟨rfl, b1⟩
    go_wp2_with fail
    go_ret
    exact ⟨rfl, b1⟩
  have HN : Hid (l.length = n) := hn
  have HK : Hid (m.length = k) := hk
  have HA : Hid (Arg w p l) := ha
  have HB : Hid (Arg w q m) := hb
  have B0 : Below w.heap.size w (w.alloc (.cells #[] 3)) := (Below.refl _ w).alloc (Nat.le_refl _) _
  clear hn hk ha hb
  go_enter Try.func5, Try.ntmps5
  go_wp2_with (at_builtin; refine wpList_app (by rfl) _ _ 22 (by rfl) Try.underlying22 w.heap.size 0 0 n c [] l p (by rfl) (by rfl) rfl HN.out (row_new w) (HA.out.below B0) (by omega) ?_)
  intro g1 cap1 w1 R1 G1 hg1
  have S0 : w.heap.size + 1 ≤ w1.heap.size := by have := G1.size; rwa [World.size_alloc] at this
  have hgw1 : w.heap.size ≤ g1 := by rcases hg1 with h | h <;> omega
  have B1 : Below w.heap.size w w1 := B0.grown G1 (by simp) (fun j hj => by cases hj; exact Nat.le_refl _)
  clear G1 B0
  go_wp2_with (at_builtin; refine wpList_app (by rfl) _ _ 22 (by rfl) Try.underlying22 g1 cap1 n k d l m q (by rfl) (by rfl) HN.out HK.out R1 (HB.out.below B1) (by omega) ?_)
  intro g2 cap2 w2 R2 G2 hg2
  have S1 := G2.size
  have hgw2 : w.heap.size ≤ g2 := by rcases hg2 with h | h <;> omega
  have B2 : Below w.heap.size w w2 := B1.grown G2 (by omega) (fun j hj => by cases hj; exact hgw1)
  clear G2 B1 R1
  have hnew := new_any (p := some ⟨g2, 0, none⟩) cap2 (n + k) (by rw [List.length_append, HN.out, HK.out]) (by omega) R2.arg
  clear R2
  go_wp2_with fail
  refine hnew.mono ?_
  rintro _ w3 ⟨a1, b1, rfl, q1, ha1, hb1, b3⟩
  have B3 : Below w.heap.size w w3 := B2.trans (b3.mono B2.size)
  have hnew2 := new_any c n HN.out (by omega) (HA.out.below B3)
  have hq1 := q1.lt
  clear hnew b3
  go_wp2_with fail
  refine hnew2.mono ?_
  rintro _ w4 ⟨a2, b2, rfl, q2, ha2, hb2, b4⟩
  have B4 : Below w.heap.size w w4 := B3.trans (b4.mono B3.size)
  have q1b := q1.below b4
  have hs3 := B3.size
  have hs2 := B2.size
  have d1 : a1 ≠ a2 := by omega
  have d2 : a1 ≠ b2 := by omega
  have d3 : b1 ≠ a2 := by omega
  have d4 : b1 ≠ b2 := by omega
  have e1 : w.heap.size ≤ a1 := by omega
  have e2 : w.heap.size ≤ b1 := by omega
  have e3 : w.heap.size ≤ a2 := by omega
  have e4 : w.heap.size ≤ b2 := by omega
  clear q1 b4 B3 B2 hnew2 hq1 hs3 hs2 hg1 hg2 hgw1 hgw2 S0 S1 ha1 hb1 ha2 hb2
  go_wp2_with fail
  go_loopw [7] (fun u wr => ∃ (i b' : Nat), u = .int .i64 (i : Int) ∧ i ≤ k ∧ Qu wr a1 b1 (srt (l ++ m)) ∧ Qu wr a2 b' (srt (l ++ m.take i)) ∧ Below w.heap.size w wr ∧ a1 ≠ b' ∧ b1 ≠ b' ∧ w.heap.size ≤ b') (fun u _ => k - (intOf u).toNat)
  case atStart => exact ⟨0, b2, rfl, by omega, q1b, by rw [List.take_zero, List.append_nil]; exact q2, B4, d2, d4, e4⟩
  case round =>
    obtain ⟨i, b', rfl, hi, qa, qb, B, f1, f2, f3⟩ := hrel
    have hs := B.size
    by_cases hik : i < k
    · obtain ⟨x, rfl, hx⟩ := HB.out (by rw [HK.out]; omega)
      have hc := hx i (by rw [HK.out]; exact hik)
      rw [← B.cell (World.block_lt_of_cell? w _ hc)] at hc
      have hpu := qpush_any qb (by rw [srt_length, List.length_append, HN.out, List.length_take]; omega) (g m i)
      rw [ins_srt, List.append_assoc, ← take_next (by rw [HK.out]; exact hik)] at hpu
      clear hx
      go_wp2_with fail
      refine hpu.mono ?_
      rintro _ w5 ⟨rfl, b5, q5, o5, hb5⟩
      have qa5 := qa.only o5 d1 f1 d3 f2
      have B5 := B.trans (o5.below hs e3 f3)
      have hl := qa.lt
      clear hpu
      go_wp2_with fail
      go_roundw
      case rel => exact ⟨i + 1, b5, by simp, by omega, qa5, q5, B5, by omega, by omega, by omega⟩
      case measure => simp [intOf]; omega
    · obtain rfl : i = k := by omega
      rw [List.take_of_length_le (Nat.le_of_eq HK.out)] at qb
      obtain ⟨S, hS⟩ : ∃ S, srt (l ++ m) = S := ⟨_, rfl⟩
      have HS : Hid (S.length = n + i) := by show S.length = n + i; rw [← hS, srt_length, List.length_append, HN.out, HK.out]
      rw [hS] at qa qb
      clear hS q1b q2 B4 d2 d4
      have hl1 := qlist_any qa (n + i) HS.out (by omega)
      go_wp2_with fail
      refine hl1.mono ?_
      rintro _ w5 ⟨c5, rfl, r5, hc5, b5⟩
      have B5 := B.trans (b5.mono hs)
      have qa5 := qa.below b5
      have qb5 := qb.below b5
      have hl2 := qlist_any qb5 (n + i) HS.out (by omega)
      clear hl1
      go_wp2_with fail
      refine hl2.mono ?_
      rintro _ w6 ⟨c6, rfl, r6, hc6, b6⟩
      have B6 := B5.trans (b6.mono B5.size)
      have qa6 := qa5.below b6
      have qb6 := qb5.below b6
      have hin := ints_any (n + i) (n + i) (n + i) HS.out (by omega) (r5.arg.below b6) r6.arg
      clear hl2 r5 r6 qa5 qb5 qa qb B5 b5
      go_wp2_with fail
      refine hin.mono ?_
      rintro _ w7 ⟨rfl, b7⟩
      have B7 := B6.trans (b7.mono B6.size)
      have qa7 := qa6.below b7
      have qb7 := qb6.below b7
      clear hin B6 b6 qa6 qb6 b7
      go_wp2_with fail
      refine (qlen_any qa7 (n + i) HS.out).mono ?_
      rintro _ w8 ⟨rfl, rfl⟩
      go_wp2_with fail
      refine (qlen_any qb7 (n + i) HS.out).mono ?_
      rintro _ w9 ⟨rfl, rfl⟩
      go_wp2_with fail
      go_loopw [8] (fun u wr => ∃ (j : Nat), u = .int .i64 (j : Int) ∧ j ≤ n + i ∧ Qu wr a1 b1 (S.drop j) ∧ Qu wr a2 b' (S.drop j) ∧ Below w.heap.size w wr) (fun u _ => (n + i) - (intOf u).toNat)
      case atStart => exact ⟨0, rfl, by omega, qa7, qb7, B7⟩
      case round =>
        obtain ⟨j, rfl, hj, qa, qb, B⟩ := hrel
        have hs := B.size
        by_cases hjn : j < n + i
        · rw [drop_next (by rw [HS.out]; exact hjn)] at qa qb
          have hpa := qpop_any qa (by rw [List.length_drop, HS.out]; omega)
          go_wp2_with fail
          refine hpa.mono ?_
          rintro _ w10 ⟨rfl, qa10, o10⟩
          have qb10 := qb.only o10 (Ne.symm d1) (Ne.symm d3) (Ne.symm f1) (Ne.symm f2)
          have B10 := B.trans (o10.below hs e1 e2)
          have hpb := qpop_any qb10 (by rw [List.length_drop, HS.out]; omega)
          have hs10 := B10.size
          clear hpa
          go_wp2_with fail
          refine hpb.mono ?_
          rintro _ w11 ⟨rfl, qb11, o11⟩
          have qa11 := qa10.only o11 d1 f1 d3 f2
          have B11 := B10.trans (o11.below hs10 e3 f3)
          clear hpb qa10 qb10 qa qb B10 o10 o11
          go_wp2_with fail
          go_roundw
          case rel => exact ⟨j + 1, by simp, by omega, qa11, qb11, B11⟩
          case measure => simp [intOf]; omega
        · obtain rfl : j = n + i := by omega
          rw [List.drop_of_length_le (Nat.le_of_eq HS.out)] at qa qb
          go_wp2_with fail
          refine (qlen_any qa 0 rfl).mono ?_
          rintro _ w10 ⟨rfl, rfl⟩
          go_wp2_with fail
          refine (qlen_any qb 0 rfl).mono ?_
          rintro _ w11 ⟨rfl, rfl⟩
          go_wp2_with fail
          refine (wakes_any w11).mono ?_
          rintro _ w12 ⟨rfl, b12⟩
          go_wp2_with fail
          go_ret
          exact ⟨rfl, B.trans (b12.mono hs)⟩

end Go.Proofs.Ytmpignlciicaeaa
