/-
  QueueRises walked: popped to the end all come, rising, each as often as it was there.
-/
import Derived.Test.YtmpignlciicaeaaApp
namespace Go.Proofs.Ytmpignlciicaeaa
open Go.RowKit

theorem qlen_drawn {w : World} {a b : Nat} {S : List Int} (h : Qu w a b S) (n : Nat) (hn : S.length = n) (k : Nat) :
    Calls Try.prog 14 #[.pointer (some ⟨a, 0, none⟩)] (w.drewN k) fun e w' => e = .returned (.int .i64 (n : Int)) ∧ w' = w.drewN k := qlen_any (w := w.drewN k) (show Qu (w.drewN k) a b S from h) n hn
theorem Below.drawnN {B : Nat} {w w' : World} (h : Below B w w') (k : Nat) : Below B w (w'.drewN k) := ⟨h.os, h.tape, h.output, h.size, h.block⟩
theorem srt_step {l : List Int} {i : Nat} (h0 : 0 < i) (hi : i < l.length) : g (srt l) (i - 1) ≤ g (srt l) i := by
  have hl := srt_length l
  rw [g_lt (by omega), g_lt (by omega)]
  exact List.pairwise_iff_getElem.1 (srt_rises l) (i - 1) i (by omega) (by omega) (by omega)
/-- How often x is among the first k. -/
def cnt (l : List Int) (x : Int) (k : Nat) : Nat := (l.take k).count x
theorem cnt_next {l : List Int} {k : Nat} (x : Int) (h : k < l.length) : cnt l x (k + 1) = cnt l x k + if (g l k == x) = true then 1 else 0 := by
  unfold cnt
  rw [take_next h, List.count_append, List.count_singleton]
theorem cnt_le (l : List Int) (x : Int) (k : Nat) : cnt l x k ≤ k := by
  unfold cnt
  exact Nat.le_trans List.count_le_length (by rw [List.length_take]; omega)
theorem cnt_all (l : List Int) (x : Int) (k : Nat) (h : l.length ≤ k) : cnt l x k = cnt (srt l) x k := by
  unfold cnt
  rw [List.take_of_length_le h, List.take_of_length_le (by rw [srt_length]; exact h)]
  exact ((srt_perm l).count_eq x).symm

set_option maxRecDepth 20000 in
set_option maxHeartbeats 4000000 in
theorem rises_walk {w : World} {p : Option Addr} {l : List Int} (c n : Nat) (hn : l.length = n) (hn63 : n ≤ 9223372036854775807) (ha : Arg w p l) :
    Calls Try.prog 4 #[.slice p n c] w fun e w' => e = .returned (.bool true) ∧ Below w.heap.size w w' := by
  by_cases h1 : 300 < n
  · clear hn ha
    go_enter Try.func4, Try.ntmps4
    go_wp2_with fail
    refine (wakes_any w).mono ?_
    rintro _ w1 ⟨rfl, b1⟩
    go_wp2_with fail
    go_ret
    exact ⟨rfl, b1⟩
  have HN : Hid (l.length = n) := hn
  have HA : Hid (Arg w p l) := ha
  have hnew := new_any c n HN.out (by omega) HA.out
  clear hn ha
  go_enter Try.func4, Try.ntmps4
  go_wp2_with fail
  refine hnew.mono ?_
  rintro _ w1 ⟨a, b, rfl, q1, e1, e2, B1⟩
  have HS : Hid ((srt l).length = n) := (srt_length l).trans HN.out
  clear hnew
  go_wp2_with fail
  refine (qlen_any q1 n HS.out).mono ?_
  rintro _ w2 ⟨rfl, rfl⟩
  go_wp2_with fail
  refine (qlist_any q1 n HS.out (by omega)).mono ?_
  rintro _ w3 ⟨cc, rfl, r3, hcc, b3⟩
  have B3 := B1.trans (b3.mono B1.size)
  have q3 := q1.below b3
  have hlt := q1.lt
  have hs1 := B1.size
  have d1 : cc ≠ a := by omega
  have d2 : cc ≠ b := by omega
  have e3 : w.heap.size ≤ cc := by omega
  clear q1 B1 b3 hlt hs1 hcc
  go_wp2_with fail
  go_loopw [5] (fun u wr => ∃ i : Nat, u = .int .i64 (i : Int) ∧ i ≤ n ∧ Qu wr a b ((srt l).drop i) ∧ Row wr cc n (srt l) ∧ Below w.heap.size w wr) (fun u _ => n - (intOf u).toNat)
  case atStart => exact ⟨0, rfl, by omega, q3, r3, B3⟩
  case round =>
    obtain ⟨i, rfl, hi, q, r, B⟩ := hrel
    have hs := B.size
    by_cases hin : i < n
    · rw [drop_next (by rw [HS.out]; exact hin)] at q
      have hpo := qpop_any q (by rw [List.length_drop, HS.out]; omega)
      go_wp2_with fail
      refine (qpeek_any q).mono ?_
      rintro _ w4 ⟨rfl, rfl⟩
      go_wp2_with fail
      refine hpo.mono ?_
      rintro _ w5 ⟨rfl, q5, o5⟩
      have r5 := r.of (o5.block cc r.lt d1 d2)
      have B5 := B.trans (o5.below hs e1 e2)
      have c1 := r5.cell (i := i) (by rw [HS.out]; exact hin)
      obtain ⟨m, hm⟩ : ∃ m : Nat, (n : Int) - 1 - (i : Int) = (m : Int) := ⟨n - 1 - i, by omega⟩
      have hql := qlen_drawn q5 m (by rw [List.length_drop, HS.out]; omega)
      clear hpo q r B o5
      by_cases h0 : i = 0
      · subst h0
        have hm0 : (n : Int) - 1 = (m : Int) := by omega
        clear hm
        go_wp2_with fail
        go_quiet (first | (go_at_call 14; refine Calls.quiet_of_same (hql _)))
        clear hm0 hql
        go_wp2_with fail
        exact ⟨⟨0 + 1, by simp, by omega, q5, r5, Below.drawnN B5 _⟩, by simp [intOf]; omega⟩
      · obtain ⟨j, rfl⟩ : ∃ j, i = j + 1 := ⟨i - 1, by omega⟩
        have c0 := r5.cell (i := j) (by rw [HS.out]; omega)
        have hlt : decide (g (srt l) (j + 1) < g (srt l) j) = false := decide_eq_false (by
          have := srt_step (l := l) (i := j + 1) (by omega) (by rw [HN.out]; exact hin)
          rw [Nat.add_sub_cancel] at this
          omega)
        have hj0 : (0 : Int) < (j : Int) + 1 := by omega
        have hm0 : (n : Int) - 1 - ((j : Int) + 1) = (m : Int) := by omega
        clear hm
        have hjn : (j : Int) + 1 < (n : Int) := by omega
        go_wp2_with fail
        go_quiet (first | (go_at_call 14; refine Calls.quiet_of_same (hql _)))
        clear hm0 hql
        go_wp2_with fail
        exact ⟨⟨j + 1 + 1, by simp, by omega, q5, r5, Below.drawnN B5 _⟩, by simp [intOf]; omega⟩
    · obtain rfl : i = n := by omega
      rw [List.drop_of_length_le (Nat.le_of_eq HS.out)] at q
      clear q3 r3 B3
      go_wp2_with fail
      go_loopw [10] (fun u wr => ∃ k : Nat, u = .int .i64 (k : Int) ∧ k ≤ i ∧ Qu wr a b [] ∧ Row wr cc i (srt l) ∧ Below w.heap.size w wr) (fun u _ => i - (intOf u).toNat)
      case atStart => exact ⟨0, rfl, by omega, q, r, B⟩
      case round =>
        obtain ⟨k, rfl, hk, q, r, B⟩ := hrel
        have hs := B.size
        by_cases hki : k < i
        · obtain ⟨x, rfl, hx⟩ := HA.out (by rw [HN.out]; omega)
          have hck := hx k (by rw [HN.out]; exact hki)
          have hbx := World.block_lt_of_cell? w _ hck
          obtain ⟨X, hX⟩ : ∃ X, g l k = X := ⟨_, rfl⟩
          rw [hX] at hck
          clear hX
          go_wp2_with fail
          go_loopw [11, 12] (fun u v wr => ∃ (j : Nat) (z : Int), v = .int .i64 (j : Int) ∧ u = .int .i64 z ∧ j ≤ i ∧ z = (cnt l X j : Int) - (cnt (srt l) X j : Int) ∧ Qu wr a b [] ∧ Row wr cc i (srt l) ∧ Below w.heap.size w wr) (fun _ v _ => i - (intOf v).toNat)
          case atStart => exact ⟨0, 0, rfl, rfl, by omega, by simp [cnt], q, r, B⟩
          case round =>
            obtain ⟨j, z, rfl, rfl, hj, hz, q, r, B⟩ := hrel
            have hs := B.size
            have hz1 := cnt_le l X j
            have hz2 := cnt_le (srt l) X j
            have hzl : z ≤ 300 := by omega
            have hzg : -300 ≤ z := by omega
            have HZ : Hid (z = (cnt l X j : Int) - (cnt (srt l) X j : Int)) := hz
            clear hz hz1 hz2
            by_cases hji : j < i
            · have hn1 := cnt_next (l := l) (k := j) X (by rw [HN.out]; exact hji)
              have hn2 := cnt_next (l := srt l) (k := j) X (by rw [HS.out]; exact hji)
              have c1 := hx j (by rw [HN.out]; exact hji)
              have c2 := r.cell (i := j) (by rw [HS.out]; exact hji)
              have c3 := hck
              rw [← B.cell hbx] at c3
              rw [← B.cell (World.block_lt_of_cell? w _ c1)] at c1
              have Hn1 : Hid (cnt l X (j + 1) = cnt l X j + if (g l j == X) = true then 1 else 0) := hn1
              have Hn2 : Hid (cnt (srt l) X (j + 1) = cnt (srt l) X j + if (g (srt l) j == X) = true then 1 else 0) := hn2
              clear hn1 hn2
              cases t1 : (g l j == X)
              all_goals
                cases t2 : (g (srt l) j == X)
                all_goals
                  have R1 := Hn1.out
                  have R2 := Hn2.out
                  rw [t1] at R1
                  rw [t2] at R2
                  have HR : Hid (cnt l X (j + 1) = cnt l X j + _ ∧ cnt (srt l) X (j + 1) = cnt (srt l) X j + _) := ⟨R1, R2⟩
                  clear R1 R2 hx
                  go_wp2_with fail
                  go_quiet (fail)
                  go_wp2_with fail
                  go_quiet (fail)
                  go_wp2_with fail
                  go_roundw
                  case rel =>
                    refine ⟨j + 1, _, by simp, rfl, by omega, ?_, q, r, Below.drawnN B _⟩
                    have h1 := HR.out.1
                    have h2 := HR.out.2
                    have h3 := HZ.out
                    simp at h1 h2
                    omega
                  case measure => simp [intOf]; omega
            · obtain rfl : j = i := by omega
              have hz0 : z = 0 := by rw [HZ.out, cnt_all l X j (Nat.le_of_eq HN.out)]; omega
              subst hz0
              go_wp2_with fail
              go_roundw
              case rel => exact ⟨k + 1, by simp, by omega, q, r, B⟩
              case measure => simp [intOf]; omega
        · obtain rfl : k = i := by omega
          go_wp2_with fail
          refine (qpop_none q).mono ?_
          rintro _ w6 ⟨rfl, rfl⟩
          go_wp2_with fail
          refine (wakes_any w6).mono ?_
          rintro _ w7 ⟨rfl, b7⟩
          go_wp2_with fail
          go_ret
          exact ⟨rfl, B.trans (b7.mono hs)⟩

end Go.Proofs.Ytmpignlciicaeaa
