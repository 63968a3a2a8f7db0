/-
  Whether two lists are alike; and the law's own small run: it tells true.
-/
import Derived.Test.YtmpignlciicaeaaList
namespace Go.Proofs.Ytmpignlciicaeaa
open Go.RowKit

set_option maxHeartbeats 1000000 in
theorem ints_any {w : World} {p q : Option Addr} {zs : List Int} (c d n : Nat) (hn : zs.length = n) (hl : n ≤ 1000000) (ha : Arg w p zs) (hb : Arg w q zs) :
    Calls Try.prog 15 #[.slice p n c, .slice q n d] w fun e w' => e = .returned (.bool true) ∧ Below w.heap.size w w' := by
  have HZ : Hid (zs.length = n) := hn
  have HA : Hid (Arg w p zs) := ha
  have HB : Hid (Arg w q zs) := hb
  clear hn ha hb
  go_enter Try.func15, Try.ntmps15
  go_wp2_with fail
  go_loopw [5] (fun u wr => ∃ i : Nat, u = .int .i64 (i : Int) ∧ i ≤ n ∧ Below w.heap.size w wr) (fun u _ => n - (intOf u).toNat)
  case atStart => exact ⟨0, rfl, by omega, Below.refl _ _⟩
  case round =>
    obtain ⟨i, rfl, hi, hB⟩ := hrel
    by_cases h : i < n
    · obtain ⟨x, rfl, hx⟩ := HA.out (by rw [HZ.out]; omega)
      obtain ⟨y, rfl, hy⟩ := HB.out (by rw [HZ.out]; omega)
      have h1 := hx i (by rw [HZ.out]; exact h)
      have h2 := hy i (by rw [HZ.out]; exact h)
      rw [← hB.cell (World.block_lt_of_cell? w _ h1)] at h1
      rw [← hB.cell (World.block_lt_of_cell? w _ h2)] at h2
      clear hx hy
      go_wp2_with fail
      go_quiet (fail)
      go_wp2_with fail
      exact ⟨⟨i + 1, by simp, by omega, ⟨hB.os, hB.tape, hB.output, hB.size, hB.block⟩⟩, by simp [intOf]; omega⟩
    · obtain rfl : i = n := by omega
      go_wp2_with fail
      go_ret
      exact ⟨rfl, hB⟩

theorem lit_arg (w : World) (zs : List Int) : Arg (w.alloc (.cells (ints zs).toArray 3)) (some ⟨w.heap.size, 0, none⟩) zs := fun _ => ⟨_, rfl, fun i hi => by
  rw [addr_zero, cell_of_row _ _ _ _ _ _ (heap_alloc_new w _), List.getElem?_toArray, ints_get hi]⟩

theorem srt4 : srt [3, 1, 2, 1] = [1, 1, 2, 3] := srt_eq (by decide) (by unfold Rises; decide)
theorem ins1 : ins 0 [1, 2, 3] = [0, 1, 2, 3] := by decide

set_option maxHeartbeats 2000000 in
theorem wakes_any (w : World) : Calls Try.prog 6 #[] w fun e w' => e = .returned (.bool true) ∧ Below w.heap.size w w' := by
  have hnew := new_any (w := w.alloc (.cells (ints [3, 1, 2, 1]).toArray 3)) (zs := [3, 1, 2, 1]) 4 4 rfl (by omega) (lit_arg w _)
  rw [srt4] at hnew
  go_enter Try.func6, Try.ntmps6
  go_wp2_with fail
  refine hnew.mono ?_
  rintro _ w1 ⟨a, b, rfl, q1, ha, hb, b1⟩
  rw [World.size_alloc] at ha hb b1
  have B1 : Below w.heap.size w w1 := ((Below.refl w.heap.size w).alloc (Nat.le_refl _) _).trans (b1.mono (by omega))
  clear b1 hnew
  have hs := B1.size
  go_wp2_with fail
  refine (qpop_any q1 (by decide)).mono ?_
  rintro _ w2 ⟨rfl, q2, o2⟩
  have B2 := B1.trans (o2.below hs (by omega) (by omega))
  have hs2 := B2.size
  go_wp2_with fail
  refine (qpeek_any q2).mono ?_
  rintro _ w3 ⟨rfl, rfl⟩
  go_wp2_with fail
  refine (qpush_any q2 (by decide) 0).mono ?_
  rintro _ w4 ⟨rfl, b', q4, o4, hb4⟩
  rw [ins1] at q4
  have B4 := B2.trans (o4.below hs2 (by omega) (by omega))
  have hs4 := B4.size
  go_wp2_with fail
  refine (qpop_any q4 (by decide)).mono ?_
  rintro _ w5 ⟨rfl, q5, o5⟩
  have B5 := B4.trans (o5.below hs4 (by omega) (by omega))
  go_wp2_with fail
  refine (qpop_nil w5).mono ?_
  rintro _ w6 ⟨rfl, rfl⟩
  go_wp2_with fail
  refine (qpush_nil 1 w6).mono ?_
  rintro _ w7 ⟨rfl, rfl⟩
  go_wp2_with fail
  refine (qlen_any q5 3 rfl).mono ?_
  rintro _ w8 ⟨rfl, rfl⟩
  go_wp2_with fail
  refine (qlist_any q5 3 rfl (by decide)).mono ?_
  rintro _ w9 ⟨c, rfl, r9, hc, b9⟩
  have B9 := B5.trans (b9.mono B5.size)
  have hin := ints_any (w := w9.alloc (.cells (ints [1, 2, 3]).toArray 3)) 3 3 3 rfl (by omega) ((r9.of (heap_alloc_old w9 _ r9.lt)).arg) (lit_arg w9 [1, 2, 3])
  have B10 := B9.alloc B9.size (.cells (ints [1, 2, 3]).toArray 3)
  clear B1 B2 B4 B5 q1 q2 q4 o2 o4 o5 hs hs2 hs4
  go_wp2_with fail
  refine hin.mono ?_
  rintro _ w10 ⟨rfl, b10⟩
  have B11 := B10.trans (b10.mono B10.size)
  clear B9 B10 b10 b9 r9 hin
  go_wp2_with fail
  refine (qlen_nil w10).mono ?_
  rintro _ w11 ⟨rfl, rfl⟩
  go_wp2_with fail
  refine (qlist_nil w11).mono ?_
  rintro _ w12 ⟨rfl, rfl⟩
  go_wp2_with fail
  go_ret
  exact ⟨rfl, B11⟩

end Go.Proofs.Ytmpignlciicaeaa
