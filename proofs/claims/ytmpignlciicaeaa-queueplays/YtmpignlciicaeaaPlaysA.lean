/-
  QueuePlays walked: each call's answer, how many there are, all of them, as the document's own queue tells.
-/
import Derived.Test.YtmpignlciicaeaaRefPush
namespace Go.Proofs.Ytmpignlciicaeaa
open Go.RowKit

/-- A list of calls that is read: two numbers each. -/
def Steps (w : World) (p : Option Addr) (len : Nat) : Prop := 0 < len → ∃ x, p = some x ∧ ∀ i, i < len → ∃ z v : Int, w.cell? (x.add (i * 2)) = some (.int .i64 z) ∧ w.cell? (x.add (i * 2 + 1)) = some (.int .i64 v)

theorem qlen_dr {w : World} {a b : Nat} {S : List Int} (h : Qu w a b S) (n : Nat) (hn : S.length = n) (k : Nat) :
    Calls Try.prog 14 #[.pointer (some ⟨a, 0, none⟩)] (w.drewN k) fun e w' => e = .returned (.int .i64 (n : Int)) ∧ w' = w.drewN k := qlen_any (w := w.drewN k) (show Qu (w.drewN k) a b S from h) n hn
theorem below_dr {B : Nat} {w w' : World} (h : Below B w w') (k : Nat) : Below B w (w'.drewN k) := ⟨h.os, h.tape, h.output, h.size, h.block⟩
theorem srt_nil : srt [] = [] := by unfold srt; simp

set_option maxRecDepth 20000 in
set_option maxHeartbeats 4000000 in
theorem plays_walk {w : World} {p q : Option Addr} {l : List Int} (c d n m : Nat) (hn : l.length = n) (hn63 : n ≤ 9223372036854775807) (hm63 : m ≤ 9223372036854775807) (ha : Arg w p l) (hb : Steps w q m) :
    Calls Try.prog 3 #[.slice p n c, .slice q m d] w fun e w' => e = .returned (.bool true) ∧ Below w.heap.size w w' := by
  by_cases h1 : 200 < n
  · clear hn ha hb
    go_enter Try.func3, Try.ntmps3
    go_wp2_with fail
    refine (wakes_any w).mono ?_
    rintro _ w1 ⟨rfl, b1⟩
    go_wp2_with fail
    go_ret
    exact ⟨rfl, b1⟩
  by_cases h2 : 200 < m
  · clear hn ha hb
    go_enter Try.func3, Try.ntmps3
    go_wp2_with fail
    refine (wakes_any w).mono ?_
    rintro _ w1 ⟨rfl, b1⟩
    go_wp2_with fail
    go_ret
    exact ⟨rfl, b1⟩
  have HN : Hid (l.length = n) := hn
  have HA : Hid (Arg w p l) := ha
  have HB : Hid (Steps w q m) := hb
  have B0 : Below w.heap.size w (w.alloc (.cells #[] 3)) := (Below.refl _ w).alloc (Nat.le_refl _) _
  clear hn ha hb
  go_enter Try.func3, Try.ntmps3
  go_wp2_with (at_builtin; refine wpList_app (by rfl) _ _ 22 (by rfl) Try.underlying22 w.heap.size 0 0 n c [] l p (by rfl) (by rfl) rfl HN.out (row_new w) (HA.out.below B0) (by omega) ?_)
  intro g1 cap1 w1 R1 G1 hg1
  have S0 : w.heap.size + 1 ≤ w1.heap.size := by have := G1.size; rwa [World.size_alloc] at this
  have hgw1 : w.heap.size ≤ g1 := by rcases hg1 with h | h <;> omega
  have B1 : Below w.heap.size w w1 := B0.grown G1 (by simp) (fun j hj => by cases hj; exact Nat.le_refl _)
  have hnew := new_any (p := some ⟨g1, 0, none⟩) cap1 n HN.out (by omega) R1.arg
  clear G1 B0
  go_wp2_with fail
  refine hnew.mono ?_
  rintro _ w2 ⟨a, b, rfl, q2, ha1, hb1, b2⟩
  have B2 : Below w.heap.size w w2 := B1.trans (b2.mono B1.size)
  have R2 := R1.of (b2.block g1 R1.lt)
  have hq2 := q2.lt
  have hr2 := R2.lt
  have hr1 := R1.lt
  obtain ⟨W, hW, hP, hB, hQ, hRow, hsz⟩ : ∃ W, W = w2.alloc (.cells #[.slice none 0 0] 29) ∧ Rf W w2.heap.size w2.heap.size [] ∧ Below w.heap.size w W ∧ Qu W a b (srt l) ∧ Row W g1 cap1 l ∧ w2.heap.size ≤ W.heap.size :=
    ⟨_, rfl, ⟨29, _, heap_alloc_new w2 _, .inl ⟨rfl, rfl, rfl⟩⟩, B2.alloc B2.size _, q2.below ((Below.refl _ w2).alloc (Nat.le_refl _) _), R2.of (heap_alloc_old w2 _ hr2), by simp⟩
  have hs1 := B1.size
  have hs2 := B2.size
  have hs12 := b2.size
  obtain ⟨ap, hap⟩ : ∃ ap, w2.heap.size = ap := ⟨_, rfl⟩
  have d1 : a ≠ ap := by omega
  have d2 : b ≠ ap := by omega
  have d3 : g1 ≠ ap := by omega
  have d4 : g1 ≠ a := by omega
  have d5 : g1 ≠ b := by omega
  have e1 : w.heap.size ≤ a := by omega
  have e2 : w.heap.size ≤ b := by omega
  have e3 : w.heap.size ≤ ap := by omega
  have hab : a < W.heap.size ∧ b < W.heap.size := ⟨hQ.lt.1, hQ.lt.2.1⟩
  clear hnew q2 R1 R2 B1 B2 b2 hg1 ha1 hb1 hq2 hr2 hr1 hs1 hs2 hs12 S0
  go_wp2_with fail
  rw [← hW]
  rw [hap] at hP hsz
  clear hW hap
  go_loopw [8] (fun u wr => ∃ i bp : Nat, u = .int .i64 (i : Int) ∧ i ≤ n ∧ Rf wr ap bp (srt (l.take i)) ∧ Qu wr a b (srt l) ∧ Row wr g1 cap1 l ∧ Below w.heap.size w wr ∧ W.heap.size ≤ wr.heap.size ∧ (bp = ap ∨ W.heap.size ≤ bp)) (fun u _ => n - (intOf u).toNat)
  case atStart => exact ⟨0, ap, rfl, by omega, by rw [List.take_zero, srt_nil]; exact hP, hQ, hRow, hB, Nat.le_refl _, .inl rfl⟩
  case round =>
    obtain ⟨i, bp, rfl, hi, P, Qq, R, B, hWr, hbp⟩ := hrel
    have hs := B.size
    by_cases hin : i < n
    · obtain ⟨x, rfl, hx⟩ := HA.out (by rw [HN.out]; omega)
      have hc := hx i (by rw [HN.out]; exact hin)
      rw [← B.cell (World.block_lt_of_cell? w _ hc)] at hc
      have hpu := rpush_any P (by rw [srt_length, List.length_take]; omega) (g l i)
      rw [ins_srt, ← take_next (by rw [HN.out]; exact hin)] at hpu
      clear hx
      go_wp2_with fail
      refine hpu.mono ?_
      rintro _ w5 ⟨rfl, b5, P5, o5, hb5⟩
      have Q5 := Qq.only o5 d1 d1 d2 d2
      have R5 := R.of (o5.block g1 R.lt d3 d3)
      have B5 := B.trans (o5.below hs e3 e3)
      have hs5 := o5.size
      clear hpu
      go_wp2_with fail
      go_roundw
      case rel => exact ⟨i + 1, b5, by simp, by omega, P5, Q5, R5, B5, by omega, by omega⟩
      case measure => simp [intOf]; omega
    · obtain rfl : i = n := by omega
      rw [List.take_of_length_le (Nat.le_of_eq HN.out)] at P
      have HS : Hid ((srt l).length ≤ i + 0) := by show _ ≤ _; rw [srt_length, HN.out]; omega
      have f1 : bp ≠ a := by omega
      have f2 : bp ≠ b := by omega
      have f3 : w.heap.size ≤ bp := by have := hB.size; omega
      clear hP hQ hRow hB hin
      go_wp2_with fail
      go_loopw [9] (fun u wr => ∃ (j bb bp : Nat) (S : List Int), u = .int .i64 (j : Int) ∧ j ≤ m ∧ S.length ≤ i + j ∧ Rf wr ap bp S ∧ Qu wr a bb S ∧ Row wr g1 cap1 l ∧ Below w.heap.size w wr ∧ bb ≠ ap ∧ g1 ≠ bb ∧ bp ≠ a ∧ bp ≠ bb ∧ w.heap.size ≤ bb ∧ w.heap.size ≤ bp) (fun u _ => m - (intOf u).toNat)
      case atStart => exact ⟨0, b, bp, srt l, rfl, by omega, HS.out, P, Qq, R, B, d2, d5, f1, f2, e2, f3⟩
      case round =>
        clear P Qq R B hWr hbp hs HS f1 f2 f3 d2 d5 e2
        obtain ⟨j, bb, bp, S, rfl, hj, hSl, P, Qq, R, B, k1, k2, k3, k4, k5, k6⟩ := hrel
        have hs := B.size
        by_cases hjm : j < m
        · obtain ⟨x, rfl, hx⟩ := HB.out (by omega)
          obtain ⟨z, v, hz, hv⟩ := hx j hjm
          have hvx : (x.add (j * 2 + 1)) = ⟨(x.add (j * 2)).block, (x.add (j * 2)).off + 1, none⟩ := by rw [← Addr.add_add]; rfl
          have hbz := World.block_lt_of_cell? w _ hz
          have hbv := World.block_lt_of_cell? w _ hv
          rw [hvx] at hv hbv
          clear hx hvx
          have hz1 := hz
          rw [← B.cell (p := x.add (j * 2)) hbz] at hz1
          by_cases z0 : z = 0
          · subst z0
            have hv1 := hv
            rw [← B.cell (p := ⟨(x.add (j * 2)).block, (x.add (j * 2)).off + 1, none⟩) hbv] at hv1
            have hpu := qpush_any Qq (by omega) v
            go_wp2_with fail
            refine hpu.mono ?_
            rintro _ w5 ⟨rfl, b5, Q5, o5, hb5⟩
            have P5 := P.only o5 (Ne.symm d1) (Ne.symm k1) k3 k4
            have R5 := R.of (o5.block g1 R.lt d4 k2)
            have B5 := B.trans (o5.below hs e1 k5)
            have hv5 := hv
            rw [← B5.cell (p := ⟨(x.add (j * 2)).block, (x.add (j * 2)).off + 1, none⟩) hbv] at hv5
            have hP0 := P.lt
            have hP5 := P5.lt
            have hg0 := R.lt
            have hQ5 := Q5.lt
            have hs5 := o5.size
            have hrp := rpush_any P5 (by omega) v
            clear hpu hz1 hv1
            go_wp2_with fail
            refine hrp.mono ?_
            rintro _ w6 ⟨rfl, b6, P6, o6, hb6⟩
            have Q6 := Q5.only o6 d1 d1 (by omega) (by omega)
            have R6 := R5.of (o6.block g1 R5.lt d3 d3)
            have B6 := B5.trans (o6.below (by omega) e3 e3)
            clear hrp hv5 P Qq R B P5 Q5 R5 B5 o5 o6 hz hv
            obtain ⟨N, hN⟩ : ∃ N, (ins v S).length = N := ⟨_, rfl⟩
            obtain ⟨pp, cc, hcp, _, _⟩ := (P6).open
            have hql := qlen_dr (Q6) N hN
            have HL : Hid ((ins v S).length ≤ i + (j + 1)) := by show _ ≤ _; rw [ins_length]; omega
            rw [hN] at hcp
            clear hN
            go_wp2_with fail
            go_quiet (first | (go_at_call 14; refine Calls.quiet_of_same (hql _)))
            clear hql hcp
            go_wp2_with fail
            exact ⟨⟨j + 1, b5, b6, ins v S, by simp, by omega, HL.out, P6, Q6, R6, below_dr (B6) _, by omega, by omega, by omega, by omega, by omega, by omega⟩, by simp [intOf]; omega⟩
          · by_cases z1 : z = 1
            · subst z1
              cases S with
              | nil =>
                have hpo := qpop_none Qq
                have hrp := rpop_none P
                go_wp2_with fail
                refine hpo.mono ?_
                rintro _ w5 ⟨rfl, rfl⟩
                go_wp2_with fail
                refine hrp.mono ?_
                rintro _ w6 ⟨rfl, rfl⟩
                clear hpo hrp hz1 hz hv
                obtain ⟨N, hN⟩ : ∃ N, (([] : List Int)).length = N := ⟨_, rfl⟩
                obtain ⟨pp, cc, hcp, _, _⟩ := (P).open
                have hql := qlen_dr (Qq) N hN
                have HL : Hid ((([] : List Int)).length ≤ i + (j + 1)) := by show _ ≤ _; rw [List.length_nil]; omega
                rw [hN] at hcp
                clear hN
                go_wp2_with fail
                go_quiet (first | (go_at_call 14; refine Calls.quiet_of_same (hql _)))
                clear hql hcp
                go_wp2_with fail
                exact ⟨⟨j + 1, bb, bp, ([] : List Int), by simp, by omega, HL.out, P, Qq, R, below_dr (B) _, k1, k2, k3, k4, k5, k6⟩, by simp [intOf]; omega⟩
              | cons y t =>
                rw [List.length_cons] at hSl
                have hpo := qpop_any Qq (by omega)
                go_wp2_with fail
                refine hpo.mono ?_
                rintro _ w5 ⟨rfl, Q5, o5⟩
                have P5 := P.only o5 (Ne.symm d1) (Ne.symm k1) k3 k4
                have R5 := R.of (o5.block g1 R.lt d4 k2)
                have B5 := B.trans (o5.below hs e1 k5)
                have hQ0 := Qq.lt
                have hs5 := o5.size
                have hrp := rpop_any P5 (by omega)
                clear hpo hz1
                go_wp2_with fail
                refine hrp.mono ?_
                rintro _ w6 ⟨rfl, b6, P6, o6, hb6⟩
                have Q6 := Q5.only o6 d1 d1 k1 k1
                have R6 := R5.of (o6.block g1 R5.lt d3 d3)
                have B6 := B5.trans (o6.below (by omega) e3 e3)
                clear hrp P Qq R B P5 Q5 R5 B5 o5 o6 hz hv
                obtain ⟨N, hN⟩ : ∃ N, (t).length = N := ⟨_, rfl⟩
                obtain ⟨pp, cc, hcp, _, _⟩ := (P6).open
                have hql := qlen_dr (Q6) N hN
                have HL : Hid ((t).length ≤ i + (j + 1)) := by show _ ≤ _; omega
                rw [hN] at hcp
                clear hN
                go_wp2_with fail
                go_quiet (first | (go_at_call 14; refine Calls.quiet_of_same (hql _)))
                clear hql hcp
                go_wp2_with fail
                exact ⟨⟨j + 1, bb, b6, t, by simp, by omega, HL.out, P6, Q6, R6, below_dr (B6) _, k1, k2, by omega, by omega, k5, by omega⟩, by simp [intOf]; omega⟩
            · by_cases z2 : z = 2
              · subst z2
                cases S with
                | nil =>
                  have hpo := qpeek_none Qq
                  have hrp := rpeek_none P
                  go_wp2_with fail
                  refine hpo.mono ?_
                  rintro _ w5 ⟨rfl, rfl⟩
                  go_wp2_with fail
                  refine hrp.mono ?_
                  rintro _ w6 ⟨rfl, rfl⟩
                  clear hpo hrp hz1 hz hv
                  obtain ⟨N, hN⟩ : ∃ N, (([] : List Int)).length = N := ⟨_, rfl⟩
                  obtain ⟨pp, cc, hcp, _, _⟩ := (P).open
                  have hql := qlen_dr (Qq) N hN
                  have HL : Hid ((([] : List Int)).length ≤ i + (j + 1)) := by show _ ≤ _; rw [List.length_nil]; omega
                  rw [hN] at hcp
                  clear hN
                  go_wp2_with fail
                  go_quiet (first | (go_at_call 14; refine Calls.quiet_of_same (hql _)))
                  clear hql hcp
                  go_wp2_with fail
                  exact ⟨⟨j + 1, bb, bp, ([] : List Int), by simp, by omega, HL.out, P, Qq, R, below_dr (B) _, k1, k2, k3, k4, k5, k6⟩, by simp [intOf]; omega⟩
                | cons y t =>
                  have hpo := qpeek_any Qq
                  have hrp := rpeek_any P (by rw [List.length_cons] at hSl; omega)
                  go_wp2_with fail
                  refine hpo.mono ?_
                  rintro _ w5 ⟨rfl, rfl⟩
                  go_wp2_with fail
                  refine hrp.mono ?_
                  rintro _ w6 ⟨rfl, rfl⟩
                  clear hpo hrp hz1 hz hv
                  obtain ⟨N, hN⟩ : ∃ N, ((y :: t)).length = N := ⟨_, rfl⟩
                  obtain ⟨pp, cc, hcp, _, _⟩ := (P).open
                  have hql := qlen_dr (Qq) N hN
                  have HL : Hid (((y :: t)).length ≤ i + (j + 1)) := by show _ ≤ _; omega
                  rw [hN] at hcp
                  clear hN
                  go_wp2_with fail
                  go_quiet (first | (go_at_call 14; refine Calls.quiet_of_same (hql _)))
                  clear hql hcp
                  go_wp2_with fail
                  exact ⟨⟨j + 1, bb, bp, (y :: t), by simp, by omega, HL.out, P, Qq, R, below_dr (B) _, k1, k2, k3, k4, k5, k6⟩, by simp [intOf]; omega⟩
              · have t0 : (z == 0) = false := by simp [z0]
                have t1 : (z == 1) = false := by simp [z1]
                have t2 : (z == 2) = false := by simp [z2]
                clear z0 z1 z2 hz hv
                obtain ⟨N, hN⟩ : ∃ N, (S).length = N := ⟨_, rfl⟩
                obtain ⟨pp, cc, hcp, _, _⟩ := (P).open
                have hql := qlen_dr (Qq) N hN
                have HL : Hid ((S).length ≤ i + (j + 1)) := by show _ ≤ _; omega
                rw [hN] at hcp
                clear hN
                go_wp2_with fail
                go_quiet (first | (go_at_call 14; refine Calls.quiet_of_same (hql _)))
                clear hql hcp
                go_wp2_with fail
                exact ⟨⟨j + 1, bb, bp, S, by simp, by omega, HL.out, P, Qq, R, below_dr (B) _, k1, k2, k3, k4, k5, k6⟩, by simp [intOf]; omega⟩
        · obtain rfl : j = m := by omega
          obtain ⟨N, hN⟩ : ∃ N, S.length = N := ⟨_, rfl⟩
          obtain ⟨pp, cc, hcp, _, hpa⟩ := P.open
          have HNN : Hid (S.length = N) := hN
          have HPA : Hid (Arg wr pp S) := hpa
          rw [hN] at hcp hSl
          clear hN hpa
          have Hli := fun (W : World) (h : Qu W a bb S) => qlist_any h N HNN.out (by omega)
          have hlp := (P.lt).1
          go_wp2_with fail
          go_region_held3 (fun w' => w'.cell? ⟨ap, 0, none⟩ = some (.slice pp N cc)) (first | go_keep | assumption)
            (first
              | (go_at_call 16; refine (Hli _ (show Qu wr.drew a bb S from Qq)).mono ?_; rintro _ w5 ⟨c5, rfl, r5, hc5, b5⟩; have hcp5 : w5.cell? ⟨ap, 0, none⟩ = some (.slice pp N cc) := (b5.cell (p := ⟨ap, 0, none⟩) hlp).trans hcp)
              | (go_at_call_of 15 (Value.slice (some ⟨c5, 0, none⟩) N N); refine (ints_any N cc N HNN.out (by omega) r5.arg ((show Arg wr.drew pp S from HPA.out).below b5)).mono ?_; rintro _ w6 ⟨rfl, b6⟩; have hcp6 : w6.cell? ⟨ap, 0, none⟩ = some (.slice pp N cc) := (b6.cell (p := ⟨ap, 0, none⟩) (Nat.lt_of_lt_of_le hlp b5.size)).trans hcp5)
              | (go_at_call 15; refine (ints_any cap1 c i HN.out (by omega) ((show Arg wr.drew (some ⟨g1, 0, none⟩) l from R.arg).below (b5.trans (b6.mono b5.size))) (HA.out.below (B.drew.trans ((b5.trans (b6.mono b5.size)).mono hs)))).mono ?_; rintro _ w7 ⟨rfl, b7⟩; have hcp7 : w7.cell? ⟨ap, 0, none⟩ = some (.slice pp N cc) := (b7.cell (p := ⟨ap, 0, none⟩) (Nat.lt_of_lt_of_le (Nat.lt_of_lt_of_le hlp b5.size) b6.size)).trans hcp6)
              | (go_at_call 6; refine (wakes_any _).mono ?_; rintro _ w8 ⟨rfl, b8⟩; have hcp8 : w8.cell? ⟨ap, 0, none⟩ = some (.slice pp N cc) := (b8.cell (p := ⟨ap, 0, none⟩) (Nat.lt_of_lt_of_le (Nat.lt_of_lt_of_le (Nat.lt_of_lt_of_le hlp b5.size) b6.size) b7.size)).trans hcp7))
          clear hcp hcp5 hcp6 hcp7 hcp8
          go_wp2_with fail
          go_ret
          exact ⟨rfl, B.drew.trans ((((b5.trans (b6.mono b5.size)).trans (b7.mono (Nat.le_trans b5.size b6.size))).trans (b8.mono (Nat.le_trans (Nat.le_trans b5.size b6.size) b7.size))).mono hs)⟩

end Go.Proofs.Ytmpignlciicaeaa
