/-
  What the queue's own functions do: copied, New, Push, Pop, Peek, Len, List; of nil, nothing.
-/
import Derived.Test.YtmpignlciicaeaaHeap2
import Derived.Test.YtmpignlciicaeaaShelf
import Derived.Deep.OwnRows
import Derived.Laws.CopyOwn
namespace Go.Proofs.Ytmpignlciicaeaa
open Go.RowKit

/-- A list that is read: its numbers lie where its address leads. -/
def Arg (w : World) (p : Option Addr) (zs : List Int) : Prop := 0 < zs.length → ∃ x, p = some x ∧ ∀ i, i < zs.length → w.cell? (x.add i) = some (.int .i64 (g zs i))
theorem addr_zero (b j : Nat) : (Addr.add ⟨b, 0, none⟩ j) = ⟨b, j, none⟩ := by simp [Addr.add]; intro h; exact h.symm
theorem Row.arg {w : World} {b cap : Nat} {zs : List Int} (h : Row w b cap zs) : Arg w (some ⟨b, 0, none⟩) zs := fun _ => ⟨_, rfl, fun i hi => by rw [addr_zero]; exact h.cell hi⟩
theorem Arg.below {w w' : World} {p : Option Addr} {zs : List Int} (h : Arg w p zs) (k : Below w.heap.size w w') : Arg w' p zs := fun h0 => by
  obtain ⟨x, hx, hc⟩ := h h0
  refine ⟨x, hx, fun i hi => ?_⟩
  rw [k.cell (World.block_lt_of_cell? w _ (hc i hi))]
  exact hc i hi

/-- So many zeros. -/
def zer (n : Nat) : List Value := List.replicate n (Value.int .i64 0)
theorem zer_length (n : Nat) : (zer n).length = n := List.length_replicate
theorem made_row (n : Nat) : madeCells #[Value.int .i64 0] n = (zer n).toArray := by
  apply Array.ext'
  rw [toList_madeCells_one]
  rfl
theorem make_any (n : Nat) (hn : n ≤ 1000000) (w : World) : Sem.run Try.prog (Instr.makeSlice 22 (.int .i64 (n : Int)) (.int .i64 (n : Int))) w = .ok (.slice (some ⟨w.heap.size, 0, none⟩) n n) (w.alloc (.cells (zer n).toArray 3)) := by
  have h := run_make_row' (P := Try.prog) 22 3 (.int .i64 0) 8 Try.underlying22 info3 rfl .i64 .i64 n (by omega) (by omega) w
  rw [made_row] at h
  exact h
theorem size3 : (Try.prog.info? 3).map (·.size) = some 1 := by kernel_rfl
theorem splice_all {n : Nat} {cs : List Value} (h : cs.length = n) : splice (zer n) 0 cs = cs := by
  unfold splice
  rw [List.take_zero, List.nil_append, Nat.zero_add, List.drop_of_length_le (by rw [zer_length]; omega), List.append_nil]

theorem copied_any {w : World} {p : Option Addr} {zs : List Int} (c n : Nat) (hn : zs.length = n) (hl : n ≤ 1000000) (ha : Arg w p zs) :
    Calls Try.prog 17 #[.slice p n c] w fun e w' => ∃ b, e = .returned (.slice (some ⟨b, 0, none⟩) n n) ∧ Row w' b n zs ∧ w.heap.size ≤ b ∧ Below w.heap.size w w' := by
  have hmk := make_any n hl
  have HN : Hid ((ints zs).length = n) := (ints_length zs).trans hn
  have HA : Hid (Arg (w.alloc (.cells (zer n).toArray 3)) p zs) := ha.below ((Below.refl _ w).alloc (Nat.le_refl _) _)
  have HZ : Hid (zs.length = n) := hn
  clear hn ha
  go_enter Try.func17, Try.ntmps17
  go_wp2_with (refine wpList_copy_splice (by rfl) _ _ 22 22 (by rfl) 3 Try.underlying22 size3 _ _ _ _ _ _ (by rfl) (by rfl) w.heap.size 0 (zer n) 3 (heap_alloc_new w _) (ints zs) (by rw [HN.out]; exact (Nat.min_self n).symm) (fun h0 => ⟨rfl, by obtain ⟨x, hx, hc⟩ := HA.out (by rw [HZ.out]; rw [HN.out] at h0; exact h0); exact ⟨x, hx, fun j v hv => by obtain ⟨hj, _⟩ := List.getElem?_eq_some_iff.1 hv; rw [ints_length] at hj; rw [ints_get hj] at hv; cases hv; exact hc j hj⟩⟩) (by rw [HN.out, zer_length]; omega) (by intro v hv; unfold ints at hv; obtain ⟨z, _, rfl⟩ := List.mem_map.1 hv; rfl) w.heap.size w ((Below.refl _ w).alloc (Nat.le_refl _) _) (Nat.le_refl _) ?_)
  intro w2 HG hb
  go_wp2_with fail
  go_ret
  refine ⟨_, rfl, ?_, Nat.le_refl _, hb⟩
  have h := HG.out
  rw [splice_all HN.out] at h
  refine ⟨_, h, Nat.le_of_eq HZ.out, by unfold maxLen; omega, HN.out, ?_⟩
  rw [HZ.out, List.take_of_length_le (by rw [HN.out]; exact Nat.le_refl _)]

/-- A queue of these numbers, told rising. -/
def Qu (w : World) (a b : Nat) (S : List Int) : Prop := ∃ zs, Pile w a b zs ∧ Heap 0 zs.length zs ∧ zs.Perm S ∧ Rises S

theorem new_any {w : World} {p : Option Addr} {zs : List Int} (c n : Nat) (hn : zs.length = n) (hl : n ≤ 1000000) (ha : Arg w p zs) :
    Calls Try.prog 7 #[.slice p n c] w fun e w' => ∃ a b, e = .returned (.pointer (some ⟨a, 0, none⟩)) ∧ Qu w' a b (srt zs) ∧ w.heap.size ≤ a ∧ w.heap.size ≤ b ∧ Below w.heap.size w w' := by
  have hc := copied_any c n hn hl ha
  have HZ : Hid (zs.length = n) := hn
  clear hn ha
  go_enter Try.func7, Try.ntmps7
  go_wp2_with fail
  refine hc.mono ?_
  rintro _ w1 ⟨b, rfl, r1, hb, b1⟩
  have hL := HZ.out
  subst hL
  have hr := r1.lt
  obtain ⟨W, hW, hP, hB⟩ : ∃ W, W = w1.alloc (.cells #[.slice (some ⟨b, 0, none⟩) zs.length zs.length] 43) ∧ Pile W w1.heap.size b zs ∧ Below w.heap.size w W :=
    ⟨_, rfl, ⟨zs.length, 43, heap_alloc_new w1 _, r1.of (heap_alloc_old w1 _ hr), by omega⟩, b1.alloc b1.size _⟩
  have hin := init_any hP hl
  have hs1 := b1.size
  clear HZ hc
  go_wp2_with fail
  rw [← hW]
  refine hin.mono ?_
  rintro _ w2 ⟨rfl, ys, P2, H2, p2, o2⟩
  have HP : Hid (ys.Perm zs) := P2
  clear P2
  go_wp2_with fail
  go_ret
  refine ⟨w1.heap.size, b, rfl, ⟨ys, p2, ?_, HP.out.trans (srt_perm zs).symm, srt_rises zs⟩, hs1, hb, hB.trans (o2.below hB.size hs1 hb)⟩
  rw [HP.out.length_eq]
  exact H2

theorem Qu.lt {w : World} {a b : Nat} {S : List Int} (h : Qu w a b S) : a < w.heap.size ∧ b < w.heap.size ∧ a ≠ b := let ⟨_, p, _⟩ := h; p.lt
theorem Qu.below {w w' : World} {a b : Nat} {S : List Int} (h : Qu w a b S) (k : Below w.heap.size w w') : Qu w' a b S := let ⟨z, p, r⟩ := h; ⟨z, p.below k, r⟩
theorem Qu.only {w w' : World} {a b c d : Nat} {S : List Int} (h : Qu w c d S) (k : Only a b w w') (h1 : c ≠ a) (h2 : c ≠ b) (h3 : d ≠ a) (h4 : d ≠ b) : Qu w' c d S := let ⟨z, p, r⟩ := h; ⟨z, p.only k h1 h2 h3 h4, r⟩

theorem qpush_any {w : World} {a b : Nat} {S : List Int} (h : Qu w a b S) (hl : S.length ≤ 10000) (v : Int) :
    Calls Try.prog 9 #[.pointer (some ⟨a, 0, none⟩), .int .i64 v] w fun e w' =>
      e = .returned (.tuple #[]) ∧ ∃ b', Qu w' a b' (ins v S) ∧ Only a b w w' ∧ (b' = b ∨ w.heap.size ≤ b') := by
  obtain ⟨zs, hp, hh, hP, hR⟩ := h
  have hlen := hP.length_eq
  have hpu := heap_push hp (by omega) hh v
  have HP : Hid (zs.Perm S) := hP
  clear hh hP hlen
  go_enter Try.func9, Try.ntmps9
  go_wp2_with fail
  refine hpu.mono ?_
  rintro _ w1 ⟨rfl, b', ys, P1, H1, p1, o1, hb⟩
  have HP1 : Hid (ys.Perm (v :: zs)) := P1
  clear P1
  go_wp2_with fail
  go_end0
  exact ⟨rfl, b', ⟨ys, p1, H1, HP1.out.trans ((HP.out.cons v).trans (ins_perm v S).symm), ins_rises v hR⟩, o1, hb⟩

theorem qpop_any {w : World} {a b : Nat} {x : Int} {S : List Int} (h : Qu w a b (x :: S)) (hl : S.length ≤ 10000) :
    Calls Try.prog 10 #[.pointer (some ⟨a, 0, none⟩)] w fun e w' =>
      e = .returned (.tuple #[.int .i64 x, .bool true]) ∧ Qu w' a b S ∧ Only a b w w' := by
  obtain ⟨zs, hp, hh, hP, hR⟩ := h
  have hlen : zs.length = S.length + 1 := hP.length_eq
  have hx := hh.first hP hR
  have hle := least_any hp _ hlen
  have hpo := heap_pop hp _ hlen (by omega) hh
  rw [hx] at hle hpo
  have HP : Hid (zs.Perm (x :: S)) := hP
  clear hh hP hlen hx hl
  go_enter Try.func10, Try.ntmps10
  go_wp2_with fail
  refine hle.mono ?_
  rintro _ w1 ⟨rfl, rfl⟩
  go_wp2_with fail
  refine hpo.mono ?_
  rintro _ w2 ⟨⟨v, rfl⟩, ys, P1, H1, p1, o1⟩
  have HP1 : Hid (zs.Perm (x :: ys)) := P1
  clear P1
  go_wp2_with fail
  go_ret2
  exact ⟨rfl, ⟨ys, p1, H1, (HP1.out.symm.trans HP.out).cons_inv, (List.pairwise_cons.1 hR).2⟩, o1⟩

theorem Qu.empty {w : World} {a b : Nat} (h : Qu w a b []) : Pile w a b [] := by
  obtain ⟨zs, hp, _, hP, _⟩ := h
  obtain rfl : zs = [] := List.Perm.eq_nil hP
  exact hp
theorem qpop_none {w : World} {a b : Nat} (h : Qu w a b []) :
    Calls Try.prog 10 #[.pointer (some ⟨a, 0, none⟩)] w fun e w' => e = .returned (.tuple #[.int .i64 0, .bool false]) ∧ w' = w := by
  have hle := least_none h.empty
  go_enter Try.func10, Try.ntmps10
  go_wp2_with fail
  refine hle.mono ?_
  rintro _ w1 ⟨rfl, rfl⟩
  go_wp2_with fail
  go_ret2
  exact ⟨rfl, rfl⟩
theorem qpop_nil (w : World) : Calls Try.prog 10 #[.pointer none] w fun e w' => e = .returned (.tuple #[.int .i64 0, .bool false]) ∧ w' = w := by
  go_enter Try.func10, Try.ntmps10
  go_wp2_with fail
  go_ret2
  exact ⟨rfl, rfl⟩
theorem qpush_nil (v : Int) (w : World) : Calls Try.prog 9 #[.pointer none, .int .i64 v] w fun e w' => e = .returned (.tuple #[]) ∧ w' = w := by
  go_enter Try.func9, Try.ntmps9
  go_wp2_with fail
  refine bodyPost_ret (results_none rfl _ _ _) rfl ?_
  exact ⟨rfl, rfl⟩

theorem qpeek_any {w : World} {a b : Nat} {x : Int} {S : List Int} (h : Qu w a b (x :: S)) :
    Calls Try.prog 12 #[.pointer (some ⟨a, 0, none⟩)] w fun e w' => e = .returned (.tuple #[.int .i64 x, .bool true]) ∧ w' = w := by
  obtain ⟨zs, hp, hh, hP, hR⟩ := h
  have hlen : zs.length = S.length + 1 := hP.length_eq
  have hx := hh.first hP hR
  have hle := least_any hp _ hlen
  rw [hx] at hle
  clear hh hP hlen hx
  go_enter Try.func12, Try.ntmps12
  go_wp2_with fail
  refine hle.mono ?_
  rintro _ w1 ⟨rfl, rfl⟩
  go_wp2_with fail
  go_ret2
  exact ⟨rfl, rfl⟩
theorem qpeek_none {w : World} {a b : Nat} (h : Qu w a b []) :
    Calls Try.prog 12 #[.pointer (some ⟨a, 0, none⟩)] w fun e w' => e = .returned (.tuple #[.int .i64 0, .bool false]) ∧ w' = w := by
  have hle := least_none h.empty
  go_enter Try.func12, Try.ntmps12
  go_wp2_with fail
  refine hle.mono ?_
  rintro _ w1 ⟨rfl, rfl⟩
  go_wp2_with fail
  go_ret2
  exact ⟨rfl, rfl⟩

theorem qlen_any {w : World} {a b : Nat} {S : List Int} (h : Qu w a b S) (n : Nat) (hn : S.length = n) :
    Calls Try.prog 14 #[.pointer (some ⟨a, 0, none⟩)] w fun e w' => e = .returned (.int .i64 (n : Int)) ∧ w' = w := by
  obtain ⟨zs, hp, hh, hP, hR⟩ := h
  have hle := len_any hp
  rw [hP.length_eq, hn] at hle
  clear hh hP hn
  go_enter Try.func14, Try.ntmps14
  go_wp2_with fail
  refine hle.mono ?_
  rintro _ w1 ⟨rfl, rfl⟩
  go_wp2_with fail
  go_ret
  exact ⟨rfl, rfl⟩
theorem qlen_nil (w : World) : Calls Try.prog 14 #[.pointer none] w fun e w' => e = .returned (.int .i64 0) ∧ w' = w := by
  go_enter Try.func14, Try.ntmps14
  go_wp2_with fail
  go_ret
  exact ⟨rfl, rfl⟩
theorem qlist_nil (w : World) : Calls Try.prog 16 #[.pointer none] w fun e w' => e = .returned (.slice none 0 0) ∧ w' = w := by
  go_enter Try.func16, Try.ntmps16
  go_wp2_with fail
  go_ret
  exact ⟨rfl, rfl⟩

end Go.Proofs.Ytmpignlciicaeaa
