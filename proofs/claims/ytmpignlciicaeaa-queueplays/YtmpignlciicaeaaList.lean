/-
  What List tells: a row of its own with all numbers, rising; and whether two lists are alike.
-/
import Derived.Test.YtmpignlciicaeaaQueue
namespace Go.Proofs.Ytmpignlciicaeaa
open Go.RowKit

theorem Row.holds {w : World} {b cap : Nat} {zs : List Int} (h : Row w b cap zs) : Go.Sort.Holds (Value.int .i64) w b 0 zs.toArray := by
  intro j hj
  rw [List.size_toArray] at hj
  refine ⟨?_, by rw [Nat.zero_add]; exact h.frozen j⟩
  rw [Nat.zero_add, h.cell hj, g_lt hj]
  simp [hj]
/-- The world behind the sort. -/
theorem sorted_world {w w' : World} {b cap : Nat} {zs : List Int} (h : Row w b cap zs) (ys : List Int) (hl : ys.length = zs.length) (n : Nat) (os : Array Obj)
    (e : w' = Go.Sort.grow (Go.Sort.putRow (Value.int .i64) (Go.Sort.ahead w n) b 0 ys.toArray) os) :
    Row w' b cap ys ∧ w'.os = w.os ∧ w'.tape = w.tape ∧ w'.output = w.output ∧ w.heap.size ≤ w'.heap.size ∧ ∀ k, k < w.heap.size → k ≠ b → w'.heap[k]? = w.heap[k]? := by
  have hlt := h.lt
  have hb : ∀ k, k < w.heap.size → w'.heap[k]? = if b = k then (w.heap[k]?).map (Go.Sort.onCells (Go.Sort.putCells (Value.int .i64) 0 ys.toArray)) else w.heap[k]? := by
    intro k hk
    rw [e, Go.Sort.heap_grow_old _ _ (by simpa using hk)]
    show ((w.heap).modify b _)[k]? = _
    rw [Array.getElem?_modify]
  obtain ⟨cur, h1, h2, h3, h4, h5⟩ := h
  refine ⟨⟨Go.Sort.putCells (Value.int .i64) 0 ys.toArray cur, ?_, by omega, h3, by simp [Go.Sort.putCells, h4], ?_⟩, by rw [e]; rfl, by rw [e]; rfl, by rw [e]; rfl, by rw [e, Go.Sort.size_grow]; simp, fun k hk hne => by rw [hb k hk, if_neg (Ne.symm hne)]⟩
  · rw [hb b hlt, if_pos rfl, h1]
    rfl
  · apply List.ext_getElem?
    intro j
    rw [List.getElem?_take]
    by_cases hj : j < ys.length
    · rw [if_pos hj, Array.getElem?_toList, ints_get hj, g_lt hj]
      simp only [Go.Sort.putCells, Array.getElem?_mapIdx]
      rw [Array.getElem?_eq_getElem (by omega)]
      simp [hj]
    · rw [if_neg hj, List.getElem?_eq_none (by rw [ints_length]; omega)]

theorem qlist_any {w : World} {a b : Nat} {S : List Int} (h : Qu w a b S) (n : Nat) (hn : S.length = n) (hl : n ≤ 10000) :
    Calls Try.prog 16 #[.pointer (some ⟨a, 0, none⟩)] w fun e w' => ∃ c, e = .returned (.slice (some ⟨c, 0, none⟩) n n) ∧ Row w' c n S ∧ w.heap.size ≤ c ∧ Below w.heap.size w w' := by
  obtain ⟨zs, hp, hh, hP, hR⟩ := h
  obtain ⟨cap, hc, hf, hr⟩ := hp.open
  have hlen : zs.length = n := hP.length_eq.trans hn
  rw [hlen] at hc
  have hcp := copied_any (p := some ⟨b, 0, none⟩) cap n hlen (by omega) hr.arg
  have HZ : Hid (zs.length = n) := hlen
  have HS : Hid (srt zs = S) := srt_eq hP hR
  clear hlen hP hh hn hf
  go_enter Try.func16, Try.ntmps16
  go_wp2_with fail
  refine hcp.mono ?_
  rintro _ w1 ⟨c, rfl, r1, hcb, b1⟩
  have hso := Try.slices_Sort_int c 0 n zs w1 r1.holds r1.lt (by rw [HZ.out]; omega)
  rw [HZ.out] at hso
  clear hcp hc
  go_wp2_with fail
  refine hso.mono ?_
  rintro _ w2 ⟨rfl, m, os, hw2⟩
  obtain ⟨r2, e1, e2, e3, e4, e5⟩ := sorted_world r1 (srt zs) (srt_length zs) m os hw2
  rw [HS.out] at r2
  have B2 : Below w.heap.size w w2 := b1.trans ⟨e1, e2, e3, e4, fun k hk => e5 k (Nat.lt_of_lt_of_le hk b1.size) (by omega)⟩
  clear hw2 e1 e2 e3 e4 e5 hso
  go_wp2_with fail
  go_ret
  exact ⟨c, rfl, r2, hcb, B2⟩

end Go.Proofs.Ytmpignlciicaeaa
