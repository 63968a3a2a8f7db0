/-
  The document's own queue, a list that rises: what Pop and Peek do with it.
-/
import Derived.Test.YtmpignlciicaeaaApp
namespace Go.Proofs.Ytmpignlciicaeaa
open Go.RowKit

theorem ins_at {S : List Int} {v : Int} : ∀ {k : Nat}, k ≤ S.length → (∀ j, j < k → g S j ≤ v) → (k = S.length ∨ v < g S k) → ins v S = S.take k ++ v :: S.drop k := by
  unfold ins
  induction S with
  | nil =>
    intro k h0 _ _
    obtain rfl : k = 0 := by simpa using h0
    rfl
  | cons x t ih =>
    intro k h0 h1 h2
    cases k with
    | zero =>
      have h3 : v < x := by
        rcases h2 with h | h
        · simp at h
        · simpa [g] using h
      simp [show ¬ x ≤ v by omega]
    | succ k =>
      have h3 : x ≤ v := by simpa [g] using h1 0 (by omega)
      have h4 := ih (k := k) (by simpa using h0) (fun j hj => by simpa [g] using h1 (j + 1) (by omega)) (h2.imp (fun h => by simpa using h) (fun h => by simpa [g] using h))
      simp [h3, h4]

theorem addr_add (b o j : Nat) : (Addr.add ⟨b, o, none⟩ j) = ⟨b, o + j, none⟩ := by unfold Addr.add; split <;> simp_all
/-- The document's queue: the cell at a has the list's slice, its row lies at b (nil: none). -/
def Rf (w : World) (a b : Nat) (S : List Int) : Prop := ∃ t v, w.heap[a]? = some (.cells #[v] t (0, 0)) ∧ ((v = .slice none 0 0 ∧ S = [] ∧ b = a) ∨ ∃ cap, v = .slice (some ⟨b, 0, none⟩) S.length cap ∧ Row w b cap S ∧ a ≠ b)
theorem Rf.lt {w : World} {a b : Nat} {S : List Int} (h : Rf w a b S) : a < w.heap.size ∧ b < w.heap.size := by
  obtain ⟨t, v, h1, h2⟩ := h
  have h3 := (Array.getElem?_eq_some_iff.1 h1).1
  refine ⟨h3, ?_⟩
  rcases h2 with ⟨_, _, rfl⟩ | ⟨_, _, r, _⟩
  · exact h3
  · exact r.lt
theorem Rf.of {w w' : World} {a b : Nat} {S : List Int} (h : Rf w a b S) (ha : w'.heap[a]? = w.heap[a]?) (hb : w'.heap[b]? = w.heap[b]?) : Rf w' a b S := by
  obtain ⟨t, v, h1, h2⟩ := h
  refine ⟨t, v, ha.trans h1, ?_⟩
  rcases h2 with h2 | ⟨cap, e, r, n⟩
  · exact .inl h2
  · exact .inr ⟨cap, e, r.of hb, n⟩
theorem Rf.only {w w' : World} {a b c d : Nat} {S : List Int} (h : Rf w c d S) (k : Only a b w w') (h1 : c ≠ a) (h2 : c ≠ b) (h3 : d ≠ a) (h4 : d ≠ b) : Rf w' c d S :=
  h.of (k.block c h.lt.1 h1 h2) (k.block d h.lt.2 h3 h4)
theorem Rf.below {w w' : World} {a b : Nat} {S : List Int} (h : Rf w a b S) (k : Below w.heap.size w w') : Rf w' a b S := h.of (k.block a h.lt.1) (k.block b h.lt.2)
/-- The cell, and what its slice tells. -/
theorem Rf.open {w : World} {a b : Nat} {S : List Int} (h : Rf w a b S) : ∃ p cap, w.cell? ⟨a, 0, none⟩ = some (.slice p S.length cap) ∧ w.frozen? ⟨a, 0, none⟩ = false ∧ Arg w p S := by
  obtain ⟨t, v, h1, h2⟩ := h
  have h3 := frozen_of_row w a 0 _ t h1
  have h4 := cell_of_row w a 0 _ t (0, 0) h1
  rcases h2 with ⟨rfl, rfl, _⟩ | ⟨cap, rfl, r, _⟩
  · exact ⟨none, 0, h4, h3, fun h => absurd h (by simp)⟩
  · exact ⟨_, cap, h4, h3, r.arg⟩
/-- .. of a list that has something. -/
theorem Rf.some {w : World} {a b : Nat} {S : List Int} (h : Rf w a b S) (h0 : 0 < S.length) : ∃ cap, w.cell? ⟨a, 0, none⟩ = .some (.slice (.some ⟨b, 0, none⟩) S.length cap) ∧ w.frozen? ⟨a, 0, none⟩ = false ∧ Row w b cap S ∧ a ≠ b := by
  obtain ⟨t, v, h1, h2⟩ := h
  have h3 := frozen_of_row w a 0 _ t h1
  have h4 := cell_of_row w a 0 _ t (0, 0) h1
  rcases h2 with ⟨_, rfl, _⟩ | ⟨cap, rfl, r, n⟩
  · simp at h0
  · exact ⟨cap, h4, h3, r, n⟩
/-- The cell is told another row. -/
theorem Rf.names {w w' : World} {a b b' cap : Nat} {S S' : List Int} (h : Rf w a b S) (ha : w'.heap[a]? = w.heap[a]?) (hr : Row w' b' cap S') (hn : a ≠ b') :
    Rf (w'.setCell ⟨a, 0, none⟩ (.slice (.some ⟨b', 0, none⟩) S'.length cap)) a b' S' := by
  obtain ⟨t, v, h1, _⟩ := h
  exact ⟨t, _, heap_setCell_same w' a 0 _ t _ (ha.trans h1), .inr ⟨cap, rfl, hr.of (Below.heap_setCell _ _ _ _ (Ne.symm hn)), hn⟩⟩

theorem rpeek_any {w : World} {a b : Nat} {x : Int} {S : List Int} (h : Rf w a b (x :: S)) (hl : S.length ≤ 10000) :
    Calls Try.prog 13 #[.pointer (some ⟨a, 0, none⟩)] w fun e w' => e = .returned (.tuple #[.int .i64 x, .bool true]) ∧ w' = w := by
  obtain ⟨cap, hc, _, hr, _⟩ := h.some (by simp)
  have h1 := hr.cell (i := 0) (by simp)
  rw [show g (x :: S) 0 = x from rfl] at h1
  rw [List.length_cons] at hc
  obtain ⟨n, hn⟩ : ∃ n, S.length = n := ⟨_, rfl⟩
  rw [hn] at hc hl
  clear hn
  have ht : ((n : Int) + 1 == 0) = false := by simp; omega
  go_enter Try.func13, Try.ntmps13
  go_wp2_with fail
  go_ret2
  exact ⟨rfl, rfl⟩
theorem rpeek_none {w : World} {a b : Nat} (h : Rf w a b []) :
    Calls Try.prog 13 #[.pointer (some ⟨a, 0, none⟩)] w fun e w' => e = .returned (.tuple #[.int .i64 0, .bool false]) ∧ w' = w := by
  obtain ⟨p, cap, hc, _, _⟩ := h.open
  rw [List.length_nil] at hc
  go_enter Try.func13, Try.ntmps13
  go_wp2_with fail
  go_ret2
  exact ⟨rfl, rfl⟩
theorem rpop_none {w : World} {a b : Nat} (h : Rf w a b []) :
    Calls Try.prog 11 #[.pointer (some ⟨a, 0, none⟩)] w fun e w' => e = .returned (.tuple #[.int .i64 0, .bool false]) ∧ w' = w := by
  obtain ⟨p, cap, hc, _, _⟩ := h.open
  rw [List.length_nil] at hc
  go_enter Try.func11, Try.ntmps11
  go_wp2_with fail
  go_ret2
  exact ⟨rfl, rfl⟩
theorem rpop_any {w : World} {a b : Nat} {x : Int} {S : List Int} (hR : Rf w a b (x :: S)) (hl : S.length ≤ 10000) :
    Calls Try.prog 11 #[.pointer (some ⟨a, 0, none⟩)] w fun e w' => e = .returned (.tuple #[.int .i64 x, .bool true]) ∧ ∃ b', Rf w' a b' S ∧ Only a a w w' ∧ w.heap.size ≤ b' := by
  have hlt := hR.lt
  obtain ⟨cap, hc, hf, hr, hab⟩ := hR.some (by simp)
  have hle := hr.le
  have h1 := hr.cell (i := 0) (by simp)
  rw [show g (x :: S) 0 = x from rfl] at h1
  rw [List.length_cons] at hc hle
  obtain ⟨n, hn⟩ : ∃ n, S.length = n := ⟨_, rfl⟩
  have HN : Hid (S.length = n) := hn
  have HA : Hid (∀ q : Option Addr, (0 < n → q = some ⟨b, 1, none⟩) → Arg (w.alloc (.cells #[] 3)) q S) := fun q hq h0 => by
    refine ⟨_, hq (by rw [← hn]; exact h0), fun i hi => ?_⟩
    have := hr.cell (i := i + 1) (by simpa using hi)
    rw [addr_add, Nat.add_comm 1 i]
    rw [((Below.refl w.heap.size w).alloc (Nat.le_refl _) _).cell (show b < w.heap.size from hr.lt), this]
    rfl
  rw [hn] at hc hl hle
  clear hn
  have ht : ((n : Int) + 1 == 0) = false := by simp; omega
  go_enter Try.func11, Try.ntmps11
  go_wp2_with (at_builtin; refine wpList_app (by rfl) _ _ 22 (by rfl) Try.underlying22 w.heap.size 0 0 _ _ [] S _ (by rfl) (by rfl) rfl HN.out (row_new w) (HA.out _ (by intro h; first | rfl | (split <;> first | rfl | omega) | omega)) (by omega) ?_)
  all_goals
    intro b1 cap1 w1 R1 G1 h1
    have S1 : w.heap.size + 1 ≤ w1.heap.size := by have := G1.size; rwa [World.size_alloc] at this
    have HW : Hid (∀ k, k < w.heap.size → w1.heap[k]? = w.heap[k]?) := fun k hk => (G1.block k (by rw [World.size_alloc]; omega) (by simp; omega)).trans (heap_alloc_old w _ hk)
    have hb1 : w.heap.size ≤ b1 := by rcases h1 with h | h <;> omega
    have hca : w1.cell? ⟨a, 0, none⟩ = some (.slice (some ⟨b, 0, none⟩) _ cap) := (World.cell?_of_block (a := ⟨a, 0, none⟩) (HW.out a hlt.1)).trans hc
    have hfa : w1.frozen? ⟨a, 0, none⟩ = false := (World.frozen?_of_block (a := ⟨a, 0, none⟩) (HW.out a hlt.1)).trans hf
    have HO : Hid (Only a a w w1) := ⟨G1.os, G1.tape, G1.output, by omega, fun k hk _ _ => HW.out k hk⟩
    clear G1 h1
    go_wp2_with fail
    go_ret2
    refine ⟨rfl, b1, ?_, HO.out.then (Only.setA a a 0 _ _), hb1⟩
    have := hR.names (HW.out a hlt.1) R1 (by omega)
    rw [HN.out] at this
    exact this

end Go.Proofs.Ytmpignlciicaeaa
