/-
  Plain mathematics of a heap of numbers in a list: exchange, sift down, sift up, the least in front; lists that rise.
-/
namespace Go.Proofs.Ytmpignlciicaeaa

/-- The number at a place. -/
def g (zs : List Int) (i : Nat) : Int := zs.getD i 0
theorem g_get {zs : List Int} {i : Nat} (h : i < zs.length) : zs[i]? = some (g zs i) := by simp [g, h]
theorem g_lt {zs : List Int} {i : Nat} (h : i < zs.length) : g zs i = zs[i] := by simp [g, h]

/-- Two places exchanged. -/
def sw (zs : List Int) (i j : Nat) : List Int := (zs.set i (g zs j)).set j (g zs i)
theorem sw_length (zs : List Int) (i j : Nat) : (sw zs i j).length = zs.length := by simp [sw]
theorem sw_perm {zs : List Int} {i j : Nat} (hi : i < zs.length) (hj : j < zs.length) : (sw zs i j).Perm zs := by
  have h := Array.perm_iff_toList_perm.1 (Array.swap_perm (xs := zs.toArray) (i := i) (j := j) (by simpa using hi) (by simpa using hj))
  rw [Array.toList_swap] at h
  have e : sw zs i j = (zs.set i zs[j]).set j zs[i] := by unfold sw; rw [g_lt hi, g_lt hj]
  rw [e]
  simpa using h
theorem g_sw {zs : List Int} {i j : Nat} (hi : i < zs.length) (hj : j < zs.length) (k : Nat) : g (sw zs i j) k = if k = j then g zs i else if k = i then g zs j else g zs k := by
  unfold sw
  by_cases h1 : k = j
  · subst h1
    rw [if_pos rfl, g_lt (by simpa using hj)]
    simp
  · rw [if_neg h1]
    by_cases h2 : k = i
    · subst h2
      rw [if_pos rfl, g_lt (by simpa using hi), List.getElem_set_ne (Ne.symm h1)]
      simp
    · rw [if_neg h2]
      simp [g, List.getElem?_set_ne (Ne.symm h1), List.getElem?_set_ne (Ne.symm h2)]

/-- The first n places, from the place lo on as a parent, are a heap. -/
def Heap (lo n : Nat) (zs : List Int) : Prop := ∀ k, 0 < k → k < n → lo ≤ (k - 1) / 2 → g zs ((k - 1) / 2) ≤ g zs k
/-- .. but for the place i as a parent. -/
def Down (lo i n : Nat) (zs : List Int) : Prop :=
  (∀ k, 0 < k → k < n → lo ≤ (k - 1) / 2 → (k - 1) / 2 ≠ i → g zs ((k - 1) / 2) ≤ g zs k) ∧
  (lo < i → lo ≤ (i - 1) / 2 ∧ ∀ k, 0 < k → k < n → (k - 1) / 2 = i → g zs ((i - 1) / 2) ≤ g zs k)
/-- .. but for the place j as a child. -/
def Up (j n : Nat) (zs : List Int) : Prop :=
  (∀ k, 0 < k → k < n → k ≠ j → g zs ((k - 1) / 2) ≤ g zs k) ∧
  (0 < j → ∀ k, 0 < k → k < n → (k - 1) / 2 = j → g zs ((j - 1) / 2) ≤ g zs k)

theorem Down.start {lo n : Nat} {zs : List Int} (h : Heap (lo + 1) n zs) : Down lo lo n zs :=
  ⟨fun k h0 hn hl hne => h k h0 hn (by omega), fun h => absurd h (by omega)⟩
theorem Down.leaf {lo i n : Nat} {zs : List Int} (h : Down lo i n zs) (hl : n ≤ 2 * i + 1) : Heap lo n zs := fun k h0 hn hlo =>
  h.1 k h0 hn hlo (by omega)
theorem Down.stop {lo i n : Nat} {zs : List Int} (h : Down lo i n zs) (h1 : ∀ k, k = 2 * i + 1 ∨ k = 2 * i + 2 → k < n → g zs i ≤ g zs k) : Heap lo n zs := by
  intro k h0 hn hlo
  by_cases e : (k - 1) / 2 = i
  · rw [e]
    exact h1 k (by omega) hn
  · exact h.1 k h0 hn hlo e
theorem Down.step {lo i j n : Nat} {zs : List Int} (h : Down lo i n zs) (hlen : n ≤ zs.length) (hj : j < n) (hij : j = 2 * i + 1 ∨ j = 2 * i + 2) (hi : lo ≤ i)
    (hmin : ∀ k, k = 2 * i + 1 ∨ k = 2 * i + 2 → k < n → g zs j ≤ g zs k) (hlt : g zs j < g zs i) : Down lo j n (sw zs i j) := by
  have hil : i < zs.length := by omega
  have hjl : j < zs.length := by omega
  have G := g_sw hil hjl
  refine ⟨fun k h0 hn hlo hne => ?_, fun _ => ⟨by omega, fun k h0 hn hk => ?_⟩⟩
  · by_cases e1 : k = j
    · subst e1
      rw [show (k - 1) / 2 = i by omega, G i, G k, if_neg (by omega), if_pos rfl, if_pos rfl]
      omega
    · by_cases e2 : k = i
      · subst e2
        have h2 := h.2 (by omega)
        rw [G k, if_neg e1, if_pos rfl, G ((k - 1) / 2), if_neg (by omega), if_neg (by omega)]
        exact h2.2 j (by omega) hj (by omega)
      · rw [G k, if_neg e1, if_neg e2]
        by_cases e3 : (k - 1) / 2 = i
        · rw [e3, G i, if_neg (by omega), if_pos rfl]
          exact hmin k (by omega) hn
        · rw [G ((k - 1) / 2), if_neg hne, if_neg e3]
          exact h.1 k h0 hn hlo e3
  · rw [show (j - 1) / 2 = i by omega, G i, if_neg (by omega), if_pos rfl, G k, if_neg (by omega), if_neg (by omega)]
    have := h.1 k h0 hn (by omega) (by omega)
    rwa [hk] at this

theorem Up.stop0 {n : Nat} {zs : List Int} (h : Up 0 n zs) : Heap 0 n zs := fun k h0 hn _ => h.1 k h0 hn (by omega)
theorem Up.stop {j n : Nat} {zs : List Int} (h : Up j n zs) (h1 : g zs ((j - 1) / 2) ≤ g zs j) : Heap 0 n zs := fun k h0 hn _ => by
  by_cases e : k = j
  · subst e; exact h1
  · exact h.1 k h0 hn e
theorem Up.step {j n : Nat} {zs : List Int} (h : Up j n zs) (hlen : n ≤ zs.length) (hj : j < n) (hj0 : 0 < j) (hlt : g zs j < g zs ((j - 1) / 2)) : Up ((j - 1) / 2) n (sw zs ((j - 1) / 2) j) := by
  obtain ⟨i, hi⟩ : ∃ i, (j - 1) / 2 = i := ⟨_, rfl⟩
  rw [hi] at hlt ⊢
  have hil : i < zs.length := by omega
  have hjl : j < zs.length := by omega
  have G := g_sw hil hjl
  refine ⟨fun k h0 hn hne => ?_, fun hi0 k h0 hn hk => ?_⟩
  · by_cases e1 : k = j
    · subst e1
      rw [hi, G i, G k, if_neg (by omega), if_pos rfl, if_pos rfl]
      omega
    · rw [G k, if_neg e1, if_neg hne]
      by_cases e2 : (k - 1) / 2 = j
      · rw [e2, G j, if_pos rfl]
        have := h.2 hj0 k h0 hn e2
        rwa [hi] at this
      · by_cases e3 : (k - 1) / 2 = i
        · rw [e3, G i, if_neg (by omega), if_pos rfl]
          have := h.1 k h0 hn e1
          rw [e3] at this
          omega
        · rw [G ((k - 1) / 2), if_neg e2, if_neg e3]
          exact h.1 k h0 hn e1
  · rw [G ((i - 1) / 2), if_neg (by omega), if_neg (by omega)]
    have hp := h.1 i hi0 (by omega) (by omega)
    rw [G k]
    by_cases e1 : k = j
    · rw [if_pos e1]; exact hp
    · rw [if_neg e1, if_neg (by omega)]
      have := h.1 k h0 hn e1
      rw [hk] at this
      omega
theorem Heap.least {n : Nat} {zs : List Int} (h : Heap 0 n zs) : ∀ k, k < n → g zs 0 ≤ g zs k := by
  intro k
  induction k using Nat.strongRecOn with
  | ind k ih =>
    intro hk
    by_cases h0 : k = 0
    · subst h0; exact Int.le_refl _
    · exact Int.le_trans (ih ((k - 1) / 2) (by omega) (by omega)) (h k (by omega) hk (by omega))
theorem Heap.none {lo n : Nat} {zs : List Int} (h : n ≤ 2 * lo + 1) : Heap lo n zs := fun k h0 hn hl => absurd hl (by omega)

theorem g_append_left {zs : List Int} {v : Int} {k : Nat} (h : k < zs.length) : g (zs ++ [v]) k = g zs k := by simp [g, List.getElem?_append_left h]
/-- One more at the end: sift it up. -/
theorem Up.pushed {zs : List Int} (h : Heap 0 zs.length zs) (v : Int) : Up zs.length (zs.length + 1) (zs ++ [v]) := by
  refine ⟨fun k h0 hn hne => ?_, fun _ k h0 hn hk => absurd hk (by omega)⟩
  rw [g_append_left (by omega), g_append_left (by omega)]
  exact h k h0 (by omega) (by omega)
/-- The last one put to the front: sift it down. -/
theorem Down.popped {zs : List Int} {n : Nat} (h : Heap 0 (n + 1) zs) (hn : zs.length = n + 1) : Down 0 0 n (sw zs 0 n) := by
  refine ⟨fun k h0 hk _ hne => ?_, fun h => absurd h (by omega)⟩
  have G := g_sw (zs := zs) (i := 0) (j := n) (by omega) (by omega)
  rw [G k, G ((k - 1) / 2), if_neg (by omega), if_neg (by omega), if_neg (by omega), if_neg (by omega)]
  exact h k h0 (by omega) (by omega)
/-- Cut behind the first n. -/
theorem Heap.take {zs : List Int} {n : Nat} (h : Heap 0 n zs) (hn : n ≤ zs.length) : Heap 0 (zs.take n).length (zs.take n) := by
  intro k h0 hk hl
  rw [List.length_take] at hk
  have e : ∀ i, i < n → g (zs.take n) i = g zs i := fun i hi => by simp [g, hi]
  rw [e _ (by omega), e _ (by omega)]
  exact h k h0 (by omega) hl

/-- A list rises. -/
def Rises (l : List Int) : Prop := l.Pairwise (fun a b => a ≤ b)
theorem Rises.eq {l m : List Int} (hl : Rises l) (hm : Rises m) (h : l.Perm m) : l = m :=
  List.Perm.eq_of_pairwise (fun _ _ _ _ x y => Int.le_antisymm x y) hl hm h
/-- All, rising. -/
def srt (l : List Int) : List Int := l.mergeSort fun x y => decide (x ≤ y)
theorem srt_perm (l : List Int) : (srt l).Perm l := List.mergeSort_perm _ _
theorem srt_rises (l : List Int) : Rises (srt l) := by
  have h := List.pairwise_mergeSort (le := fun (x y : Int) => decide (x ≤ y)) (fun a b c => by simp; omega) (fun a b => by simp; omega) l
  exact h.imp fun h => of_decide_eq_true h
theorem srt_length (l : List Int) : (srt l).length = l.length := (srt_perm l).length_eq
theorem srt_eq {l m : List Int} (h : l.Perm m) (hm : Rises m) : srt l = m := (srt_rises l).eq hm ((srt_perm l).trans h)
/-- The least of a heap is the first of all, rising. -/
theorem Heap.first {zs : List Int} {x : Int} {t : List Int} (h : Heap 0 zs.length zs) (hp : zs.Perm (x :: t)) (hr : Rises (x :: t)) : g zs 0 = x := by
  have hlen := hp.length_eq
  simp only [List.length_cons] at hlen
  have h0 : g zs 0 ∈ zs := by rw [g_lt (by omega)]; exact List.getElem_mem _
  have h1 : x ≤ g zs 0 := by
    rcases List.mem_cons.1 (hp.subset h0) with e | e
    · rw [e]; exact Int.le_refl _
    · exact (List.pairwise_cons.1 hr).1 _ e
  have hx : x ∈ zs := hp.symm.subset (List.mem_cons_self ..)
  obtain ⟨k, hk, e⟩ := List.getElem_of_mem hx
  have h2 := h.least k hk
  rw [g_lt hk, e] at h2
  omega
/-- One put where it belongs. -/
def ins (v : Int) (l : List Int) : List Int := l.takeWhile (fun x => decide (x ≤ v)) ++ v :: l.dropWhile (fun x => decide (x ≤ v))
theorem ins_perm (v : Int) (l : List Int) : (ins v l).Perm (v :: l) := by
  unfold ins
  have h := List.perm_middle (a := v) (l₁ := l.takeWhile (fun x => decide (x ≤ v))) (l₂ := l.dropWhile (fun x => decide (x ≤ v)))
  rwa [List.takeWhile_append_dropWhile] at h
theorem ins_rises (v : Int) {l : List Int} (h : Rises l) : Rises (ins v l) := by
  unfold ins
  induction l with
  | nil => simp [Rises]
  | cons x t ih =>
    have hx := List.pairwise_cons.1 h
    by_cases e : x ≤ v
    · simp only [List.takeWhile_cons, List.dropWhile_cons, decide_eq_true e, if_true, List.cons_append]
      refine List.pairwise_cons.2 ⟨fun y hy => ?_, ih hx.2⟩
      have hy2 := (ins_perm v t).subset hy
      rcases List.mem_cons.1 hy2 with e2 | e2
      · omega
      · exact hx.1 y e2
    · simp only [List.takeWhile_cons, List.dropWhile_cons, decide_eq_false e]
      refine List.pairwise_cons.2 ⟨fun y hy => ?_, h⟩
      rcases List.mem_cons.1 hy with e2 | e2
      · omega
      · have := hx.1 y e2; omega
theorem ins_length (v : Int) (l : List Int) : (ins v l).length = l.length + 1 := (ins_perm v l).length_eq

end Go.Proofs.Ytmpignlciicaeaa
