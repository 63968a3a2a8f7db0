/-
  What a crash leaves of pages of one byte each: sector by sector.
-/
import Derived.Test.YtamaijolggdakaaCalm
namespace Go.Proofs.Ytamaijolggdakaa
open Go.RowKit

/-- The byte of sector k of page p behind the first n of what waits. -/
def wantN (o : UInt8) (m : List (UInt8 × UInt8)) (cs : List UInt8) (p k : Nat) : Nat → UInt8
  | 0 => o
  | n + 1 => if (m.getD n (0, 0)).1.toNat % 4 = p ∧ bitOf (cs.getD n 0).toNat k = true then (m.getD n (0, 0)).2 else wantN o m cs p k n
def waitsOf (m : List (UInt8 × UInt8)) : List (Nat × List UInt8) := m.map fun x => (x.1.toNat % 4, fillL x.2)
theorem waitsOf_length (m : List (UInt8 × UInt8)) : (waitsOf m).length = m.length := List.length_map ..
theorem waitsOf_getD (m : List (UInt8 × UInt8)) {i : Nat} (h : i < m.length) : (waitsOf m).getD i (0, []) = ((m.getD i (0, 0)).1.toNat % 4, fillL (m.getD i (0, 0)).2) := by
  unfold waitsOf
  rw [List.getD_eq_getElem?_getD, List.getElem?_map, List.getElem?_eq_getElem h, List.getD_eq_getElem?_getD, List.getElem?_eq_getElem h]; rfl

theorem sec_fill (v : UInt8) {k : Nat} (h : k < 4) : sec (fillL v) k = List.replicate 64 v := by
  unfold sec fillL
  rw [List.drop_replicate, List.take_replicate]
  congr 1
  omega
theorem sec_get (l : List UInt8) (i j : Nat) (h : j < 64) : (sec l i)[j]? = l[64 * i + j]? := by
  unfold sec
  rw [List.getElem?_take, if_pos h, List.getElem?_drop]
theorem sec_ext {a b : List UInt8} {k : Nat} (h : ∀ j, j < 64 → a[64 * k + j]? = b[64 * k + j]?) : sec a k = sec b k := by
  apply List.ext_getElem?
  intro j
  by_cases hj : j < 64
  · rw [sec_get _ _ _ hj, sec_get _ _ _ hj]; exact h j hj
  · unfold sec
    rw [List.getElem?_take, if_neg hj, List.getElem?_take, if_neg hj]
theorem sec_put_same {l s : List UInt8} {k : Nat} (hl : l.length = 256) (hs : s.length = 64) (hk : k < 4) : sec (put l (64 * k) s) k = s := by
  apply List.ext_getElem?
  intro j
  by_cases hj : j < 64
  · rw [sec_get _ _ _ hj, get_put_in _ _ _ (by omega) _ (by omega)]
  · unfold sec
    rw [List.getElem?_take, if_neg hj, List.getElem?_eq_none (by omega)]
theorem sec_put_other {l s : List UInt8} {i k : Nat} (hl : l.length = 256) (hs : s.length = 64) (hi : i < 4) (h : i ≠ k) : sec (put l (64 * i) s) k = sec l k :=
  sec_ext fun j hj => get_put_out _ _ _ (by omega) _ (by omega)
theorem sec_tearN {a b : List UInt8} {c : Nat} (ha : a.length = 256) (hb : b.length = 256) {k : Nat} (hk : k < 4) : ∀ n, n ≤ 4 → sec (tearN a b c n) k = if k < n ∧ bitOf c k = true then sec b k else sec a k
  | 0, _ => by rw [if_neg (by omega)]; rfl
  | n + 1, hn => by
    have ih := sec_tearN (c := c) ha hb hk n (by omega)
    have hl := tearN_length (c := c) (n := n) ha hb (by omega)
    unfold tearN
    by_cases hbit : bitOf c n = true
    · rw [if_pos hbit]
      by_cases e : n = k
      · subst e
        rw [sec_put_same hl (sec_length hb hk) hk, if_pos ⟨by omega, hbit⟩]
      · rw [sec_put_other hl (sec_length hb (by omega)) (by omega) e, ih]
        by_cases h2 : k < n
        · simp only [h2, show k < n + 1 by omega, true_and]
        · rw [if_neg (fun h => h2 h.1), if_neg (fun h => by omega)]
    · rw [if_neg hbit, ih]
      by_cases h2 : k < n
      · simp only [h2, show k < n + 1 by omega, true_and]
      · rw [if_neg (fun h => h2 h.1), if_neg (fun h => hbit (by have : n = k := by omega
                                                                rw [this]; exact h.2))]
theorem sec_tear {a b : List UInt8} {c : Nat} (ha : a.length = 256) (hb : b.length = 256) {k : Nat} (hk : k < 4) : sec (tear a b c) k = if bitOf c k = true then sec b k else sec a k := by
  unfold tear
  rw [sec_tearN ha hb hk 4 (Nat.le_refl _)]
  simp only [hk, true_and]

theorem crashN_page {ps : List (List UInt8)} {m : List (UInt8 × UInt8)} {cs : List UInt8} (h4 : ps.length = 4) (hp : ∀ q ∈ ps, q.length = 256) : ∀ n, n ≤ m.length → ∀ q ∈ crashN ps (waitsOf m) cs n, q.length = 256
  | 0, _ => hp
  | n + 1, hn => by
    have ih := crashN_page (m := m) (cs := cs) h4 hp n (by omega)
    unfold crashN
    rw [waitsOf_getD m (by omega)]
    refine set_all ih (tear_length ?_ (fillL_length _))
    have hlt : (m.getD n (0, 0)).1.toNat % 4 < (crashN ps (waitsOf m) cs n).length := by rw [crashN_length, h4]; omega
    rw [List.getD_eq_getElem?_getD, List.getElem?_eq_getElem hlt]
    exact ih _ (List.getElem_mem hlt)
theorem getD_length {l : List (List UInt8)} (h : ∀ q ∈ l, q.length = 256) {i : Nat} (hi : i < l.length) : (l.getD i []).length = 256 := by
  rw [List.getD_eq_getElem?_getD, List.getElem?_eq_getElem hi]; exact h _ (List.getElem_mem hi)
theorem crashN_sec {old : List UInt8} {m : List (UInt8 × UInt8)} {cs : List UInt8} (h4 : old.length = 4) {p k : Nat} (hp : p < 4) (hk : k < 4) : ∀ n, n ≤ m.length → sec ((crashN (old.map fillL) (waitsOf m) cs n).getD p []) k = List.replicate 64 (wantN (old.getD p 0) m cs p k n)
  | 0, _ => by
    show sec ((old.map fillL).getD p []) k = _
    rw [fills_getD _ (by omega), sec_fill _ hk]; rfl
  | n + 1, hn => by
    have ih := crashN_sec (m := m) (cs := cs) h4 hp hk n (by omega)
    have hl : (old.map fillL).length = 4 := by rw [List.length_map, h4]
    have hpg := crashN_page (m := m) (cs := cs) hl (fun q hq => by obtain ⟨v, _, rfl⟩ := List.mem_map.1 hq; exact fillL_length v) n (by omega)
    have hcl : (crashN (old.map fillL) (waitsOf m) cs n).length = 4 := by rw [crashN_length, hl]
    unfold crashN wantN
    rw [waitsOf_getD m (by omega)]
    simp only
    by_cases e : (m.getD n (0, 0)).1.toNat % 4 = p
    · rw [e]
      have hset : ∀ x, ((crashN (old.map fillL) (waitsOf m) cs n).set p x).getD p [] = x := fun x => by
        rw [List.getD_eq_getElem?_getD, List.getElem?_set_self (by omega)]; rfl
      rw [hset, sec_tear (getD_length hpg (by omega)) (fillL_length _) hk, sec_fill _ hk, ih]
      by_cases hb : bitOf (cs.getD n 0).toNat k = true
      · rw [if_pos hb, if_pos ⟨rfl, hb⟩]
      · rw [if_neg hb, if_neg (fun h => hb h.2)]
    · rw [if_neg (fun h => e h.1), ← ih, List.getD_eq_getElem?_getD, List.getElem?_set_ne e, List.getD_eq_getElem?_getD]

theorem waitsOf_next (m : List (UInt8 × UInt8)) {i : Nat} (h : i < m.length) : waitsOf (m.take (i + 1)) = waitsOf (m.take i) ++ [((m.getD i (0, 0)).1.toNat % 4, fillL (m.getD i (0, 0)).2)] := by
  unfold waitsOf
  rw [List.take_add_one, List.getElem?_eq_getElem h, List.map_append, List.getD_eq_getElem?_getD, List.getElem?_eq_getElem h]; rfl
theorem fill_cut (v : UInt8) : (bs (fillL v)).extract 0 64 = bs (List.replicate 64 v) := by
  apply eq_of_L
  rw [L_extract, L_bs, L_bs]
  have := sec_fill v (k := 0) (by omega)
  unfold sec at this
  simpa using this
theorem page_cut {l : List UInt8} {k : Nat} {v : UInt8} (h : sec l k = List.replicate 64 v) : (bs l).extract (64 * k) (64 * k + 64) = bs (List.replicate 64 v) := by
  apply eq_of_L
  rw [L_extract, L_bs, L_bs, ← h, List.drop_take]
  unfold sec
  congr 1
  omega
theorem pair_cells {w wr : World} (hB : Below w.heap.size w wr) {x : Addr} {i : Nat} {u v : Value} (h0 : w.cell? (x.add (i * 2)) = some u) (h1 : w.cell? (x.add (i * 2 + 1)) = some v) :
    (∀ q : NewW wr, q.v.cell? (x.add (i * 2)) = some u) ∧ (∀ q : NewW wr, q.v.cell? ⟨(x.add (i * 2)).block, (x.add (i * 2)).off + 1, none⟩ = some v) ∧ (∀ q : NewW wr, q.v.cell? ⟨x.block, (x.add (i * 2)).off + 1, none⟩ = some v) := by
  have hq : ∀ q : NewW wr, Below w.heap.size w q.v := fun q => hB.trans (q.h.mono hB.size)
  have e : ∀ q : NewW wr, q.v.cell? ⟨(x.add (i * 2)).block, (x.add (i * 2)).off + 1, none⟩ = some v := fun q => by
    have h2 := cell_below (hq q) h1 (Nat.le_refl _)
    rw [← Go.Deep.add_add] at h2
    exact h2
  exact ⟨fun q => cell_below (hq q) h0 (Nat.le_refl _), e, fun q => by rw [← add_block x (i * 2)]; exact e q⟩
theorem ee4 : St.grow ⟨4, [], [], -1, false⟩ 4 = (0, ⟨4, [zeros, zeros, zeros, zeros], [], -1, false⟩) := by kernel_rfl
theorem fills_zero4 : [zeros, zeros, zeros, zeros] = ([0, 0, 0, 0] : List UInt8).map fillL := by rw [← fill_zero]; rfl
theorem still_read {lim : Nat} {ps : List (List UInt8)} (i : Nat) (h : i < ps.length) : (St.read ⟨lim, ps, [], -1, false⟩ (i : Int)) = (0, ps.getD i []) := by
  unfold St.read
  rw [if_neg Bool.false_ne_true, if_neg (by show ¬ ¬ (_ ∧ (i : Int) < (ps.length : Int)); omega), Int.toNat_natCast]
  rfl
theorem wantN_next (o : UInt8) (m : List (UInt8 × UInt8)) (cs : List UInt8) (p k n : Nat) : wantN o m cs p k (n + 1) = if (m.getD n (0, 0)).1.toNat % 4 = p ∧ bitOf (cs.getD n 0).toNat k = true then (m.getD n (0, 0)).2 else wantN o m cs p k n := rfl
theorem pair_two {w w' : World} (hB : Below w.heap.size w w') {x : Addr} {i : Nat} {v : Value} (h : w.cell? (x.add (i * 2 + 1)) = some v) : w'.cell? ⟨(x.add (i * 2)).block, (x.add (i * 2)).off + 1, none⟩ = some v ∧ w'.cell? ⟨x.block, (x.add (i * 2)).off + 1, none⟩ = some v := by
  have h1 := cell_below hB h (Nat.le_refl _)
  rw [← Go.Deep.add_add] at h1
  refine ⟨h1, ?_⟩
  rw [← add_block x (i * 2)]
  exact h1

end Go.Proofs.Ytamaijolggdakaa
