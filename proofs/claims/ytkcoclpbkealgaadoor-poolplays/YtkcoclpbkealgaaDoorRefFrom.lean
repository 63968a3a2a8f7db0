/-
  The document's own New and From: is there a disk?
-/
import Derived.Test.YtkcoclpbkealgaaDoorKeep
namespace Go.Proofs.YtkcoclpbkealgaaDoor
open Go.RowKit
set_option maxRecDepth 20000

theorem refnew_no (w : World) (lim : Int) (h : ¬ (1 ≤ lim ∧ lim ≤ 200)) : Calls Tryd.prog 40 #[.int .i64 lim] w fun e w' => e = .returned (.tuple #[.pointer none, .bool false]) ∧ w' = w := by
  by_cases h1 : lim < 1
  · clear h
    go_enter Tryd.func40, Tryd.ntmps40
    go_wp2_with fail
    go_ret2
    exact ⟨rfl, rfl⟩
  · have h2 : 200 < lim := by omega
    clear h
    go_enter Tryd.func40, Tryd.ntmps40
    go_wp2_with fail
    go_ret2
    exact ⟨rfl, rfl⟩
theorem refnew_yes (w : World) (lim : Int) (h1 : 1 ≤ lim) (h2 : lim ≤ 200) : Calls Tryd.prog 40 #[.int .i64 lim] w fun e w' =>
    e = .returned (.tuple #[.pointer (some ⟨w.heap.size, 0, none⟩), .bool true]) ∧ New w w' ∧ Row w' w.heap.size #[.int .i64 lim, .slice none 0 0, .slice none 0 0, .int .i64 (-1), .bool false] 63 := by
  have h3 : ¬ lim < 1 := by omega
  have h4 : ¬ 200 < lim := by omega
  go_enter Tryd.func40, Tryd.ntmps40
  go_wp2_with fail
  go_ret2
  exact ⟨rfl, (New.refl w).alloc _, Row.new w _ _⟩

theorem fromB_eq {ts : List ByteArray} {lim : Int} (h1 : 1 ≤ lim ∧ lim ≤ 200) (h2 : (ts.length : Int) ≤ lim) : fromB ts lim = ts.all fun t => t.size == 256 := by
  unfold fromB
  rw [decide_eq_true ⟨h1.1, h1.2, h2⟩, Bool.true_and]

set_option maxRecDepth 20000 in
set_option maxHeartbeats 2000000 in
theorem reffrom_any (w : World) (a : Option Addr) (c : Nat) (ts : List ByteArray) (hT : Texts w a ts) (lim : Int) (h63 : ts.length ≤ 60000) :
    Calls Tryd.prog 11 #[.slice a ts.length c, .int .i64 lim] w fun e w' => ∃ v, e = .returned (.tuple #[v, .bool (fromB ts lim)]) ∧ New w w' := by
  have HT : Hid (Texts w a ts) := hT
  clear hT
  by_cases h1 : 1 ≤ lim ∧ lim ≤ 200
  · have hn := refnew_yes w lim h1.1 h1.2
    by_cases h2 : (ts.length : Int) ≤ lim
    · have hB := fromB_eq h1 h2
      have HB : Hid (fromB ts lim = ts.all fun t => t.size == 256) := hB
      have h1a := h1.1
      have h1b := h1.2
      obtain ⟨n, hnn⟩ : ∃ n, ts.length = n := ⟨_, rfl⟩
      have HN : Hid (ts.length = n) := hnn
      rw [hnn] at h2 h63 ⊢
      generalize fromB ts lim = B at HB ⊢
      clear h1 hB hnn
      go_enter Tryd.func11, Tryd.ntmps11
      go_wp2_with fail
      refine hn.mono ?_
      rintro _ w1 ⟨rfl, N1, R1⟩
      clear hn
      go_wp2_with fail
      go_loopw [8] (fun u wr => ∃ i : Nat, u = .int .i64 (i : Int) ∧ i ≤ n ∧ wr = w1 ∧ ∀ j, j < i → (ts.getD j ⟨#[]⟩).size = 256) (fun u _ => n - (intOf u).toNat)
      case atStart => exact ⟨0, rfl, by omega, by trivial, fun j hj => by omega⟩
      case round =>
        obtain ⟨i, rfl, hi, rfl, hall⟩ := hrel
        have HL : Hid (∀ j, j < i → (ts.getD j ⟨#[]⟩).size = 256) := hall
        clear hall
        by_cases hin : i < n
        · have hin' : (i : Int) < (n : Int) := by omega
          obtain ⟨x, rfl, hx⟩ := (HT.out.after N1) (by have := HN.out; omega)
          have hx0 := hx i (by have := HN.out; omega)
          obtain ⟨s, hs⟩ : ∃ s, ts.getD i ⟨#[]⟩ = s := ⟨_, rfl⟩
          have HS : Hid (ts.getD i ⟨#[]⟩ = s) := hs
          rw [hs] at hx0
          clear hx hs
          by_cases h256 : s.size = 256
          · have h256' : (s.size : Int) = 256 := by omega
            go_wp2_with fail
            refine ⟨⟨i + 1, by go_num, by omega, by trivial, fun j hj => ?_⟩, by simp [intOf]; omega⟩
            by_cases hji : j = i
            · subst hji; rw [HS.out]; exact h256
            · exact HL.out j (by omega)
          · have h256' : ¬ (s.size : Int) = 256 := by omega
            have HF : Hid (B = false) := by
              show B = false
              rw [HB.out, List.all_eq_false]
              refine ⟨s, ?_, by simpa using h256⟩
              rw [← HS.out, List.getD_eq_getElem?_getD, List.getElem?_eq_getElem (by have := HN.out; omega)]
              exact List.getElem_mem _
            go_wp2_with fail
            go_ret2
            exact ⟨_, by rw [HF.out]; rfl, N1⟩
        · obtain rfl : i = n := by omega
          have HF : Hid (B = true) := by
            show B = true
            rw [HB.out, List.all_eq_true]
            intro t ht
            obtain ⟨j, hj, rfl⟩ := List.mem_iff_getElem.1 ht
            have := HL.out j (by have := HN.out; omega)
            rw [List.getD_eq_getElem?_getD, List.getElem?_eq_getElem hj] at this
            simpa using this
          obtain ⟨v, W, hr, hP, hN⟩ := run_copied wr 28 9 28 (.string ⟨#[]⟩) 16 Tryd.underlying28 info9 rfl (by decide) a c (ts.map Value.string) (texts_cells (HT.out.after N1)) (fun u hu => by obtain ⟨t, _, rfl⟩ := List.mem_map.1 hu; rfl) (by rw [List.length_map]; have := HN.out; omega)
          rw [List.length_map, HN.out] at hr
          have hcell : W.cell? ⟨w.heap.size, 1, none⟩ = some (.slice none 0 0) := (R1.after hN).cell 1
          have hfr := (R1.after hN).frozen 1
          have HW : Hid (New w W) := N1.trans hN
          have hsz : w.heap.size ≤ w.heap.size := Nat.le_refl _
          obtain ⟨a', c', rfl, _⟩ := hP.form
          clear hP R1
          go_wp2_with (refine wpList_appends (by rfl) _ _ 28 28 _ _ _ W (by rfl) (by rfl) (by rfl) (by rfl) hr ?_)
          go_ret2
          exact ⟨_, by rw [HF.out]; rfl, HW.out.setCell (Nat.le_refl _) _⟩
    · have HF : Hid (fromB ts lim = false) := by
        show fromB ts lim = false
        unfold fromB
        rw [decide_eq_false (by omega)]; rfl
      have h2' : lim < (ts.length : Int) := by omega
      generalize fromB ts lim = B at HF ⊢
      go_enter Tryd.func11, Tryd.ntmps11
      go_wp2_with fail
      refine hn.mono ?_
      rintro _ w1 ⟨rfl, N1, R1⟩
      clear hn R1
      go_wp2_with fail
      go_ret2
      exact ⟨_, by rw [HF.out]; rfl, N1⟩
  · have hn := refnew_no w lim h1
    have HF : Hid (fromB ts lim = false) := by
      show fromB ts lim = false
      unfold fromB
      rw [decide_eq_false (by omega)]; rfl
    generalize fromB ts lim = B at HF ⊢
    clear h1
    go_enter Tryd.func11, Tryd.ntmps11
    go_wp2_with fail
    refine hn.mono ?_
    rintro _ w1 ⟨rfl, rfl⟩
    clear hn
    go_wp2_with fail
    go_ret2
    exact ⟨_, by rw [HF.out]; rfl, New.refl _⟩

end Go.Proofs.YtkcoclpbkealgaaDoor
