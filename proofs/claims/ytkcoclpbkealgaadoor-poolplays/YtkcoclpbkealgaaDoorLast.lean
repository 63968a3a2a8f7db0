/-
  What last and below tell: the page as it was written last; what waits below a place.
-/
import Derived.Test.YtkcoclpbkealgaaDoorList
namespace Go.Proofs.YtkcoclpbkealgaaDoor
open Go.RowKit
set_option maxRecDepth 20000

set_option maxRecDepth 20000 in
set_option maxHeartbeats 1000000 in
theorem last_any {w : World} {F : Nat → Prop} {p : Nat} {S : St} (D : Disk w F p S) (at_ : Nat) (hat : at_ < S.ps.length) :
    Calls Tryd.prog 61 #[.pointer (some ⟨p, 0, none⟩), .int .i64 (at_ : Int)] w fun e w' => e = .returned (.agg (cellsL ((latest S.ps S.ws).getD at_ [])).toArray) ∧ New w w' := by
  have hok := D.ok
  have HD : Hid (Disk w F p S) := D
  have hpl : p < w.heap.size := D.lt
  obtain ⟨a1, c1, a2, c2, h0, h1, h2, h3, h4, hf, R, P1, P2⟩ := D.open
  clear D R P1 P2 h0 h3 h4 hf
  have hfew := hok.few
  go_enter Tryd.func61, Tryd.ntmps61
  go_wp2_with (refine wpList_alloc_new (by rfl) 85 (by rfl) _ _ _ info77 ?_; intro W1 R1 N1; have k2 := (N1.cell (p := ⟨p, 2, none⟩) hpl).trans h2)
  clear k2
  go_loopw [5] (fun i wr => ∃ k : Nat, k ≤ S.ws.length ∧ i = .int .i64 ((k : Int) - 1) ∧ (∀ j, k ≤ j → j < S.ws.length → (S.ws.getD j (0, [])).1 ≠ at_) ∧ Row wr w.heap.size (cellsL zeros).toArray 85 ∧ New w wr) (fun i _ => (intOf i + 1).toNat)
  case atStart => exact ⟨S.ws.length, by omega, rfl, fun j h1 h2 => absurd h1 (by omega), R1, N1⟩
  case round =>
    clear R1 N1
    obtain ⟨k, hk, rfl, hno, R1, N1⟩ := hrel
    have k1 := (N1.cell (p := ⟨p, 1, none⟩) hpl).trans h1
    have k2 := (N1.cell (p := ⟨p, 2, none⟩) hpl).trans h2
    have HN : Hid (∀ j, k ≤ j → j < S.ws.length → (S.ws.getD j (0, [])).1 ≠ at_) := hno
    clear hno h1 h2
    obtain ⟨_, _, _, _, _, j1, j2, _, _, _, _, P1, P2⟩ := HD.out.open
    have e1 := (N1.cell (p := ⟨p, 1, none⟩) hpl).trans j1
    have e2 := (N1.cell (p := ⟨p, 2, none⟩) hpl).trans j2
    rw [k1] at e1
    rw [k2] at e2
    cases e1
    cases e2
    clear j1 j2
    have P1' := P1.after N1
    have P2' := P2.after N1
    clear P1 P2
    cases k with
    | zero =>
      obtain ⟨g1, c1', e1, _, hg1, _⟩ := P1'.full (by rw [List.length_map]; omega)
      rw [List.length_map] at e1
      cases e1
      have hx := map_getD cellsL S.ps at_ [] hat
      have hv : (latest S.ps S.ws).getD at_ [] = S.ps.getD at_ [] := latest_none HN.out
      have hl : (S.ps.getD at_ []).length = 256 := by rw [List.getD_eq_getElem?_getD, List.getElem?_eq_getElem hat]; exact hok.page _ (List.getElem_mem hat)
      have HV : Hid ((latest S.ps S.ws).getD at_ [] = S.ps.getD at_ []) := hv
      clear hv
      generalize S.ps.getD at_ [] = d at hx hl HV
      have hat' : (at_ : Int) < (S.ps.length : Int) := by omega
      go_wp2_with (first
        | refine wpList_load_pl (by rfl) 85 _ (by rfl) _ 85 256 g1 _ _ at_ _ _ _ P1' hx (by rfl) Tryd.underlying85 rfl (by rw [cellsL_length, hl]; exact i77) ?_
        | (refine wpList_store_new (by rfl) 85 _ _ (by rfl) w.heap.size (cellsL d).toArray (by rfl) (by rfl) 85 _ R1 (by rw [cellsL_size, hl]; exact i77) (by rw [cellsL_size, cellsL_size, hl, zeros_length]) (cellsL_all _) ?_; intro W2 R2 B2))
      exact bodyPost_ret (results_cell_row rfl _ _ w.heap.size 85 (cellsL d).toArray (0, 0) _ rfl R2 Tryd.underlying85 rfl (by rw [cellsL_size, hl]; exact i77)) rfl ⟨by rw [HV.out], B2.new N1 (Nat.le_refl _)⟩
    | succ j =>
      rw [show ((j + 1 : Nat) : Int) - 1 = (j : Int) by omega]
      have hlt : j < S.ws.length := by omega
      obtain ⟨g2, c2', e2, _, hg2, _⟩ := P2'.full (by rw [List.length_map]; omega)
      rw [List.length_map] at e2
      cases e2
      have hx := map_getD waitL S.ws j (0, []) hlt
      obtain ⟨hx1, hx2⟩ := hok.at hlt
      have HV : Hid ((S.ws.getD j (0, [])).1 = at_ → (latest S.ps S.ws).getD at_ [] = (S.ws.getD j (0, [])).2) := fun he => latest_found hlt hat he HN.out
      have HM : Hid ((S.ws.getD j (0, [])).1 ≠ at_ → ∀ i, j ≤ i → i < S.ws.length → (S.ws.getD i (0, [])).1 ≠ at_) := fun he i h1 h2 => by
        by_cases e : i = j
        · rw [e]; exact he
        · exact HN.out i (by omega) h2
      obtain ⟨hlt0, hxe⟩ := List.getElem?_eq_some_iff.1 hx
      have hrg := P2'.range hlt0
      rw [hxe] at hrg
      clear hxe hx hlt0
      generalize S.ws.getD j (0, []) = x at hx1 hx2 HV HM hrg
      obtain ⟨xa, d⟩ := x
      have hc0 := wait_cell hrg
      have hrd := wait_data hrg
      simp only at hx1 hx2 hc0 hrd
      have hlt' : (j : Int) < (S.ws.length : Int) := by omega
      clear hrg
      by_cases he : xa = at_
      · have HW : Hid ((latest S.ps S.ws).getD at_ [] = d) := HV.out he
        clear HV HM
        subst he
        go_wp2_with (first
          | refine wpList_load_mid (by rfl) 85 _ (by rfl) g2 (j * 257 + 1) (by rfl) (cellsL d) _ hrd Tryd.underlying85 rfl (by rw [cellsL_length, hx2]; exact i77) ?_
          | (refine wpList_store_new (by rfl) 85 _ _ (by rfl) w.heap.size (cellsL d).toArray (by rfl) (by rfl) 85 _ R1 (by rw [cellsL_size, hx2]; exact i77) (by rw [cellsL_size, cellsL_size, hx2, zeros_length]) (cellsL_all _) ?_; intro W2 R2 B2))
        exact bodyPost_ret (results_cell_row rfl _ _ w.heap.size 85 (cellsL d).toArray (0, 0) _ rfl R2 Tryd.underlying85 rfl (by rw [cellsL_size, hx2]; exact i77)) rfl ⟨by rw [HW.out], B2.new N1 (Nat.le_refl _)⟩
      · have he' : ¬ (xa : Int) = (at_ : Int) := by omega
        clear HV hrd
        have HE : Hid (xa ≠ at_) := he
        clear he
        go_wp2_with fail
        exact ⟨⟨j, by omega, rfl, HM.out HE.out, R1, N1⟩, by simp [intOf]⟩

theorem filter_next {ws : List (Nat × List UInt8)} {q : Nat × List UInt8 → Bool} {k : Nat} (h : k < ws.length) :
    (ws.take (k + 1)).filter q = (ws.take k).filter q ++ (if q (ws.getD k (0, [])) then [ws.getD k (0, [])] else []) := by
  rw [List.take_add_one, List.getElem?_eq_getElem h, List.filter_append, List.getD_eq_getElem?_getD, List.getElem?_eq_getElem h]
  simp [List.filter_cons]
theorem info80_size : (Value.agg (waitL (0, zeros)).toArray).cells.size = 257 := by show (waitL (0, zeros)).toArray.size = 257; rw [List.size_toArray, waitL_length (x := (0, zeros)) zeros_length]

end Go.Proofs.YtkcoclpbkealgaaDoor
