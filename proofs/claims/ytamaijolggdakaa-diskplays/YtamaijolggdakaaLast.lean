/-
  What last and below tell: the page as it was written last; what waits below a place.
-/
import Derived.Test.YtamaijolggdakaaList
namespace Go.Proofs.Ytamaijolggdakaa
open Go.RowKit

set_option maxRecDepth 20000 in
set_option maxHeartbeats 1000000 in
theorem last_any {w : World} {F : Nat → Prop} {p : Nat} {S : St} (D : Disk w F p S) (at_ : Nat) (hat : at_ < S.ps.length) :
    Calls Try.prog 42 #[.pointer (some ⟨p, 0, none⟩), .int .i64 (at_ : Int)] w fun e w' => e = .returned (.agg (cellsL ((latest S.ps S.ws).getD at_ [])).toArray) ∧ New w w' := by
  have hok := D.ok
  have HD : Hid (Disk w F p S) := D
  have hpl : p < w.heap.size := D.lt
  obtain ⟨a1, c1, a2, c2, h0, h1, h2, h3, h4, hf, R, P1, P2⟩ := D.open
  clear D R P1 P2 h0 h3 h4 hf
  have hfew := hok.few
  go_enter Try.func42, Try.ntmps42
  go_wp2_with (refine wpList_alloc_new (by rfl) 77 (by rfl) _ _ _ info77 ?_; intro W1 R1 N1; have k2 := (N1.cell (p := ⟨p, 2, none⟩) hpl).trans h2)
  clear k2
  go_loopw [5] (fun i wr => ∃ k : Nat, k ≤ S.ws.length ∧ i = .int .i64 ((k : Int) - 1) ∧ (∀ j, k ≤ j → j < S.ws.length → (S.ws.getD j (0, [])).1 ≠ at_) ∧ Row wr w.heap.size (cellsL zeros).toArray 77 ∧ New w wr) (fun i _ => (intOf i + 1).toNat)
  case atStart => exact ⟨S.ws.length, by omega, rfl, fun j h1 h2 => absurd h1 (by omega), R1, N1⟩
  case round =>
    clear R1 N1
    obtain ⟨k, hk, rfl, hno, R1, N1⟩ := hrel
    have k1 := (N1.cell (p := ⟨p, 1, none⟩) hpl).trans h1
    have k2 := (N1.cell (p := ⟨p, 2, none⟩) hpl).trans h2
    have HN : Hid (∀ j, k ≤ j → j < S.ws.length → (S.ws.getD j (0, [])).1 ≠ at_) := hno
    clear hno h1 h2
    obtain ⟨_, _, _, _, _, j1, j2, _, _, _, _, P1, P2⟩ := HD.out.open
    have e1 := (N1.cell (p := ⟨p, 1, none⟩) hpl).trans j1
    have e2 := (N1.cell (p := ⟨p, 2, none⟩) hpl).trans j2
    rw [k1] at e1
    rw [k2] at e2
    cases e1
    cases e2
    clear j1 j2
    have P1' := P1.after N1
    have P2' := P2.after N1
    clear P1 P2
    cases k with
    | zero =>
      obtain ⟨g1, c1', e1, _, hg1, _⟩ := P1'.full (by rw [List.length_map]; omega)
      rw [List.length_map] at e1
      cases e1
      have hx := map_getD cellsL S.ps at_ [] hat
      have hv : (latest S.ps S.ws).getD at_ [] = S.ps.getD at_ [] := latest_none HN.out
      have hl : (S.ps.getD at_ []).length = 256 := by rw [List.getD_eq_getElem?_getD, List.getElem?_eq_getElem hat]; exact hok.page _ (List.getElem_mem hat)
      have HV : Hid ((latest S.ps S.ws).getD at_ [] = S.ps.getD at_ []) := hv
      clear hv
      generalize S.ps.getD at_ [] = d at hx hl HV
      have hat' : (at_ : Int) < (S.ps.length : Int) := by omega
      go_wp2_with (first
        | refine wpList_load_pl (by rfl) 77 _ (by rfl) _ 77 256 g1 _ _ at_ _ _ _ P1' hx (by rfl) Try.underlying77 rfl (by rw [cellsL_length, hl]; exact i77) ?_
        | (refine wpList_store_new (by rfl) 77 _ _ (by rfl) w.heap.size (cellsL d).toArray (by rfl) (by rfl) 77 _ R1 (by rw [cellsL_size, hl]; exact i77) (by rw [cellsL_size, cellsL_size, hl, zeros_length]) (cellsL_all _) ?_; intro W2 R2 B2))
      exact bodyPost_ret (results_cell_row rfl _ _ w.heap.size 77 (cellsL d).toArray (0, 0) _ rfl R2 Try.underlying77 rfl (by rw [cellsL_size, hl]; exact i77)) rfl ⟨by rw [HV.out], B2.new N1 (Nat.le_refl _)⟩
    | succ j =>
      rw [show ((j + 1 : Nat) : Int) - 1 = (j : Int) by omega]
      have hlt : j < S.ws.length := by omega
      obtain ⟨g2, c2', e2, _, hg2, _⟩ := P2'.full (by rw [List.length_map]; omega)
      rw [List.length_map] at e2
      cases e2
      have hx := map_getD waitL S.ws j (0, []) hlt
      obtain ⟨hx1, hx2⟩ := hok.at hlt
      have HV : Hid ((S.ws.getD j (0, [])).1 = at_ → (latest S.ps S.ws).getD at_ [] = (S.ws.getD j (0, [])).2) := fun he => latest_found hlt hat he HN.out
      have HM : Hid ((S.ws.getD j (0, [])).1 ≠ at_ → ∀ i, j ≤ i → i < S.ws.length → (S.ws.getD i (0, [])).1 ≠ at_) := fun he i h1 h2 => by
        by_cases e : i = j
        · rw [e]; exact he
        · exact HN.out i (by omega) h2
      obtain ⟨hlt0, hxe⟩ := List.getElem?_eq_some_iff.1 hx
      have hrg := P2'.range hlt0
      rw [hxe] at hrg
      clear hxe hx hlt0
      generalize S.ws.getD j (0, []) = x at hx1 hx2 HV HM hrg
      obtain ⟨xa, d⟩ := x
      have hc0 := wait_cell hrg
      have hrd := wait_data hrg
      simp only at hx1 hx2 hc0 hrd
      have hlt' : (j : Int) < (S.ws.length : Int) := by omega
      clear hrg
      by_cases he : xa = at_
      · have HW : Hid ((latest S.ps S.ws).getD at_ [] = d) := HV.out he
        clear HV HM
        subst he
        go_wp2_with (first
          | refine wpList_load_mid (by rfl) 77 _ (by rfl) g2 (j * 257 + 1) (by rfl) (cellsL d) _ hrd Try.underlying77 rfl (by rw [cellsL_length, hx2]; exact i77) ?_
          | (refine wpList_store_new (by rfl) 77 _ _ (by rfl) w.heap.size (cellsL d).toArray (by rfl) (by rfl) 77 _ R1 (by rw [cellsL_size, hx2]; exact i77) (by rw [cellsL_size, cellsL_size, hx2, zeros_length]) (cellsL_all _) ?_; intro W2 R2 B2))
        exact bodyPost_ret (results_cell_row rfl _ _ w.heap.size 77 (cellsL d).toArray (0, 0) _ rfl R2 Try.underlying77 rfl (by rw [cellsL_size, hx2]; exact i77)) rfl ⟨by rw [HW.out], B2.new N1 (Nat.le_refl _)⟩
      · have he' : ¬ (xa : Int) = (at_ : Int) := by omega
        clear HV hrd
        have HE : Hid (xa ≠ at_) := he
        clear he
        go_wp2_with fail
        exact ⟨⟨j, by omega, rfl, HM.out HE.out, R1, N1⟩, by simp [intOf]⟩

theorem filter_next {ws : List (Nat × List UInt8)} {q : Nat × List UInt8 → Bool} {k : Nat} (h : k < ws.length) :
    (ws.take (k + 1)).filter q = (ws.take k).filter q ++ (if q (ws.getD k (0, [])) then [ws.getD k (0, [])] else []) := by
  rw [List.take_add_one, List.getElem?_eq_getElem h, List.filter_append, List.getD_eq_getElem?_getD, List.getElem?_eq_getElem h]
  simp [List.filter_cons]
theorem info80_size : (Value.agg (waitL (0, zeros)).toArray).cells.size = 257 := by show (waitL (0, zeros)).toArray.size = 257; rw [List.size_toArray, waitL_length (x := (0, zeros)) zeros_length]

set_option maxRecDepth 20000 in
set_option maxHeartbeats 1000000 in
theorem below_any {w : World} {F : Nat → Prop} {a2 : Option Addr} {c2 : Nat} {ws : List (Nat × List UInt8)} (H : Pl w F 80 257 (.slice a2 ws.length c2) (ws.map waitL)) (hd : ∀ x ∈ ws, x.2.length = 256) (hfew : ws.length ≤ 1000) (n : Nat) :
    Calls Try.prog 46 #[.slice a2 ws.length c2, .int .i64 (n : Int)] w fun e w' => ∃ v, e = .returned v ∧ Pl w' (Fresh w) 80 257 v ((ws.filter fun x => decide (x.1 < n)).map waitL) ∧ New w w' := by
  have HP : Hid (Pl w F 80 257 (.slice a2 ws.length c2) (ws.map waitL)) := H
  have HD : Hid (∀ x ∈ ws, x.2.length = 256) := hd
  clear H hd
  go_enter Try.func46, Try.ntmps46
  go_wp2_with fail
  go_loopw [5, 10] (fun v i wr => ∃ k : Nat, k ≤ ws.length ∧ i = .int .i64 (k : Int) ∧ Pl wr (Fresh w) 80 257 v (((ws.take k).filter fun x => decide (x.1 < n)).map waitL) ∧ New w wr) (fun _ i _ => ws.length - (intOf i).toNat)
  case atStart => exact ⟨0, by omega, rfl, by simpa using Pl.nil w (Fresh w) 80 257, New.refl w⟩
  case round =>
    obtain ⟨k, hk, rfl, Q1, N1⟩ := hrel
    by_cases hlt : k < ws.length
    · have hlt' : (k : Int) < (ws.length : Int) := by omega
      obtain ⟨g2, c2', e2, _, hg2, _⟩ := HP.out.full (by rw [List.length_map]; omega)
      rw [List.length_map] at e2
      cases e2
      have hx := map_getD waitL ws k (0, []) hlt
      have hx2 : (ws.getD k (0, [])).2.length = 256 := by rw [List.getD_eq_getElem?_getD, List.getElem?_eq_getElem hlt]; exact HD.out _ (List.getElem_mem hlt)
      have HL : Hid ((ws.take (k + 1)).filter (fun x => decide (x.1 < n)) = (ws.take k).filter (fun x => decide (x.1 < n)) ++ (if decide ((ws.getD k (0, [])).1 < n) then [ws.getD k (0, [])] else [])) := filter_next hlt
      have hql : ((ws.take k).filter fun x => decide (x.1 < n)).length ≤ 1000 := Nat.le_trans (List.length_filter_le _ _) (by rw [List.length_take]; omega)
      generalize ws.getD k (0, []) = x at hx hx2 HL
      obtain ⟨at_, d⟩ := x
      simp only at hx2
      generalize (ws.take k).filter (fun x => decide (x.1 < n)) = fl at Q1 HL hql
      have P2 := HP.out.after N1
      by_cases hin : at_ < n
      · have hin' : (at_ : Int) < (n : Int) := by omega
        go_wp2_with (first
          | refine wpList_load_pl (by rfl) 80 _ (by rfl) _ 80 257 g2 _ _ k _ _ _ P2 hx (by rfl) Try.underlying80 rfl (by rw [waitL_length hx2]; exact i80) ?_
          | (refine wpList_alloc_new (by rfl) 80 (by rfl) _ _ _ info80 ?_; intro W1 R1 M1)
          | (refine wpList_store_new (by rfl) 80 _ _ (by rfl) wr.heap.size (waitL (at_, d)).toArray (by rfl) (by rfl) 80 _ R1 (by rw [List.size_toArray, waitL_length hx2]; exact i80) (by rw [List.size_toArray, List.size_toArray, waitL_length (x := (at_, d)) hx2, waitL_length (x := (0, zeros)) zeros_length]) (waitL_all _) ?_; intro W2 R2 B2; have hc0 : W2.cell? ⟨wr.heap.size, 0, none⟩ = some (.int .i64 (at_ : Int)) := waitL_at R2; have M2 : New wr W2 := B2.new M1 (Nat.le_refl _); have Q2 := Q1.after M2)
          | (refine wpList_load_row (by rfl) 80 _ (by rfl) wr.heap.size (by rfl) 80 (waitL (at_, d)).toArray (0, 0) _ R2 Try.underlying80 rfl (by rw [List.size_toArray, waitL_length (x := (at_, d)) hx2]; exact i80) ?_)
          | (refine wpList_build_one (by rfl) 70 _ (by rfl) Try.underlying70 _ _ info80 (waitL (at_, d)).toArray (by rfl) (by rw [List.size_toArray, waitL_length (x := (at_, d)) hx2]) (by decide) (by decide) ?_; intro W3 R3 M3; have Q3 := Q2.after M3)
          | (refine wpList_append_pl Q3 (by rfl) _ _ 70 (by rfl) Try.underlying70 _ _ info80 info80_size (by decide) W2.heap.size (waitL (at_, d)) 80 R3 (waitL_length (x := (at_, d)) hx2) (waitL_one _) (by rw [List.length_map]; omega) (by decide) (by rfl) (by rfl) ?_; intro g3 cap3 W4 Q4 G4))
        have N3 := (N1.trans M2).trans M3
        have Q5 := Q4.mono (G := Fresh w) (fun b hb _ => hb.elim id (fun h => Nat.le_trans N3.size h))
        rw [List.length_map] at Q5
        refine ⟨⟨k + 1, by omega, by go_num, ?_, N3.grown G4 (fun b hb => Q3.foot b hb)⟩, by simp [intOf]; omega⟩
        rw [HL.out, if_pos (by simpa using hin), List.map_append]
        exact Q5
      · have hin' : ¬ (at_ : Int) < (n : Int) := by omega
        have HL' : Hid ((ws.take (k + 1)).filter (fun x => decide (x.1 < n)) = fl) := by
          have := HL.out
          rw [if_neg (by simpa using hin), List.append_nil] at this
          exact this
        clear HL hin
        go_wp2_with (first
          | refine wpList_load_pl (by rfl) 80 _ (by rfl) _ 80 257 g2 _ _ k _ _ _ P2 hx (by rfl) Try.underlying80 rfl (by rw [waitL_length hx2]; exact i80) ?_
          | (refine wpList_alloc_new (by rfl) 80 (by rfl) _ _ _ info80 ?_; intro W1 R1 M1)
          | (refine wpList_store_new (by rfl) 80 _ _ (by rfl) wr.heap.size (waitL (at_, d)).toArray (by rfl) (by rfl) 80 _ R1 (by rw [List.size_toArray, waitL_length hx2]; exact i80) (by rw [List.size_toArray, List.size_toArray, waitL_length (x := (at_, d)) hx2, waitL_length (x := (0, zeros)) zeros_length]) (waitL_all _) ?_; intro W2 R2 B2; have hc0 : W2.cell? ⟨wr.heap.size, 0, none⟩ = some (.int .i64 (at_ : Int)) := waitL_at R2; have M2 : New wr W2 := B2.new M1 (Nat.le_refl _); have Q2 := Q1.after M2))
        refine ⟨⟨k + 1, by omega, by go_num, ?_, N1.trans M2⟩, by simp [intOf]; omega⟩
        rw [HL'.out]
        exact Q2
    · obtain rfl : k = ws.length := by omega
      rw [List.take_length] at Q1
      go_wp2_with fail
      go_ret
      exact ⟨_, rfl, Q1, N1⟩

end Go.Proofs.Ytamaijolggdakaa
