/-
  What a page's own functions tell: of a text, its text, torn.
-/
import Derived.Test.YtkcoclpbkealgaaDoorMem
import Derived.Deep.RegionHeld3
import Derived.Deep.Cut
import Derived.Laws.BitsLemmas
namespace Go.Proofs.YtkcoclpbkealgaaDoor
open Go.RowKit
set_option maxRecDepth 20000

theorem cellsL_size (l : List UInt8) : (cellsL l).toArray.size = l.length := by rw [List.size_toArray, cellsL_length]
theorem cellsL_all (l : List UInt8) : (cellsL l).toArray.all (·.oneCell') = true := all_oneCell_toArray (cellsL_one l)
theorem Row.setRow {w : World} {g : Nat} {cs : Array Value} {t : TypeId} (h : Row w g cs t) (cs' : Array Value) : Row (w.setRow g cs') g cs' t := setRow_heap w g cs cs' t _ h
theorem Row.setRowOther {w : World} {g : Nat} {cs : Array Value} {t : TypeId} (h : Row w g cs t) {k : Nat} (hk : g ≠ k) (cs' : Array Value) : Row (w.setRow k cs') g cs t := (setRow_other w k g cs' hk).trans h
theorem New.setRow {w w' : World} (h : New w w') {g : Nat} (hg : w.heap.size ≤ g) (cs : Array Value) : New w (w'.setRow g cs) :=
  ⟨h.os, h.tape, h.output, by have := h.size; simpa [World.setRow] using this, fun k hk => (setRow_other w' g k cs (by omega)).trans (h.block k hk)⟩
theorem sec_cells (l : List UInt8) (k : Nat) : ((cellsL l).drop (k * 64)).take 64 = cellsL (sec l k) := by unfold cellsL sec; rw [List.map_take, List.map_drop, Nat.mul_comm]

set_option maxHeartbeats 1000000 in
theorem pageOf_any (s : ByteArray) (hs : s.size = 256) (w : World) :
    Calls Tryd.prog 38 #[.string s] w fun e w' => e = .returned (.agg (cellsL (L s)).toArray) ∧ New w w' := by
  have hL : (L s).length = 256 := by rw [L_size]; exact hs
  go_enter Tryd.func38, Tryd.ntmps38
  go_wp2_with (refine wpList_alloc_zero (by rfl) 85 (by rfl) _ _ _ info77 ?_)
  go_loopw [5] (fun i wr => ∃ k : Nat, k ≤ 4 ∧ i = .int .i64 (k : Int) ∧ Row wr w.heap.size (cellsL zeros).toArray 85 ∧ Row wr (w.heap.size + 1) (cellsL (fillN (L s) k)).toArray 85 ∧ New w wr) (fun i _ => 4 - (intOf i).toNat)
  case atStart =>
    refine ⟨0, by omega, rfl, (Row.new _ _ _).alloc _, ?_, ((New.refl w).alloc _).alloc _⟩
    have := Row.new (w.alloc (.cells (cellsL zeros).toArray 85)) (cellsL zeros).toArray 85
    rw [fillN_zero]
    simpa using this
  case round =>
    obtain ⟨k, hk, rfl, R0, R1, hN⟩ := hrel
    by_cases hlt : k < 4
    · have hlt' : (k : Int) < 4 := by omega
      obtain ⟨q, hq⟩ : ∃ q, 64 * k = q := ⟨_, rfl⟩
      have hq1 : q + 64 ≤ s.size := by omega
      have hq2 : (k : Int) * 64 = (q : Int) := by omega
      have hx1 : decide ((s.size : Int) < (q : Int)) = false := decide_eq_false (by omega)
      have HR : Hid (Row wr (w.heap.size + 1) (cellsL (fillN (L s) k)).toArray 85) := R1
      have h64 : 64 ≤ (s.extract q 256).size := by rw [← L_size, L_extract, List.length_drop, List.length_take]; omega
      clear R1
      go_wp2_with fail
      have hne := NewW.ne wr
      refine region_ord [0, 1, 2, 3, 4, 5, 6] [7] wr (New.refl wr) (by kernel_rfl) (by kernel_rfl) ?_
      simp only [pick, List.getElem?_cons_succ, List.getElem?_cons_zero, Option.toList_some, List.cons_append, List.nil_append]
      repeat (go_big_quiet_step (fail))
      refine wpQuiet_nil ?_
      rintro w2 ⟨⟨_, hk2⟩, rfl⟩
      have R2 := HR.out.after hk2
      have ht2 := R2.there (k * 64) 64 (by rw [cellsL_size, fillN_length hL hk]; omega)
      refine wpList_copy_mid (by rfl) _ _ (by rfl) (w.heap.size + 1) (k * 64) (s.extract q 256) (by rfl) (by rfl) ht2 h64 ?_
      have h2 : (L (s.extract q 256)).take 64 = ((L s).drop (64 * k)).take 64 := by rw [L_extract, List.take_of_length_le (l := L s) (by omega), hq]
      have R3 := Row.setCells (cellsL ((L (s.extract q 256)).take 64)) (k * 64) w2 _ R2 (by rw [cellsL_length, List.length_take, cellsL_size, fillN_length hL hk]; omega)
      rw [h2, cellsL_put, Nat.mul_comm k 64, fillN_next hL hlt] at R3
      rw [h2, Nat.mul_comm k 64]
      have hN3 := (hN.trans hk2).setCells (b := w.heap.size + 1) (by omega) (64 * k) (cellsL (((L s).drop (64 * k)).take 64))
      have R03 : Row (w2.setCells (w.heap.size + 1) (64 * k) (cellsL (((L s).drop (64 * k)).take 64))) w.heap.size (cellsL zeros).toArray 85 := (R0.after hk2).of (setCells_other _ _ _ _ _ (by omega))
      generalize w2.setCells (w.heap.size + 1) (64 * k) (cellsL (((L s).drop (64 * k)).take 64)) = W at R3 hN3 R03 ⊢
      clear R2 ht2 h2 HR
      go_wp2_with fail
      exact ⟨⟨k + 1, by omega, by go_num, R03, R3, hN3⟩, by simp [intOf]; omega⟩
    · obtain rfl : k = 4 := by omega
      rw [fillN_all hL] at R1
      have HR : Hid (Row wr (w.heap.size + 1) (cellsL (L s)).toArray 85) := R1
      clear R1
      go_wp2_with (first
        | refine wpList_load_row (by rfl) 85 _ (by rfl) (w.heap.size + 1) (by rfl) 85 (cellsL (L s)).toArray (0, 0) _ HR.out Tryd.underlying85 rfl (by rw [cellsL_size, hL]; exact i77) ?_
        | refine wpList_store_row (by rfl) 85 _ _ (by rfl) w.heap.size (cellsL (L s)).toArray (by rfl) (by rfl) 85 (cellsL zeros).toArray R0 (by rw [cellsL_size, hL]; exact i77) (by rw [cellsL_size, cellsL_size, hL, zeros_length]) (cellsL_all _) ?_)
      exact bodyPost_ret (results_cell_row rfl _ _ w.heap.size 85 (cellsL (L s)).toArray (0, 0) _ rfl (R0.setRow _) Tryd.underlying85 rfl (by rw [cellsL_size, hL]; exact i77)) rfl ⟨rfl, hN.setRow (by omega) _⟩

theorem cellsL_get {l : List UInt8} {j : Nat} {c : UInt8} (h : l[j]? = some c) : (cellsL l)[j]? = some (.int .u8 (c.toNat : Int)) := by
  unfold cellsL; rw [List.getElem?_map, h]; rfl
theorem conv_own {w : World} {B : Nat} {v : Value} {l : List UInt8} {n : Nat} (hn : l.length = n) (h : w.ownsRow B 5 1 v n (cellsL l)) :
    (convert 22 9 v).run Tryd.prog w = .ok (.string (bs l)) w := by
  subst hn
  rcases id h.2 with ⟨rfl, h0⟩ | ⟨g, cap, cur, rfl, _⟩
  · obtain rfl : l = [] := List.length_eq_zero_iff.1 h0
    rw [run_convert_bytes_string w 22 9 5 none 0 0 Tryd.underlying22 Tryd.underlying5 Tryd.underlying9]
    rfl
  · exact run_convert_bytes_back w 22 9 5 ⟨g, 0, none⟩ cap l Tryd.underlying22 Tryd.underlying5 Tryd.underlying9 (fun j hj => by
      refine h.cells (g := g) rfl j _ ?_
      exact cellsL_get (List.getElem?_eq_getElem hj))

set_option maxHeartbeats 1000000 in
theorem text_any (l : List UInt8) (hl : l.length = 256) (w : World) :
    Calls Tryd.prog 57 #[.agg (cellsL l).toArray] w fun e w' => e = .returned (.string (bs l)) ∧ New w w' := by
  obtain ⟨i0, hi0, hz0, hz1, hz2⟩ := info_parts info5
  obtain ⟨w1, hmk, r1, r2⟩ := run_make_own (P := Tryd.prog) (w.alloc (.cells (cellsL l).toArray 85)) w.heap.size 22 5 i0 _ 1 Tryd.underlying22 hi0 hz0 hz1 .i64 .i64 256 (by rw [hz2]; omega) (by unfold maxLen; omega) (by simp)
  have hN1 : New w w1 := ((New.refl w).alloc _).grown r2 (fun _ h => by cases h)
  have R1 : Row w1 w.heap.size (cellsL l).toArray 85 := (Row.new w _ _).of (r2.block _ (by simp) (by simp))
  clear r2
  have hmk' : Sem.run Tryd.prog (Instr.makeSlice 22 (.int .i64 0) (.int .i64 256)) (w.alloc (.cells (cellsL l).toArray 85)) = .ok _ w1 := hmk
  clear hmk
  generalize hcs : (cellsL l).toArray = cs at *
  have hbox : (w.alloc (.cells (Value.agg cs).cells 85)) = w.alloc (.cells cs 85) := rfl
  go_enter Tryd.func57, Tryd.ntmps57
  go_wp2_with fail
  clear hmk'
  have r1' : w1.ownsRow w.heap.size 5 1 (.slice (some ⟨w.heap.size + 1, 0, none⟩) 0 256) 0 [] := by simpa using r1
  clear r1
  go_loopw [3, 6] (fun v i wr => ∃ k : Nat, k ≤ 4 ∧ i = .int .i64 (k : Int) ∧ wr.ownsRow w.heap.size 5 1 v (64 * k) (cellsL (l.take (64 * k))) ∧ Row wr w.heap.size cs 85 ∧ v.ownBlock ≠ some w.heap.size ∧ New w wr) (fun _ i _ => 4 - (intOf i).toNat)
  case atStart => exact ⟨0, by omega, rfl, r1', R1, by simp [Value.ownBlock], hN1⟩
  case round =>
    clear r1' R1 hN1
    obtain ⟨k, hk, rfl, hown, R, hnb, hN⟩ := hrel
    have hB := hN.size
    by_cases hlt : k < 4
    · have hlt' : (k : Int) < 4 := by omega
      have hnews : ∀ j u, (cellsL (sec l k))[j]? = some u → wr.cell? ((⟨w.heap.size, k * 64, none⟩ : Addr).add j) = some u := fun j u hu => by
        rw [Addr.add_mid]
        have := R.range (k * 64) 64
        rw [← hcs, List.toList_toArray, sec_cells] at this
        exact this j u hu
      have hnl : (cellsL (sec l k)).length = 64 * 1 := by rw [cellsL_length, sec_length hl hlt]
      have HR : Hid (Row wr w.heap.size cs 85) := R
      have HJ : Hid (cellsL (l.take (64 * k)) ++ cellsL (sec l k) = cellsL (l.take (64 * (k + 1)))) := by
        show _ = _
        rw [← cellsL_append]
        unfold sec
        rw [show 64 * (k + 1) = 64 * k + 64 by omega, List.take_add]
      clear R hcs
      go_wp2_with (refine wpList_append_lies _ (by rfl) _ _ _ (by rfl) w.heap.size 5 i0 _ 1 1 Tryd.underlying22 hi0 hz0 hz1 hz2 rfl (by decide) u3 (64 * k) (cellsL (l.take (64 * k))) (by rfl) hown ⟨w.heap.size, k * 64, none⟩ 64 64 (cellsL (sec l k)) (by rfl) hnl hnews (cellsL_one _) (by decide) (by unfold maxLen; omega) (by omega) hB _ rfl ?_; intro gg cap w2 hown2 hgrow hat hlt2)
      have hgg : gg ≠ w.heap.size := by
        rcases hat with h | h
        · exact fun e => hnb (e ▸ h)
        · have := HR.out.lt; omega
      have hN2 : New w w2 := hN.grown hgrow fun b hb => (hown.lt b hb).1
      have R2 : Row w2 w.heap.size cs 85 := HR.out.of (hgrow.block _ HR.out.lt (fun e => hnb e.symm))
      rw [HJ.out] at hown2
      exact ⟨⟨k + 1, by omega, by go_num, by simpa [Nat.mul_add] using hown2, R2, by simpa [Value.ownBlock] using hgg, hN2⟩, by simp [intOf]; omega⟩
    · obtain rfl : k = 4 := by omega
      have hcv := conv_own (l := l) hl (by rw [List.take_of_length_le (by omega)] at hown; exact hown)
      clear hown
      go_wp2_with fail
      go_ret
      exact ⟨rfl, hN⟩

end Go.Proofs.YtkcoclpbkealgaaDoor
