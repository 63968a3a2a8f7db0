/-
  What a page's own functions tell: of a text, its text, torn. What torn tells: the sectors of the next page where the bits are set. What a disk's small calls tell: ready, has, act, Length, Limit, Fuse.
-/
import Derived.Test.YtkcoclpbkealgaaDoorGae
import Derived.Deep.RegionHeld3
import Derived.Deep.Cut
import Derived.Laws.BitsLemmas
namespace Go.Proofs.YtkcoclpbkealgaaDoor
open Go.RowKit
set_option maxRecDepth 20000

theorem cellsL_size (l : List UInt8) : (cellsL l).toArray.size = l.length := by rw [List.size_toArray, cellsL_length]
theorem cellsL_all (l : List UInt8) : (cellsL l).toArray.all (·.oneCell') = true := all_oneCell_toArray (cellsL_one l)
theorem Row.setRow {w : World} {g : Nat} {cs : Array Value} {t : TypeId} (h : Row w g cs t) (cs' : Array Value) : Row (w.setRow g cs') g cs' t := setRow_heap w g cs cs' t _ h
theorem Row.setRowOther {w : World} {g : Nat} {cs : Array Value} {t : TypeId} (h : Row w g cs t) {k : Nat} (hk : g ≠ k) (cs' : Array Value) : Row (w.setRow k cs') g cs t := (setRow_other w k g cs' hk).trans h
theorem New.setRow {w w' : World} (h : New w w') {g : Nat} (hg : w.heap.size ≤ g) (cs : Array Value) : New w (w'.setRow g cs) :=
  ⟨h.os, h.tape, h.output, by have := h.size; simpa [World.setRow] using this, fun k hk => (setRow_other w' g k cs (by omega)).trans (h.block k hk)⟩
theorem sec_cells (l : List UInt8) (k : Nat) : ((cellsL l).drop (k * 64)).take 64 = cellsL (sec l k) := by unfold cellsL sec; rw [List.map_take, List.map_drop, Nat.mul_comm]

set_option maxHeartbeats 1000000 in
theorem pageOf_any (s : ByteArray) (hs : s.size = 256) (w : World) :
    Calls Tryd.prog 38 #[.string s] w fun e w' => e = .returned (.agg (cellsL (L s)).toArray) ∧ New w w' := by
  have hL : (L s).length = 256 := by rw [L_size]; exact hs
  go_enter Tryd.func38, Tryd.ntmps38
  go_wp2_with (refine wpList_alloc_zero (by rfl) 85 (by rfl) _ _ _ info77 ?_)
  go_loopw [5] (fun i wr => ∃ k : Nat, k ≤ 4 ∧ i = .int .i64 (k : Int) ∧ Row wr w.heap.size (cellsL zeros).toArray 85 ∧ Row wr (w.heap.size + 1) (cellsL (fillN (L s) k)).toArray 85 ∧ New w wr) (fun i _ => 4 - (intOf i).toNat)
  case atStart =>
    refine ⟨0, by omega, rfl, (Row.new _ _ _).alloc _, ?_, ((New.refl w).alloc _).alloc _⟩
    have := Row.new (w.alloc (.cells (cellsL zeros).toArray 85)) (cellsL zeros).toArray 85
    rw [fillN_zero]
    simpa using this
  case round =>
    obtain ⟨k, hk, rfl, R0, R1, hN⟩ := hrel
    by_cases hlt : k < 4
    · have hlt' : (k : Int) < 4 := by omega
      obtain ⟨q, hq⟩ : ∃ q, 64 * k = q := ⟨_, rfl⟩
      have hq1 : q + 64 ≤ s.size := by omega
      have hq2 : (k : Int) * 64 = (q : Int) := by omega
      have hx1 : decide ((s.size : Int) < (q : Int)) = false := decide_eq_false (by omega)
      have HR : Hid (Row wr (w.heap.size + 1) (cellsL (fillN (L s) k)).toArray 85) := R1
      have h64 : 64 ≤ (s.extract q 256).size := by rw [← L_size, L_extract, List.length_drop, List.length_take]; omega
      clear R1
      go_wp2_with fail
      have hne := NewW.ne wr
      refine region_ord [0, 1, 2, 3, 4, 5, 6] [7] wr (New.refl wr) (by kernel_rfl) (by kernel_rfl) ?_
      simp only [pick, List.getElem?_cons_succ, List.getElem?_cons_zero, Option.toList_some, List.cons_append, List.nil_append]
      repeat (go_big_quiet_step (fail))
      refine wpQuiet_nil ?_
      rintro w2 ⟨⟨_, hk2⟩, rfl⟩
      have R2 := HR.out.after hk2
      have ht2 := R2.there (k * 64) 64 (by rw [cellsL_size, fillN_length hL hk]; omega)
      refine wpList_copy_mid (by rfl) _ _ (by rfl) (w.heap.size + 1) (k * 64) (s.extract q 256) (by rfl) (by rfl) ht2 h64 ?_
      have h2 : (L (s.extract q 256)).take 64 = ((L s).drop (64 * k)).take 64 := by rw [L_extract, List.take_of_length_le (l := L s) (by omega), hq]
      have R3 := Row.setCells (cellsL ((L (s.extract q 256)).take 64)) (k * 64) w2 _ R2 (by rw [cellsL_length, List.length_take, cellsL_size, fillN_length hL hk]; omega)
      rw [h2, cellsL_put, Nat.mul_comm k 64, fillN_next hL hlt] at R3
      rw [h2, Nat.mul_comm k 64]
      have hN3 := (hN.trans hk2).setCells (b := w.heap.size + 1) (by omega) (64 * k) (cellsL (((L s).drop (64 * k)).take 64))
      have R03 : Row (w2.setCells (w.heap.size + 1) (64 * k) (cellsL (((L s).drop (64 * k)).take 64))) w.heap.size (cellsL zeros).toArray 85 := (R0.after hk2).of (setCells_other _ _ _ _ _ (by omega))
      generalize w2.setCells (w.heap.size + 1) (64 * k) (cellsL (((L s).drop (64 * k)).take 64)) = W at R3 hN3 R03 ⊢
      clear R2 ht2 h2 HR
      go_wp2_with fail
      exact ⟨⟨k + 1, by omega, by go_num, R03, R3, hN3⟩, by simp [intOf]; omega⟩
    · obtain rfl : k = 4 := by omega
      rw [fillN_all hL] at R1
      have HR : Hid (Row wr (w.heap.size + 1) (cellsL (L s)).toArray 85) := R1
      clear R1
      go_wp2_with (first
        | refine wpList_load_row (by rfl) 85 _ (by rfl) (w.heap.size + 1) (by rfl) 85 (cellsL (L s)).toArray (0, 0) _ HR.out Tryd.underlying85 rfl (by rw [cellsL_size, hL]; exact i77) ?_
        | refine wpList_store_row (by rfl) 85 _ _ (by rfl) w.heap.size (cellsL (L s)).toArray (by rfl) (by rfl) 85 (cellsL zeros).toArray R0 (by rw [cellsL_size, hL]; exact i77) (by rw [cellsL_size, cellsL_size, hL, zeros_length]) (cellsL_all _) ?_)
      exact bodyPost_ret (results_cell_row rfl _ _ w.heap.size 85 (cellsL (L s)).toArray (0, 0) _ rfl (R0.setRow _) Tryd.underlying85 rfl (by rw [cellsL_size, hL]; exact i77)) rfl ⟨rfl, hN.setRow (by omega) _⟩

theorem cellsL_get {l : List UInt8} {j : Nat} {c : UInt8} (h : l[j]? = some c) : (cellsL l)[j]? = some (.int .u8 (c.toNat : Int)) := by
  unfold cellsL; rw [List.getElem?_map, h]; rfl
theorem conv_own {w : World} {B : Nat} {v : Value} {l : List UInt8} {n : Nat} (hn : l.length = n) (h : w.ownsRow B 5 1 v n (cellsL l)) :
    (convert 22 9 v).run Tryd.prog w = .ok (.string (bs l)) w := by
  subst hn
  rcases id h.2 with ⟨rfl, h0⟩ | ⟨g, cap, cur, rfl, _⟩
  · obtain rfl : l = [] := List.length_eq_zero_iff.1 h0
    rw [run_convert_bytes_string w 22 9 5 none 0 0 Tryd.underlying22 Tryd.underlying5 Tryd.underlying9]
    rfl
  · exact run_convert_bytes_back w 22 9 5 ⟨g, 0, none⟩ cap l Tryd.underlying22 Tryd.underlying5 Tryd.underlying9 (fun j hj => by
      refine h.cells (g := g) rfl j _ ?_
      exact cellsL_get (List.getElem?_eq_getElem hj))

set_option maxHeartbeats 1000000 in
theorem text_any (l : List UInt8) (hl : l.length = 256) (w : World) :
    Calls Tryd.prog 57 #[.agg (cellsL l).toArray] w fun e w' => e = .returned (.string (bs l)) ∧ New w w' := by
  obtain ⟨i0, hi0, hz0, hz1, hz2⟩ := info_parts info5
  obtain ⟨w1, hmk, r1, r2⟩ := run_make_own (P := Tryd.prog) (w.alloc (.cells (cellsL l).toArray 85)) w.heap.size 22 5 i0 _ 1 Tryd.underlying22 hi0 hz0 hz1 .i64 .i64 256 (by rw [hz2]; omega) (by unfold maxLen; omega) (by simp)
  have hN1 : New w w1 := ((New.refl w).alloc _).grown r2 (fun _ h => by cases h)
  have R1 : Row w1 w.heap.size (cellsL l).toArray 85 := (Row.new w _ _).of (r2.block _ (by simp) (by simp))
  clear r2
  have hmk' : Sem.run Tryd.prog (Instr.makeSlice 22 (.int .i64 0) (.int .i64 256)) (w.alloc (.cells (cellsL l).toArray 85)) = .ok _ w1 := hmk
  clear hmk
  generalize hcs : (cellsL l).toArray = cs at *
  have hbox : (w.alloc (.cells (Value.agg cs).cells 85)) = w.alloc (.cells cs 85) := rfl
  go_enter Tryd.func57, Tryd.ntmps57
  go_wp2_with fail
  clear hmk'
  have r1' : w1.ownsRow w.heap.size 5 1 (.slice (some ⟨w.heap.size + 1, 0, none⟩) 0 256) 0 [] := by simpa using r1
  clear r1
  go_loopw [3, 6] (fun v i wr => ∃ k : Nat, k ≤ 4 ∧ i = .int .i64 (k : Int) ∧ wr.ownsRow w.heap.size 5 1 v (64 * k) (cellsL (l.take (64 * k))) ∧ Row wr w.heap.size cs 85 ∧ v.ownBlock ≠ some w.heap.size ∧ New w wr) (fun _ i _ => 4 - (intOf i).toNat)
  case atStart => exact ⟨0, by omega, rfl, r1', R1, by simp [Value.ownBlock], hN1⟩
  case round =>
    clear r1' R1 hN1
    obtain ⟨k, hk, rfl, hown, R, hnb, hN⟩ := hrel
    have hB := hN.size
    by_cases hlt : k < 4
    · have hlt' : (k : Int) < 4 := by omega
      have hnews : ∀ j u, (cellsL (sec l k))[j]? = some u → wr.cell? ((⟨w.heap.size, k * 64, none⟩ : Addr).add j) = some u := fun j u hu => by
        rw [Addr.add_mid]
        have := R.range (k * 64) 64
        rw [← hcs, List.toList_toArray, sec_cells] at this
        exact this j u hu
      have hnl : (cellsL (sec l k)).length = 64 * 1 := by rw [cellsL_length, sec_length hl hlt]
      have HR : Hid (Row wr w.heap.size cs 85) := R
      have HJ : Hid (cellsL (l.take (64 * k)) ++ cellsL (sec l k) = cellsL (l.take (64 * (k + 1)))) := by
        show _ = _
        rw [← cellsL_append]
        unfold sec
        rw [show 64 * (k + 1) = 64 * k + 64 by omega, List.take_add]
      clear R hcs
      go_wp2_with (refine wpList_append_lies _ (by rfl) _ _ _ (by rfl) w.heap.size 5 i0 _ 1 1 Tryd.underlying22 hi0 hz0 hz1 hz2 rfl (by decide) u3 (64 * k) (cellsL (l.take (64 * k))) (by rfl) hown ⟨w.heap.size, k * 64, none⟩ 64 64 (cellsL (sec l k)) (by rfl) hnl hnews (cellsL_one _) (by decide) (by unfold maxLen; omega) (by omega) hB _ rfl ?_; intro gg cap w2 hown2 hgrow hat hlt2)
      have hgg : gg ≠ w.heap.size := by
        rcases hat with h | h
        · exact fun e => hnb (e ▸ h)
        · have := HR.out.lt; omega
      have hN2 : New w w2 := hN.grown hgrow fun b hb => (hown.lt b hb).1
      have R2 : Row w2 w.heap.size cs 85 := HR.out.of (hgrow.block _ HR.out.lt (fun e => hnb e.symm))
      rw [HJ.out] at hown2
      exact ⟨⟨k + 1, by omega, by go_num, by simpa [Nat.mul_add] using hown2, R2, by simpa [Value.ownBlock] using hgg, hN2⟩, by simp [intOf]; omega⟩
    · obtain rfl : k = 4 := by omega
      have hcv := conv_own (l := l) hl (by rw [List.take_of_length_le (by omega)] at hown; exact hown)
      clear hown
      go_wp2_with fail
      go_ret
      exact ⟨rfl, hN⟩

end Go.Proofs.YtkcoclpbkealgaaDoor
namespace Go.Proofs.YtkcoclpbkealgaaDoor
open Go.RowKit
set_option maxRecDepth 20000

theorem wraps_u8 (n : Int) (h₀ : 0 ≤ n) (h₁ : n < 2 ^ 8) : IntKind.u8.wrap n = n := by rw [IntKind.wrap_u8]; omega
theorem low_bit (n : Nat) (h : n < 256) : bits .and .u8 (n : Int) 1 = ((n % 2 : Nat) : Int) := by
  have h1 := bits_mask .u8 8 (by decide) wraps_u8 1 (by decide) (n : Int) (Int.natCast_nonneg _) (by omega)
  simp at h1
  omega
/-- The test of bit k, as the walk meets it. -/
theorem bit_test (c k : Nat) (hc : c < 256) : bits .and .u8 (((c / 2 ^ k : Nat)) : Int) 1 = if bitOf c k then 1 else 0 := by
  rw [low_bit _ (Nat.lt_of_le_of_lt (Nat.div_le_self _ _) hc)]
  unfold bitOf
  have h2 := Nat.mod_lt (c / 2 ^ k) (by decide : 2 > 0)
  generalize c / 2 ^ k % 2 = m at h2
  have h3 : m = 0 ∨ m = 1 := by omega
  rcases h3 with rfl | rfl <;> rfl

set_option maxHeartbeats 2000000 in
theorem torn_any (a b : List UInt8) (ha : a.length = 256) (hb : b.length = 256) (c : Nat) (hc : c < 256) (w : World) :
    Calls Tryd.prog 53 #[.agg (cellsL a).toArray, .agg (cellsL b).toArray, .int .u8 (c : Int)] w fun e w' => e = .returned (.agg (cellsL (tear a b c)).toArray) ∧ New w w' := by
  have ht0 := bit_test c 0 hc
  have ht1 := bit_test c 1 hc
  have ht2 := bit_test c 2 hc
  have ht3 := bit_test c 3 hc
  rw [show ((c / 2 ^ 0 : Nat) : Int) = (c : Int) by omega] at ht0
  rw [show ((c / 2 ^ 1 : Nat) : Int) = (c : Int) / 2 by omega] at ht1
  rw [show ((c / 2 ^ 2 : Nat) : Int) = (c : Int) / 4 by omega] at ht2
  rw [show ((c / 2 ^ 3 : Nat) : Int) = (c : Int) / 8 by omega] at ht3
  obtain ⟨x, hx⟩ : ∃ x, (cellsL a).toArray = x := ⟨_, rfl⟩
  obtain ⟨y, hy⟩ : ∃ y, (cellsL b).toArray = y := ⟨_, rfl⟩
  rw [hx, hy]
  go_enter Tryd.func53, Tryd.ntmps53
  go_wp2_with (refine wpList_alloc_zero (by rfl) 85 (by rfl) _ _ _ info77 ?_)
  go_loopw [8] (fun i wr => ∃ k : Nat, k ≤ 4 ∧ i = .int .i64 (k : Int) ∧ Row wr w.heap.size (cellsL (tearN a b c k)).toArray 85 ∧ Row wr (w.heap.size + 1) y 85 ∧ Row wr (w.heap.size + 2) (cellsL zeros).toArray 85 ∧ New w wr) (fun i _ => 4 - (intOf i).toNat)
  case atStart =>
    refine ⟨0, by omega, rfl, ?_, ?_, ?_, (((New.refl w).alloc _).alloc _).alloc _⟩
    · show Row _ _ (cellsL a).toArray _
      rw [hx]
      exact ((Row.new w _ _).alloc _).alloc _
    · have := (Row.new (w.alloc (.cells x 85)) y 85).alloc (.cells (cellsL zeros).toArray 85)
      simpa using this
    · have := Row.new ((w.alloc (.cells x 85)).alloc (.cells y 85)) (cellsL zeros).toArray 85
      simpa using this
  case round =>
    obtain ⟨k, hk, rfl, R0, R1, R2, hN⟩ := hrel
    have hT : (tearN a b c k).length = 256 := tearN_length ha hb hk
    by_cases hlt : k < 4
    · have hlt' : (k : Int) < 4 := by omega
      have hrg : wr.rangeAt (w.heap.size + 1) (k * 64) (cellsL (sec b k)) := by
        have := R1.range (k * 64) 64
        rw [← hy, List.toList_toArray, sec_cells] at this
        exact this
      have hth : wr.there w.heap.size (k * 64) (cellsL (sec b k)).toArray.size := R0.there _ _ (by rw [cellsL_size, cellsL_size, sec_length hb hlt, hT]; omega)
      have h75 : (Tryd.prog.info? 83).map (·.size) = some (cellsL (sec b k)).length := by rw [cellsL_length, sec_length hb hlt]; exact i75
      have HW : Hid (∃ W, W = wr.setCells w.heap.size (k * 64) (cellsL (sec b k)).toArray.toList ∧ Row W w.heap.size (cellsL (put (tearN a b c k) (64 * k) (sec b k))).toArray 85 ∧ Row W (w.heap.size + 1) y 85 ∧ Row W (w.heap.size + 2) (cellsL zeros).toArray 85 ∧ New w W) := by
        refine ⟨_, rfl, ?_, R1.of (setCells_other _ _ _ _ _ (by omega)), R2.of (setCells_other _ _ _ _ _ (by omega)), hN.setCells (by omega) _ _⟩
        have := Row.setCells (cellsL (sec b k)) (k * 64) wr _ R0 (by rw [cellsL_length, cellsL_size, sec_length hb hlt, hT]; omega)
        rw [List.toList_toArray, cellsL_put, Nat.mul_comm k 64] at this
        rw [List.toList_toArray, Nat.mul_comm k 64]
        exact this
      have HS : Hid (tearN a b c (k + 1) = if bitOf c k then put (tearN a b c k) (64 * k) (sec b k) else tearN a b c k) := rfl
      have HR : Hid (Row wr w.heap.size (cellsL (tearN a b c k)).toArray 85 ∧ Row wr (w.heap.size + 1) y 85 ∧ Row wr (w.heap.size + 2) (cellsL zeros).toArray 85) := ⟨R0, R1, R2⟩
      generalize put (tearN a b c k) (64 * k) (sec b k) = tn at HW HS
      generalize tearN a b c k = t0 at HS HR
      have HO : Hid (∀ v ∈ cellsL (sec b k), v.oneCell' = true) := cellsL_one _
      generalize (cellsL (sec b k)) = cs at *
      clear R0 R1 R2 hT hx hy
      have hone : cs.toArray.all (·.oneCell') = true := all_oneCell_toArray HO.out
      have h75' : (Tryd.prog.info? 83).map (·.size) = some cs.toArray.size := h75
      clear HO
      by_cases hbit : bitOf c k = true
      · have hk4 : k = 0 ∨ k = 1 ∨ k = 2 ∨ k = 3 := by omega
        obtain ⟨W, hW, S0, S1, S2, hN2⟩ := HW.out
        have HS' : Hid (tearN a b c (k + 1) = tn) := by have := HS.out; rw [if_pos hbit] at this; exact this
        clear HS HR
        rcases hk4 with rfl | rfl | rfl | rfl
        all_goals
          simp only [Nat.zero_mul, Nat.reduceMul] at hW
          subst hW
          go_wp2_with (first
            | refine wpList_load_mid (by rfl) 83 _ (by rfl) (w.heap.size + 1) _ (by rfl) cs _ hrg Tryd.underlying83 rfl h75 ?_
            | refine wpList_store_mid (by rfl) 83 _ _ (by rfl) w.heap.size _ cs.toArray (by rfl) (by rfl) hth h75' hone ?_)
        · exact ⟨⟨1, by omega, rfl, by rw [HS'.out]; exact S0, S1, S2, hN2⟩, by simp [intOf]⟩
        · exact ⟨⟨2, by omega, rfl, by rw [HS'.out]; exact S0, S1, S2, hN2⟩, by simp [intOf]⟩
        · exact ⟨⟨3, by omega, rfl, by rw [HS'.out]; exact S0, S1, S2, hN2⟩, by simp [intOf]⟩
        · exact ⟨⟨4, by omega, rfl, by rw [HS'.out]; exact S0, S1, S2, hN2⟩, by simp [intOf]⟩
      · have hk4 : k = 0 ∨ k = 1 ∨ k = 2 ∨ k = 3 := by omega
        obtain ⟨S0, S1, S2⟩ := HR.out
        have HS' : Hid (tearN a b c (k + 1) = t0) := by have := HS.out; rw [if_neg hbit] at this; exact this
        clear HS HR HW hrg hth hone h75 h75'
        simp only [Bool.not_eq_true] at hbit
        have HH : Hid (Row wr w.heap.size (cellsL t0).toArray 85 ∧ Row wr (w.heap.size + 1) y 85 ∧ Row wr (w.heap.size + 2) (cellsL zeros).toArray 85) := ⟨S0, S1, S2⟩
        clear S0 S1 S2
        rcases hk4 with rfl | rfl | rfl | rfl
        all_goals
          go_wp2_with fail
        · exact ⟨⟨1, by omega, rfl, by rw [HS'.out]; exact HH.out.1, HH.out.2.1, HH.out.2.2, hN⟩, by simp [intOf]⟩
        · exact ⟨⟨2, by omega, rfl, by rw [HS'.out]; exact HH.out.1, HH.out.2.1, HH.out.2.2, hN⟩, by simp [intOf]⟩
        · exact ⟨⟨3, by omega, rfl, by rw [HS'.out]; exact HH.out.1, HH.out.2.1, HH.out.2.2, hN⟩, by simp [intOf]⟩
        · exact ⟨⟨4, by omega, rfl, by rw [HS'.out]; exact HH.out.1, HH.out.2.1, HH.out.2.2, hN⟩, by simp [intOf]⟩
    · obtain rfl : k = 4 := by omega
      have HR : Hid (Row wr w.heap.size (cellsL (tear a b c)).toArray 85) := R0
      have hL : (tear a b c).length = 256 := hT
      clear R0 hT
      clear ht0 ht1 ht2 ht3 R1
      go_wp2_with (first
        | refine wpList_load_row (by rfl) 85 _ (by rfl) w.heap.size (by rfl) 85 (cellsL (tear a b c)).toArray (0, 0) _ HR.out Tryd.underlying85 rfl (by rw [cellsL_size, hL]; exact i77) ?_
        | refine wpList_store_row (by rfl) 85 _ _ (by rfl) (w.heap.size + 2) (cellsL (tear a b c)).toArray (by rfl) (by rfl) 85 (cellsL zeros).toArray R2 (by rw [cellsL_size, hL]; exact i77) (by rw [cellsL_size, cellsL_size, hL, zeros_length]) (cellsL_all _) ?_)
      exact bodyPost_ret (results_cell_row rfl _ _ (w.heap.size + 2) 85 (cellsL (tear a b c)).toArray (0, 0) _ rfl (R2.setRow _) Tryd.underlying85 rfl (by rw [cellsL_size, hL]; exact i77)) rfl ⟨rfl, hN.setRow (by omega) _⟩

end Go.Proofs.YtkcoclpbkealgaaDoor
namespace Go.Proofs.YtkcoclpbkealgaaDoor
open Go.RowKit
set_option maxRecDepth 20000

/-- Its cells. -/
theorem Disk.open {w : World} {F : Nat → Prop} {p : Nat} {S : St} (D : Disk w F p S) : ∃ a1 c1 a2 c2,
    w.cell? ⟨p, 0, none⟩ = some (.int .i64 (S.lim : Int)) ∧ w.cell? ⟨p, 1, none⟩ = some (.slice a1 S.ps.length c1) ∧ w.cell? ⟨p, 2, none⟩ = some (.slice a2 S.ws.length c2) ∧ w.cell? ⟨p, 3, none⟩ = some (.int .i64 S.fuse) ∧ w.cell? ⟨p, 4, none⟩ = some (.bool S.down) ∧
    (∀ i, w.frozen? ⟨p, i, none⟩ = false) ∧ Row w p #[.int .i64 (S.lim : Int), .slice a1 S.ps.length c1, .slice a2 S.ws.length c2, .int .i64 S.fuse, .bool S.down] 81 ∧
    Pl w (fun g => F g ∧ g ≠ p) 85 256 (.slice a1 S.ps.length c1) (S.ps.map cellsL) ∧ Pl w (fun g => F g ∧ g ≠ p ∧ (Value.slice a1 S.ps.length c1).ownBlock ≠ some g) 113 257 (.slice a2 S.ws.length c2) (S.ws.map waitL) := by
  obtain ⟨v1, v2, R, h1, h2⟩ := D.has
  obtain ⟨a1, c1, rfl, _⟩ := h1.form
  obtain ⟨a2, c2, rfl, _⟩ := h2.form
  simp only [List.length_map] at R h1 h2
  refine ⟨a1, c1, a2, c2, ?_, ?_, ?_, ?_, ?_, R.frozen, R, h1, h2⟩ <;> (rw [R.cell]; rfl)

theorem ready_nil (w : World) : Calls Tryd.prog 52 #[.pointer none] w fun e w' => e = .returned (.int .i64 1) ∧ w' = w := by
  go_enter Tryd.func52, Tryd.ntmps52
  go_wp2_with fail
  go_ret
  exact ⟨rfl, rfl⟩
theorem ready_any {w : World} {F : Nat → Prop} {p : Nat} {S : St} (D : Disk w F p S) : Calls Tryd.prog 52 #[.pointer (some ⟨p, 0, none⟩)] w fun e w' => e = .returned (.int .i64 (if S.down then 2 else 0)) ∧ w' = w := by
  obtain ⟨a1, c1, a2, c2, h0, h1, h2, h3, h4, hf, _⟩ := D.open
  clear D
  cases hd : S.down
  all_goals
    rw [hd] at h4
    go_enter Tryd.func52, Tryd.ntmps52
    go_wp2_with fail
    go_ret
    exact ⟨rfl, rfl⟩
theorem has_any {w : World} {F : Nat → Prop} {p : Nat} {S : St} (D : Disk w F p S) (i : Int) : Calls Tryd.prog 60 #[.pointer (some ⟨p, 0, none⟩), .int .i64 i] w fun e w' => e = .returned (.bool (decide (0 ≤ i ∧ i < S.ps.length))) ∧ w' = w := by
  obtain ⟨a1, c1, a2, c2, h0, h1, h2, h3, h4, hf, _⟩ := D.open
  clear D
  by_cases hi : 0 ≤ i
  · go_enter Tryd.func60, Tryd.ntmps60
    go_wp2_with fail
    go_ret
    exact ⟨ret_bool (by simp [hi]), rfl⟩
  · go_enter Tryd.func60, Tryd.ntmps60
    go_wp2_with fail
    go_ret
    exact ⟨ret_bool (by simp; omega), rfl⟩
theorem length_any {w : World} {F : Nat → Prop} {p : Nat} {S : St} (D : Disk w F p S) : Calls Tryd.prog 47 #[.pointer (some ⟨p, 0, none⟩)] w fun e w' => e = .returned (.int .i64 (S.ps.length : Int)) ∧ w' = w := by
  obtain ⟨a1, c1, a2, c2, h0, h1, h2, h3, h4, hf, _⟩ := D.open
  clear D
  go_enter Tryd.func47, Tryd.ntmps47
  go_wp2_with fail
  go_ret
  exact ⟨rfl, rfl⟩
theorem length_nil (w : World) : Calls Tryd.prog 47 #[.pointer none] w fun e w' => e = .returned (.int .i64 0) ∧ w' = w := by
  go_enter Tryd.func47, Tryd.ntmps47
  go_wp2_with fail
  go_ret
  exact ⟨rfl, rfl⟩
theorem act_any {w : World} {F : Nat → Prop} {p : Nat} {S : St} (D : Disk w F p S) : Calls Tryd.prog 80 #[.pointer (some ⟨p, 0, none⟩)] w fun e w' => e = .returned (.int .i64 (if S.fuse = 0 then 2 else 0)) ∧ Disk w' F p (if S.fuse = 0 then S.dead else S.burn) ∧ Step F F w w' := by
  obtain ⟨a1, c1, a2, c2, h0, h1, h2, h3, h4, hf, _⟩ := D.open
  have HD : Hid (Disk w F p S) := D
  have h0' := D.ok.lo
  have h1' := D.ok.hi
  clear D
  by_cases hz : S.fuse = 0
  · rw [hz] at h3
    go_enter Tryd.func80, Tryd.ntmps80
    go_wp2_with fail
    go_ret
    exact ⟨rfl, HD.out.down true, Step.setCell _ HD.out.base _⟩
  · by_cases hp : 0 < S.fuse
    · have hw : IntKind.i64.wrap (S.fuse - 1) = S.fuse - 1 := by rw [IntKind.wrap_i64]; omega
      go_enter Tryd.func80, Tryd.ntmps80
      go_wp2_with fail
      go_ret
      refine ⟨rfl, ?_, Step.setCell _ HD.out.base _⟩
      unfold St.burn
      rw [if_pos hp]
      exact HD.out.fuse _ (by omega) (by omega)
    · go_enter Tryd.func80, Tryd.ntmps80
      go_wp2_with fail
      go_ret
      refine ⟨rfl, ?_, Step.refl _ _⟩
      unfold St.burn
      rw [if_neg (by omega)]
      exact HD.out
theorem fuse_nil (n : Int) (w : World) : Calls Tryd.prog 23 #[.pointer none, .int .i64 n] w fun e w' => e = .returned (.tuple #[]) ∧ w' = w := by
  go_enter Tryd.func23, Tryd.ntmps23
  go_wp2_with fail
  refine (ready_nil _).mono ?_
  rintro _ w1 ⟨rfl, rfl⟩
  go_wp2_with fail
  go_end0
  exact ⟨rfl, rfl⟩
theorem fuse_any {w : World} {F : Nat → Prop} {p : Nat} {S : St} (D : Disk w F p S) (n : Int) (hn1 : -9223372036854775808 ≤ n) (hn2 : n ≤ 9223372036854775807) :
    Calls Tryd.prog 23 #[.pointer (some ⟨p, 0, none⟩), .int .i64 n] w fun e w' => e = .returned (.tuple #[]) ∧ Disk w' F p (S.setFuse n) ∧ Step F F w w' := by
  obtain ⟨a1, c1, a2, c2, h0, h1, h2, h3, h4, hf, _⟩ := D.open
  have HD : Hid (Disk w F p S) := D
  have hr := ready_any D
  clear D
  cases hd : S.down
  all_goals
    rw [hd] at hr
    go_enter Tryd.func23, Tryd.ntmps23
    go_wp2_with fail
    refine hr.mono ?_
    rintro _ w1 ⟨rfl, rfl⟩
    go_wp2_with fail
  · go_end0
    refine ⟨rfl, ?_, Step.setCell _ HD.out.base _⟩
    unfold St.setFuse
    have h := HD.out.fuse n hn1 hn2
    rw [hd] at h ⊢
    exact h
  · go_end0
    refine ⟨rfl, ?_, Step.refl _ _⟩
    unfold St.setFuse
    rw [hd]
    exact HD.out

end Go.Proofs.YtkcoclpbkealgaaDoor
