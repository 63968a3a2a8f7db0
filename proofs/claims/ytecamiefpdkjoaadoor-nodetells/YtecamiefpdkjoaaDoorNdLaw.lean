/-
  The statements' own helpers: whether two Items are alike, whether one is too large, a hash of one byte.
-/
import Derived.Test.YtecamiefpdkjoaaDoorNdDec
namespace Go.Proofs.YtecamiefpdkjoaaDoor
open Go.RowKit
set_option maxRecDepth 20000
set_option linter.unusedVariables false

def hash1 (v : UInt8) : List UInt8 := List.replicate 32 v
set_option maxHeartbeats 1000000 in
theorem hash1_any (v : UInt8) (w : World) : Calls Tryd.prog 19 #[.int .u8 (v.toNat : Int)] w fun e w' => e = .returned (.string (bs (hash1 v))) ∧ New w w' := by
  obtain ⟨i0, hi0, hz0, hz1, hz2⟩ := info_parts info5
  have hmk := run_make (P := Tryd.prog) w 56 5 i0 _ Tryd.underlying56 hi0 hz0 .i64 .i64 32 32 (by omega) (by omega) (by rw [hz2]; omega) (by omega)
  have hrow : madeCells (Value.int .u8 0).cells ((32 : Int).toNat * i0.size) = (cellsL (List.replicate 32 0)).toArray := by
    rw [hz1]
    apply Array.ext'
    show (madeCells #[Value.int .u8 0] 32).toList = _
    rw [toList_madeCells_one]
    unfold cellsL
    rw [List.map_replicate]; rfl
  rw [hrow] at hmk
  have R0 := Row.new w (cellsL (List.replicate 32 0)).toArray 5
  have N0 : New w (w.alloc (.cells (cellsL (List.replicate 32 0)).toArray 5)) := (New.refl w).alloc _
  generalize w.alloc (.cells (cellsL (List.replicate 32 0)).toArray 5) = W at hmk R0 N0
  have hmk' : Sem.run Tryd.prog (Instr.makeSlice 56 (.int .i64 32) (.int .i64 32)) w = .ok (.slice (some ⟨w.heap.size, 0, none⟩) 32 32) W := hmk
  clear hmk hrow
  go_enter Tryd.func19, Tryd.ntmps19
  go_wp2_with fail
  clear hmk'
  go_loopw [4] (fun i wr => ∃ k : Nat, k ≤ 32 ∧ i = .int .i64 (k : Int) ∧ Row wr w.heap.size (cellsL (List.replicate k v ++ List.replicate (32 - k) 0)).toArray 5 ∧ New w wr) (fun i _ => 32 - (intOf i).toNat)
  case atStart => exact ⟨0, by omega, rfl, by simpa using R0, N0⟩
  case round =>
    clear R0 N0
    obtain ⟨k, hk, rfl, R1, N1⟩ := hrel
    by_cases hlt : k < 32
    · have hlt' : (k : Int) < 32 := by omega
      have hsz : (cellsL (List.replicate k v ++ List.replicate (32 - k) 0)).toArray.size = 32 := by rw [List.size_toArray, cellsL_length, List.length_append, List.length_replicate, List.length_replicate]; omega
      have hc : ∃ u, wr.cell? ⟨w.heap.size, k, none⟩ = some u := ⟨_, by rw [R1.cell, Array.getElem?_eq_getElem (by omega)]⟩
      obtain ⟨u, hu⟩ := hc
      have hf := R1.frozen k
      have R2 := R1.set k (.int .u8 (v.toNat : Int))
      have he : (cellsL (List.replicate k v ++ List.replicate (32 - k) 0)).toArray.setIfInBounds k (.int .u8 (v.toNat : Int)) = (cellsL (List.replicate (k + 1) v ++ List.replicate (32 - (k + 1)) 0)).toArray := by
        rw [List.setIfInBounds_toArray]
        unfold cellsL
        rw [show Value.int .u8 (v.toNat : Int) = (fun (c : UInt8) => Value.int .u8 (c.toNat : Int)) v from rfl, ← List.map_set]
        congr 2
        rw [List.set_append_right _ _ (by simp), List.length_replicate, Nat.sub_self, show 32 - k = (32 - (k + 1)) + 1 by omega, List.replicate_succ, List.set_cons_zero, List.replicate_succ', List.append_assoc]
        rfl
      rw [he] at R2
      have HR : Hid (Row (wr.setCell ⟨w.heap.size, k, none⟩ (.int .u8 (v.toNat : Int))) w.heap.size (cellsL (List.replicate (k + 1) v ++ List.replicate (32 - (k + 1)) 0)).toArray 5) := R2
      clear R1 R2 he hsz
      go_wp2_with fail
      exact ⟨⟨k + 1, by omega, by go_num, HR.out, N1.setCell (Nat.le_refl _) _⟩, by simp [intOf]; omega⟩
    · obtain rfl : k = 32 := by omega
      have hcv : (convert 56 9 (.slice (some ⟨w.heap.size, 0, none⟩) 32 32)).run Tryd.prog wr = .ok (.string (bs (hash1 v))) wr := by
        refine run_convert_bytes_back wr 56 9 5 ⟨w.heap.size, 0, none⟩ 32 (hash1 v) Tryd.underlying56 Tryd.underlying5 Tryd.underlying9 (fun j hj => ?_)
        rw [Addr.add_mid, Nat.zero_add, R1.cell, List.getElem?_toArray, Nat.sub_self, List.replicate_zero, List.append_nil]
        exact cellsL_get (List.getElem?_eq_getElem hj)
      clear R1
      go_wp2_with fail
      go_ret
      exact ⟨rfl, N1⟩

/-- How much there is of texts, up to a limit each. -/
def sumT (hs : List (List UInt8)) : Nat → Nat
  | 0 => 0
  | k + 1 => sumT hs k + (1 + min ((hs.getD k []).length) 3000)
theorem sumT_mono (hs : List (List UInt8)) (k j : Nat) : sumT hs k ≤ sumT hs (k + j) := by
  induction j with
  | zero => exact Nat.le_refl _
  | succ j ih => show sumT hs k ≤ sumT hs (k + j) + _; omega
theorem sumT_le (hs : List (List UInt8)) {k n : Nat} (h : k ≤ n) : sumT hs k ≤ sumT hs n := by
  obtain ⟨j, rfl⟩ : ∃ j, n = k + j := ⟨n - k, by omega⟩
  exact sumT_mono hs k j
theorem sumT_ge (hs : List (List UInt8)) (n : Nat) : n ≤ sumT hs n := by
  induction n with
  | zero => exact Nat.zero_le _
  | succ n ih => show n + 1 ≤ sumT hs n + _; omega
def longH (hs : List (List UInt8)) : Bool := decide (3000 < sumT hs hs.length)
theorem longH_small {hs : List (List UInt8)} (h : longH hs = false) : hs.length ≤ 3000 ∧ ∀ x ∈ hs, x.length ≤ 3000 := by
  have h1 := of_decide_eq_false h
  refine ⟨by have := sumT_ge hs hs.length; omega, fun x hx => ?_⟩
  obtain ⟨j, hj⟩ := List.getElem?_of_mem hx
  have hlt := (List.getElem?_eq_some_iff.1 hj).1
  have h2 := sumT_le hs (show j + 1 ≤ hs.length by omega)
  have h3 : sumT hs (j + 1) = sumT hs j + (1 + min ((hs.getD j []).length) 3000) := rfl
  have h4 : hs.getD j [] = x := by rw [List.getD_eq_getElem?_getD, hj]; rfl
  rw [h4] at h3
  omega
set_option maxHeartbeats 1000000 in
theorem keepLong_any (hs : List (List UInt8)) (a : Option Addr) (c : Nat) (w : World) (hT : Tx w a hs) :
    Calls Tryd.prog 20 #[.slice a hs.length c, .int .i64 3000] w fun e w' => e = .returned (.bool (longH hs)) ∧ w' = w := by
  have HT : Hid (Tx w a hs) := hT
  clear hT
  go_enter Tryd.func20, Tryd.ntmps20
  go_wp2_with fail
  go_loop [5, 6] (fun n i => ∃ k : Nat, k ≤ hs.length ∧ i = .int .i64 (k : Int) ∧ n = .int .i64 ((sumT hs k : Nat) : Int) ∧ sumT hs k ≤ 6001) (fun _ i => hs.length - (intOf i).toNat)
  case atStart => exact ⟨0, by omega, rfl, rfl, by show 0 ≤ 6001; omega⟩
  case round =>
    obtain ⟨k, hk, rfl, rfl, hsum⟩ := hrel
    have hks := sumT_ge hs k
    by_cases hlt : k < hs.length
    · have n1 : decide ((k : Int) < (hs.length : Int)) = true := decide_eq_true (by omega)
      have n1' : decide (k < hs.length) = true := decide_eq_true hlt
      by_cases h3 : sumT hs k ≤ 3000
      · have n2 : decide (((sumT hs k : Nat) : Int) ≤ 3000) = true := decide_eq_true (by omega)
        have n2' : decide (sumT hs k ≤ 3000) = true := decide_eq_true h3
        obtain ⟨x, rfl, hx⟩ := HT.out (by omega)
        have hcell := hx k hs[k] (List.getElem?_eq_getElem hlt)
        have hsz : (bs hs[k]).size = hs[k].length := rfl
        obtain ⟨y, hy⟩ : ∃ y, min hs[k].length 3000 = y := ⟨_, rfl⟩
        have hy3 : y ≤ 3000 := by omega
        have hmin : min ((bs hs[k]).size : Int) 3000 = (y : Int) := by rw [hsz]; omega
        have HN : Hid (sumT hs (k + 1) = sumT hs k + (1 + y)) := by
          show _ = _
          rw [← hy]
          show sumT hs k + (1 + min ((hs.getD k []).length) 3000) = _
          rw [List.getD_eq_getElem?_getD, List.getElem?_eq_getElem hlt]; rfl
        clear hx hy hsz
        generalize sumT hs k = t at *
        generalize bs hs[k] = q at *
        go_wp2_with fail
        go_round
        case rel => exact ⟨k + 1, by omega, by go_num, by rw [HN.out]; go_num, by rw [HN.out]; omega⟩
        case measure => simp [intOf]; omega
      · have n2 : decide (((sumT hs k : Nat) : Int) ≤ 3000) = false := decide_eq_false (by omega)
        have n2' : decide (sumT hs k ≤ 3000) = false := decide_eq_false h3
        have n3 : decide ((3000 : Int) < ((sumT hs k : Nat) : Int)) = true := decide_eq_true (by omega)
        have n3' : decide (3000 < sumT hs k) = true := decide_eq_true (by omega)
        have HL : Hid (longH hs = true) := decide_eq_true (by have := sumT_le hs hk; omega)
        go_wp2_with fail
        go_ret
        exact ⟨ret_bool HL.out.symm, rfl⟩
    · have n1 : decide ((k : Int) < (hs.length : Int)) = false := decide_eq_false (by omega)
      have n1' : decide (k < hs.length) = false := decide_eq_false hlt
      obtain rfl : k = hs.length := by omega
      have HL : Hid (decide ((3000 : Int) < ((sumT hs hs.length : Nat) : Int)) = longH hs) := by
        show _ = _
        exact decide_eq_decide.2 (by omega)
      generalize sumT hs hs.length = t at *
      go_wp2_with fail
      go_ret
      exact ⟨ret_bool HL.out, rfl⟩

def longI (I : It) : Bool := decide (200 < I.p.length) || (decide (200 < I.v.length) || longH I.hs)
theorem longI_small {I : It} (h : longI I = false) : Small I ∧ I.p.length ≤ 200 ∧ I.v.length ≤ 200 ∧ I.hs.length ≤ 3000 := by
  unfold longI at h
  simp only [Bool.or_eq_false_iff, decide_eq_false_iff_not] at h
  have h1 := longH_small h.2.2
  exact ⟨⟨by omega, by omega, by omega, fun x hx => by have := h1.2 x hx; omega⟩, by omega, by omega, h1.1⟩
set_option maxHeartbeats 1000000 in
theorem long_any (I : It) (a : Option Addr) (c : Nat) (w : World) (hT : Tx w a I.hs) :
    Calls Tryd.prog 7 #[itV I a c] w fun e w' => e = .returned (.bool (longI I)) ∧ New w w' := by
  have HK := fun W h => keepLong_any I.hs a c W h
  obtain ⟨k, p, has, v, m, hs⟩ := I
  have HT : Hid (Tx w a hs) := hT
  obtain ⟨b1, hb1⟩ : ∃ b, decide (200 < p.length) = b := ⟨_, rfl⟩
  obtain ⟨b2, hb2⟩ : ∃ b, decide (200 < v.length) = b := ⟨_, rfl⟩
  have HL : Hid (longI ⟨k, p, has, v, m, hs⟩ = (b1 || (b2 || longH hs))) := by show _ = _; unfold longI; rw [hb1, hb2]
  rw [HL.out]
  have e1 : decide ((200 : Int) < ((bs p).size : Int)) = b1 := by rw [← hb1, bs_size]; exact decide_eq_decide.2 (by omega)
  have e2 : decide ((200 : Int) < ((bs v).size : Int)) = b2 := by rw [← hb2, bs_size]; exact decide_eq_decide.2 (by omega)
  have e1' : decide (200 < (bs p).size) = b1 := hb1
  have e2' : decide (200 < (bs v).size) = b2 := hb2
  have N0 : New w (w.alloc (.cells #[.int .i64 k, .string (bs p), .bool has, .string (bs v), .int .i64 m, .slice a hs.length c] 24)) := (New.refl w).alloc _
  clear HL hb1 hb2 hT
  show Calls Tryd.prog 7 #[.agg #[.int .i64 k, .string (bs p), .bool has, .string (bs v), .int .i64 m, .slice a hs.length c]] w _
  replace HK : ∀ W, Tx W a hs → Calls Tryd.prog 20 #[.slice a hs.length c, .int .i64 3000] W fun e w' => e = .returned (.bool (longH hs)) ∧ w' = W := HK
  generalize longH hs = b3 at *
  generalize bs p = sp at *
  generalize bs v = sv at *
  cases b1
  · cases b2
    · go_enter Tryd.func7, Tryd.ntmps7
      go_wp2_with fail
      refine (HK _ (HT.out.after N0)).mono ?_
      rintro e w1 ⟨rfl, rfl⟩
      cases b3
      all_goals
        go_wp2_with fail
        go_ret
        exact ⟨rfl, N0⟩
    · go_enter Tryd.func7, Tryd.ntmps7
      go_wp2_with fail
      go_ret
      exact ⟨rfl, N0⟩
  · go_enter Tryd.func7, Tryd.ntmps7
    go_wp2_with fail
    go_ret
    exact ⟨rfl, N0⟩

end Go.Proofs.YtecamiefpdkjoaaDoor
