/-
  An Item in memory; whether it may be: goodValue, goodHashes, goodLeaf, goodExt, goodBranch, Good.
-/
import Derived.Test.YtecamiefpdkjoaaDoorNdCnt
namespace Go.Proofs.YtecamiefpdkjoaaDoor
open Go.RowKit
set_option maxRecDepth 20000
set_option linter.unusedVariables false

/-- A list of texts that is read. -/
def Tx (w : World) (a : Option Addr) (hs : List (List UInt8)) : Prop := 0 < hs.length → ∃ x, a = some x ∧ ∀ (i : Nat) h, hs[i]? = some h → w.cell? (x.add i) = some (.string (bs h))
theorem Tx.nil (w : World) (a : Option Addr) : Tx w a [] := fun h => absurd h (by simp)
theorem Tx.of {w w' : World} {a : Option Addr} {hs : List (List UInt8)} (h : Tx w a hs) (e : ∀ x, a = some x → x.block < w.heap.size → w'.heap[x.block]? = w.heap[x.block]?) : Tx w' a hs := fun h0 => by
  obtain ⟨x, rfl, hx⟩ := h h0
  refine ⟨x, rfl, fun i y hi => ?_⟩
  have hb : (x.add i).block < w.heap.size := World.block_lt_of_cell? w _ (hx i y hi)
  have hb' : (x.add i).block = x.block := by unfold Addr.add; split <;> rfl
  rw [hb'] at hb
  rw [World.cell?_of_block (w := w) (a := x.add i) (by rw [hb']; exact e x rfl hb)]
  exact hx i y hi
theorem Tx.after {w w' : World} {a : Option Addr} {hs : List (List UInt8)} (h : Tx w a hs) (k : New w w') : Tx w' a hs := h.of fun _ _ hb => k.block _ hb

/-- An Item as a value; its cells. -/
def itC (I : It) (a : Option Addr) (c : Nat) : Array Value := #[.int .i64 I.k, .string (bs I.p), .bool I.has, .string (bs I.v), .int .i64 I.m, .slice a I.hs.length c]
abbrev itV (I : It) (a : Option Addr) (c : Nat) : Value := .agg #[.int .i64 I.k, .string (bs I.p), .bool I.has, .string (bs I.v), .int .i64 I.m, .slice a I.hs.length c]

set_option maxHeartbeats 1000000 in
theorem goodValue_any (I : It) (hv : I.v.length ≤ 4000) (a : Option Addr) (c : Nat) (w : World) :
    Calls Tryd.prog 49 #[itV I a c] w fun e w' => e = .returned (.bool (goodV I)) ∧ New w w' := by
  obtain ⟨k, p, has, v, m, hs⟩ := I
  have HG : Hid (goodV ⟨k, p, has, v, m, hs⟩ = (decide (v.length ≤ 16) && (has || emptyB v))) := rfl
  have h1 : ∃ b, decide (v.length ≤ 16) = b := ⟨_, rfl⟩
  obtain ⟨b1, hb1⟩ := h1
  obtain ⟨b2, hb2⟩ : ∃ b, emptyB v = b := ⟨_, rfl⟩
  have e1 : decide (((bs v).size : Int) ≤ 16) = b1 := by rw [← hb1, bs_size]; exact decide_eq_decide.2 (by omega)
  have e2 : (bs v).toList.isEmpty = b2 := by rw [toList_L, L_bs, ← hb2]; cases v <;> rfl
  have e3 : ((bs v).toList == []) = b2 := by rw [toList_L, L_bs, ← hb2]; cases v <;> rfl
  have hl : (bs v).size ≤ 4000 := hv
  have HB : Hid (goodV ⟨k, p, has, v, m, hs⟩ = (b1 && (has || b2))) := by show _ = _; rw [HG.out, hb1, hb2]
  rw [HB.out]
  clear HG HB hb1 hb2 hv
  show Calls Tryd.prog 49 #[.agg #[.int .i64 k, .string (bs p), .bool has, .string (bs v), .int .i64 m, .slice a hs.length c]] w _
  generalize bs v = sv at *
  generalize bs p = sp at *
  cases b1 <;> cases has <;> cases b2
  all_goals
    go_enter Tryd.func49, Tryd.ntmps49
    go_wp2_with fail
    go_ret
    exact ⟨rfl, (New.refl w).alloc _⟩

set_option maxHeartbeats 1000000 in
theorem goodHashes_any (hs : List (List UInt8)) (a : Option Addr) (c n : Nat) (hn : n ≤ 1000000) (hl : hs.length ≤ 4611686018427387904) (w : World) (hT : Tx w a hs) (h4 : ∀ h ∈ hs, h.length ≤ 4611686018427387904) :
    Calls Tryd.prog 50 #[.slice a hs.length c, .int .i64 (n : Int)] w fun e w' => e = .returned (.bool (goodH hs n)) ∧ w' = w := by
  by_cases he : hs.length = n
  · have hd : ((hs.length : Int) != (n : Int)) = false := by rw [bne_eq_false_iff_eq]; omega
    have HG : Hid (goodH hs n = hs.all fun h => decide (h.length = 32)) := by show _ = _; unfold goodH; rw [decide_eq_true he]; rfl
    have HT : Hid (Tx w a hs) := hT
    have H4 : Hid (∀ h ∈ hs, h.length ≤ 4611686018427387904) := h4
    clear hT h4
    go_enter Tryd.func50, Tryd.ntmps50
    go_wp2_with fail
    go_loop [13] (fun i => ∃ k : Nat, k ≤ hs.length ∧ i = .int .i64 (k : Int) ∧ ∀ (j : Nat) h, j < k → hs[j]? = some h → h.length = 32) (fun i => hs.length - (intOf i).toNat)
    case atStart => exact ⟨0, by omega, rfl, fun j h hj => absurd hj (by omega)⟩
    case round =>
      obtain ⟨k, hk, rfl, hall⟩ := hrel
      have HA : Hid (∀ (j : Nat) h, j < k → hs[j]? = some h → h.length = 32) := hall
      clear hall
      by_cases hlt : k < hs.length
      · have hlt' : (k : Int) < (hs.length : Int) := by omega
        obtain ⟨x, rfl, hx⟩ := HT.out (by omega)
        have hk' : hs[k]? = some hs[k] := List.getElem?_eq_getElem hlt
        have hcell := hx k _ hk'
        have hsz : (bs hs[k]).size = hs[k].length := rfl
        have hb := H4.out _ (List.getElem_mem hlt)
        have HK : Hid (hs[k]? = some hs[k]) := hk'
        clear hx hk'
        by_cases h32 : hs[k].length = 32
        · have ht : (((bs hs[k]).size : Int) != 32) = false := by rw [bne_eq_false_iff_eq, hsz]; omega
          have HE : Hid (hs[k].length = 32) := h32
          rw [hsz] at ht
          clear h32
          generalize bs hs[k] = q at *
          go_wp2_with fail
          go_round
          case rel => exact ⟨k + 1, by omega, by go_num, fun j h hj hjh => by
            by_cases e : j = k
            · subst e; rw [HK.out] at hjh; cases hjh; exact HE.out
            · exact HA.out j h (by omega) hjh⟩
          case measure => simp [intOf]; omega
        · have ht : (((bs hs[k]).size : Int) != 32) = true := by rw [bne_iff_ne, hsz]; omega
          have HF : Hid (goodH hs n = false) := by
            show _ = _
            rw [HG.out, Bool.eq_false_iff]
            intro h
            exact h32 (of_decide_eq_true (List.all_eq_true.1 h _ (List.getElem_mem hlt)))
          rw [hsz] at ht
          clear h32
          generalize bs hs[k] = q at *
          go_wp2_with fail
          go_ret
          exact ⟨ret_bool HF.out.symm, rfl⟩
      · obtain rfl : k = hs.length := by omega
        have HF : Hid (goodH hs n = true) := by
          show _ = _
          rw [HG.out, List.all_eq_true]
          intro h hh
          obtain ⟨j, hj⟩ := List.getElem?_of_mem hh
          exact decide_eq_true (HA.out j h (List.getElem?_eq_some_iff.1 hj).1 hj)
        go_wp2_with fail
        go_ret
        exact ⟨ret_bool HF.out.symm, rfl⟩
  · have hd : ((hs.length : Int) != (n : Int)) = true := by rw [bne_iff_ne]; omega
    have HG : Hid (goodH hs n = false) := by show _ = _; unfold goodH; rw [decide_eq_false he]; rfl
    go_enter Tryd.func50, Tryd.ntmps50
    go_wp2_with fail
    go_ret
    exact ⟨ret_bool HG.out.symm, rfl⟩

end Go.Proofs.YtecamiefpdkjoaaDoor
