/-
  What a call keeps; the two tables in memory; a word's operations as the program's own; turn and the document's turn.
-/
import Derived.Test.YtecamiefpdkjoaaDoorRows
import Derived.Test.YtecamiefpdkjoaaDoorDgPlain
import Derived.Test.YtecamiefpdkjoaaDoorPart
import Derived.WalkKit
import Derived.WalkSpells
import Derived.WalkLawsBesides
import Derived.RowKit3
import Derived.Below
import Derived.Laws.BitsLemmas
namespace Go.Proofs.YtecamiefpdkjoaaDoor.Dg
open Go.RowKit
set_option maxRecDepth 20000

theorem ret_bool {a b : Bool} (h : a = b) : Ending.returned (.bool a) = .returned (.bool b) := by rw [h]
theorem ret_str {a b : ByteArray} (h : a = b) : Ending.returned (.string a) = .returned (.string b) := by rw [h]
theorem ret_u32 {a b : Int} (h : a = b) : Ending.returned (.int .u32 a) = .returned (.int .u32 b) := by rw [h]

/-- All that lay in memory is as it was. -/
def Kept (w w' : World) : Prop := New w w'
theorem Kept.refl (w : World) : Kept w w := New.refl w
theorem Kept.trans {a b c : World} (h : Kept a b) (k : Kept b c) : Kept a c := New.trans h k

theorem Kept.below {w w' : World} (h : Below w.heap.size w w') : Kept w w' := h
theorem Kept.drew (w : World) : Kept w w.drew := New.drew w
theorem Kept.drewR {w w' : World} (h : Kept w w') : Kept w w'.drew := h.trans (Kept.drew _)
theorem Kept.allocR {w w' : World} (h : Kept w w') (o : Obj) : Kept w (w'.alloc o) := New.alloc h o
theorem Kept.cell {w w' : World} (h : Kept w w') {b o : Nat} (hb : b < w.heap.size) : w'.cell? ⟨b, o, none⟩ = w.cell? ⟨b, o, none⟩ := New.cell h hb
theorem Kept.size {w w' : World} (h : Kept w w') : w.heap.size ≤ w'.heap.size := Below.size h
theorem Kept.setCell {W w' : World} (h : Kept W w') {a : Addr} (ha : W.heap.size ≤ a.block) (v : Value) : Kept W (w'.setCell a v) := Below.setCell h ha v
theorem Kept.setRow {W w' : World} (h : Kept W w') {g : Nat} (ha : W.heap.size ≤ g) (cs : Array Value) : Kept W (w'.setRow g cs) := by
  have h1 : Below W.heap.size W w' := h
  exact ⟨h1.os, h1.tape, h1.output, by simpa [World.setRow] using h1.size, fun i hi => (setRow_other w' g i cs (by omega)).trans (h1.block i hi)⟩
/-- A row of cells, whole, that may be written. -/
def Row (w : World) (g : Nat) (cs : Array Value) (t : TypeId) : Prop := w.heap[g]? = some (.cells cs t (0, 0))
theorem Row.lt {w : World} {g : Nat} {cs : Array Value} {t : TypeId} (h : Row w g cs t) : g < w.heap.size := (Array.getElem?_eq_some_iff.1 h).1
theorem Row.cell {w : World} {g : Nat} {cs : Array Value} {t : TypeId} (h : Row w g cs t) (j : Nat) : w.cell? ⟨g, j, none⟩ = cs[j]? := cell_of_row w g j cs t (0, 0) h
theorem Row.frozen {w : World} {g : Nat} {cs : Array Value} {t : TypeId} (h : Row w g cs t) (j : Nat) : w.frozen? ⟨g, j, none⟩ = false := frozen_of_row w g j cs t h
theorem Row.alloc {w : World} {g : Nat} {cs : Array Value} {t : TypeId} (h : Row w g cs t) (o : Obj) : Row (w.alloc o) g cs t := (heap_alloc_old w o h.lt).trans h
theorem Row.drew {w : World} {g : Nat} {cs : Array Value} {t : TypeId} (h : Row w g cs t) : Row w.drew g cs t := h
theorem Row.new (w : World) (cs : Array Value) (t : TypeId) : Row (w.alloc (.cells cs t)) w.heap.size cs t := heap_alloc_new w _
theorem Row.set {w : World} {g : Nat} {cs : Array Value} {t : TypeId} (h : Row w g cs t) (cs' : Array Value) : Row (w.setRow g cs') g cs' t := setRow_heap w g cs cs' t _ h
theorem Row.setOther {w : World} {g : Nat} {cs : Array Value} {t : TypeId} (h : Row w g cs t) {k : Nat} (hk : g ≠ k) (cs' : Array Value) : Row (w.setRow k cs') g cs t := (setRow_other w k g cs' hk).trans h
theorem Row.setCell {w : World} {g : Nat} {cs : Array Value} {t : TypeId} (h : Row w g cs t) (i : Nat) (v : Value) : Row (w.setCell ⟨g, i, none⟩ v) g (cs.setIfInBounds i v) t := heap_setCell_same w g i cs t v h
theorem Row.setCellOther {w : World} {g : Nat} {cs : Array Value} {t : TypeId} (h : Row w g cs t) {a : Addr} (hk : g ≠ a.block) (v : Value) : Row (w.setCell a v) g cs t := (heap_setCell_other w a g v hk).trans h
theorem Row.kept {w w' : World} {g : Nat} {cs : Array Value} {t : TypeId} (h : Row w g cs t) (k : Kept w w') : Row w' g cs t := (Below.block k g h.lt).trans h
/-- Words as cells; bytes as cells. -/
def cw (l : List Nat) : Array Value := (l.map fun (x : Nat) => Value.int .u32 (x : Int)).toArray
def cb (l : List Nat) : Array Value := (l.map fun (x : Nat) => Value.int .u8 (x : Int)).toArray
theorem cw_size (l : List Nat) : (cw l).size = l.length := by simp [cw]
theorem cb_size (l : List Nat) : (cb l).size = l.length := by simp [cb]
theorem cw_get (l : List Nat) (j : Nat) (h : j < l.length) : (cw l)[j]? = some (.int .u32 ((l.getD j 0 : Nat) : Int)) := by
  simp [cw, h]
theorem cb_get (l : List Nat) (j : Nat) (h : j < l.length) : (cb l)[j]? = some (.int .u8 ((l.getD j 0 : Nat) : Int)) := by
  simp [cb, h]
theorem cw_set (l : List Nat) (j x : Nat) : (cw l).setIfInBounds j (.int .u32 (x : Int)) = cw (l.set j x) := by
  unfold cw
  rw [List.setIfInBounds_toArray, List.map_set]
theorem cb_set (l : List Nat) (j x : Nat) : (cb l).setIfInBounds j (.int .u8 (x : Int)) = cb (l.set j x) := by
  unfold cb
  rw [List.setIfInBounds_toArray, List.map_set]
theorem cw_one (l : List Nat) : (cw l).all (·.oneCell') = true := by
  unfold cw
  rw [List.all_toArray, List.all_map, List.all_eq_true]
  intro x _; rfl
theorem cb_one (l : List Nat) : (cb l).all (·.oneCell') = true := by
  unfold cb
  rw [List.all_toArray, List.all_map, List.all_eq_true]
  intro x _; rfl

/-- A block has just these cells. -/
def Has (w : World) (g : Nat) (cs : Array Value) : Prop := ∃ t fr, w.heap[g]? = some (.cells cs t fr)
theorem Has.lt {w : World} {g : Nat} {cs : Array Value} (h : Has w g cs) : g < w.heap.size := let ⟨_, _, e⟩ := h; (Array.getElem?_eq_some_iff.1 e).1
theorem Has.cell {w : World} {g : Nat} {cs : Array Value} (h : Has w g cs) (j : Nat) : w.cell? ⟨g, j, none⟩ = cs[j]? := let ⟨t, fr, e⟩ := h; cell_of_row w g j cs t fr e
theorem Has.kept {w w' : World} {g : Nat} {cs : Array Value} (h : Has w g cs) (k : Kept w w') : Has w' g cs := let ⟨t, fr, e⟩ := h; ⟨t, fr, (Below.block k g h.lt).trans e⟩
/-- The tables lie in the first two blocks. -/
def Tab (w : World) : Prop := Has w 0 (cw firstN.list) ∧ Has w 1 (cw roundsN)
theorem Tab.kept {w w' : World} (h : Tab w) (k : Kept w w') : Tab w' := ⟨h.1.kept k, h.2.kept k⟩

/-- A word's operations, as the program's. -/
theorem toNat_word (a : Nat) : (BitVec.ofInt 32 (a : Int)).toNat = a % 4294967296 := by
  rw [BitVec.ofInt_natCast, BitVec.toNat_ofNat]
theorem wrap_word (n : Nat) (h : n < 4294967296) : IntKind.u32.wrap (n : Int) = (n : Int) := by rw [IntKind.wrap_u32]; omega
theorem xo_u32 (a b : Nat) : bits .xor .u32 (a : Int) (b : Int) = ((xo a b : Nat) : Int) := by
  show IntKind.u32.wrap ((BitVec.ofInt 32 (a : Int) ^^^ BitVec.ofInt 32 (b : Int)).toNat : Int) = _
  rw [BitVec.toNat_xor, toNat_word, toNat_word]
  exact wrap_word _ (xo_lt a b)
theorem an_u32 (a b : Nat) : bits .and .u32 (a : Int) (b : Int) = ((an a b : Nat) : Int) := by
  show IntKind.u32.wrap ((BitVec.ofInt 32 (a : Int) &&& BitVec.ofInt 32 (b : Int)).toNat : Int) = _
  rw [BitVec.toNat_and, toNat_word, toNat_word]
  exact wrap_word _ (an_lt a b)
theorem ors_u32 (a b : Nat) : bits .or .u32 (a : Int) (b : Int) = ((ors a b : Nat) : Int) := by
  show IntKind.u32.wrap ((BitVec.ofInt 32 (a : Int) ||| BitVec.ofInt 32 (b : Int)).toNat : Int) = _
  rw [BitVec.toNat_or, toNat_word, toNat_word]
  exact wrap_word _ (ors_lt a b)
theorem no_u32 (a : Nat) : bits .xor .u32 IntKind.u32.max (a : Int) = ((no a : Nat) : Int) := by
  have h := xo_u32 4294967295 a
  exact h
theorem ad_u32 (a b : Nat) : IntKind.u32.wrap ((a : Int) + (b : Int)) = ((ad a b : Nat) : Int) := by
  rw [IntKind.wrap_u32]; unfold ad; omega

/-- By how much a word is turned. -/
def By (n : Nat) : Prop := n = 2 ∨ n = 6 ∨ n = 7 ∨ n = 11 ∨ n = 13 ∨ n = 17 ∨ n = 18 ∨ n = 19 ∨ n = 22 ∨ n = 25
set_option maxHeartbeats 1600000 in
theorem turnL_any (x n : Nat) (hn : By n) (w : World) :
    Calls Tryd.prog 81 #[.int .u32 (x : Int), .int .i64 (-(n : Int))] w fun e w' => e = .returned (.int .u32 ((rot x n : Nat) : Int)) ∧ w' = w := by
  have ho := ors_u32
  have b2 : bits .and .u64 (IntKind.u64.wrap (-2)) 31 = 30 := by decide +kernel
  have b6 : bits .and .u64 (IntKind.u64.wrap (-6)) 31 = 26 := by decide +kernel
  have b7 : bits .and .u64 (IntKind.u64.wrap (-7)) 31 = 25 := by decide +kernel
  have b11 : bits .and .u64 (IntKind.u64.wrap (-11)) 31 = 21 := by decide +kernel
  have b13 : bits .and .u64 (IntKind.u64.wrap (-13)) 31 = 19 := by decide +kernel
  have b17 : bits .and .u64 (IntKind.u64.wrap (-17)) 31 = 15 := by decide +kernel
  have b18 : bits .and .u64 (IntKind.u64.wrap (-18)) 31 = 14 := by decide +kernel
  have b19 : bits .and .u64 (IntKind.u64.wrap (-19)) 31 = 13 := by decide +kernel
  have b22 : bits .and .u64 (IntKind.u64.wrap (-22)) 31 = 10 := by decide +kernel
  have b25 : bits .and .u64 (IntKind.u64.wrap (-25)) 31 = 7 := by decide +kernel
  have r2 : (x : Int) / 4 = ((sr x 2 : Nat) : Int) := by unfold sr; omega
  have l2 : (x : Int) * 1073741824 % 4294967296 = ((sl x 30 : Nat) : Int) := by unfold sl; omega
  have r6 : (x : Int) / 64 = ((sr x 6 : Nat) : Int) := by unfold sr; omega
  have l6 : (x : Int) * 67108864 % 4294967296 = ((sl x 26 : Nat) : Int) := by unfold sl; omega
  have r7 : (x : Int) / 128 = ((sr x 7 : Nat) : Int) := by unfold sr; omega
  have l7 : (x : Int) * 33554432 % 4294967296 = ((sl x 25 : Nat) : Int) := by unfold sl; omega
  have r11 : (x : Int) / 2048 = ((sr x 11 : Nat) : Int) := by unfold sr; omega
  have l11 : (x : Int) * 2097152 % 4294967296 = ((sl x 21 : Nat) : Int) := by unfold sl; omega
  have r13 : (x : Int) / 8192 = ((sr x 13 : Nat) : Int) := by unfold sr; omega
  have l13 : (x : Int) * 524288 % 4294967296 = ((sl x 19 : Nat) : Int) := by unfold sl; omega
  have r17 : (x : Int) / 131072 = ((sr x 17 : Nat) : Int) := by unfold sr; omega
  have l17 : (x : Int) * 32768 % 4294967296 = ((sl x 15 : Nat) : Int) := by unfold sl; omega
  have r18 : (x : Int) / 262144 = ((sr x 18 : Nat) : Int) := by unfold sr; omega
  have l18 : (x : Int) * 16384 % 4294967296 = ((sl x 14 : Nat) : Int) := by unfold sl; omega
  have r19 : (x : Int) / 524288 = ((sr x 19 : Nat) : Int) := by unfold sr; omega
  have l19 : (x : Int) * 8192 % 4294967296 = ((sl x 13 : Nat) : Int) := by unfold sl; omega
  have r22 : (x : Int) / 4194304 = ((sr x 22 : Nat) : Int) := by unfold sr; omega
  have l22 : (x : Int) * 1024 % 4294967296 = ((sl x 10 : Nat) : Int) := by unfold sl; omega
  have r25 : (x : Int) / 33554432 = ((sr x 25 : Nat) : Int) := by unfold sr; omega
  have l25 : (x : Int) * 128 % 4294967296 = ((sl x 7 : Nat) : Int) := by unfold sl; omega
  rcases hn with rfl | rfl | rfl | rfl | rfl | rfl | rfl | rfl | rfl | rfl
  all_goals
    go_enter Tryd.func81, Tryd.ntmps81
    go_wp2_with fail
    go_ret
    exact ⟨ret_u32 (by rfl), rfl⟩

theorem turn_any (x n : Nat) (k : Int) (hk : k = (n : Int)) (hn : By n) (w : World) :
    Calls Tryd.prog 78 #[.int .u32 (x : Int), .int .i64 k] w fun e w' => e = .returned (.int .u32 ((rot x n : Nat) : Int)) ∧ w' = w := by
  subst hk
  have hr := turnL_any x n hn
  have h0 : IntKind.i64.wrap (-(n : Int)) = -(n : Int) := by
    rcases hn with rfl | rfl | rfl | rfl | rfl | rfl | rfl | rfl | rfl | rfl <;> rfl
  clear hn
  go_enter Tryd.func78, Tryd.ntmps78
  go_wp2_with fail
  refine (hr _).mono ?_
  rintro e w' ⟨rfl, rfl⟩
  go_wp2_with fail
  go_ret
  exact ⟨rfl, rfl⟩

set_option maxHeartbeats 1600000 in
theorem refTurn_any (x n : Nat) (k : Int) (hk : k = (n : Int)) (hn : By n) (w : World) :
    Calls Tryd.prog 76 #[.int .u32 (x : Int), .int .u64 k] w fun e w' => e = .returned (.int .u32 ((rot x n : Nat) : Int)) ∧ w' = w := by
  subst hk
  have ho : ∀ a b : Nat, bits .or .u32 (a : Int) (b : Int) = ((ors b a : Nat) : Int) := fun a b => by rw [ors_u32, ors_comm]
  have r2 : (x : Int) / 4 = ((sr x 2 : Nat) : Int) := by unfold sr; omega
  have l2 : (x : Int) * 1073741824 % 4294967296 = ((sl x 30 : Nat) : Int) := by unfold sl; omega
  have r6 : (x : Int) / 64 = ((sr x 6 : Nat) : Int) := by unfold sr; omega
  have l6 : (x : Int) * 67108864 % 4294967296 = ((sl x 26 : Nat) : Int) := by unfold sl; omega
  have r7 : (x : Int) / 128 = ((sr x 7 : Nat) : Int) := by unfold sr; omega
  have l7 : (x : Int) * 33554432 % 4294967296 = ((sl x 25 : Nat) : Int) := by unfold sl; omega
  have r11 : (x : Int) / 2048 = ((sr x 11 : Nat) : Int) := by unfold sr; omega
  have l11 : (x : Int) * 2097152 % 4294967296 = ((sl x 21 : Nat) : Int) := by unfold sl; omega
  have r13 : (x : Int) / 8192 = ((sr x 13 : Nat) : Int) := by unfold sr; omega
  have l13 : (x : Int) * 524288 % 4294967296 = ((sl x 19 : Nat) : Int) := by unfold sl; omega
  have r17 : (x : Int) / 131072 = ((sr x 17 : Nat) : Int) := by unfold sr; omega
  have l17 : (x : Int) * 32768 % 4294967296 = ((sl x 15 : Nat) : Int) := by unfold sl; omega
  have r18 : (x : Int) / 262144 = ((sr x 18 : Nat) : Int) := by unfold sr; omega
  have l18 : (x : Int) * 16384 % 4294967296 = ((sl x 14 : Nat) : Int) := by unfold sl; omega
  have r19 : (x : Int) / 524288 = ((sr x 19 : Nat) : Int) := by unfold sr; omega
  have l19 : (x : Int) * 8192 % 4294967296 = ((sl x 13 : Nat) : Int) := by unfold sl; omega
  have r22 : (x : Int) / 4194304 = ((sr x 22 : Nat) : Int) := by unfold sr; omega
  have l22 : (x : Int) * 1024 % 4294967296 = ((sl x 10 : Nat) : Int) := by unfold sl; omega
  have r25 : (x : Int) / 33554432 = ((sr x 25 : Nat) : Int) := by unfold sr; omega
  have l25 : (x : Int) * 128 % 4294967296 = ((sl x 7 : Nat) : Int) := by unfold sl; omega
  rcases hn with rfl | rfl | rfl | rfl | rfl | rfl | rfl | rfl | rfl | rfl
  all_goals
    go_enter Tryd.func76, Tryd.ntmps76
    go_wp2_with fail
    go_ret
    exact ⟨ret_u32 (by rfl), rfl⟩

end Go.Proofs.YtecamiefpdkjoaaDoor.Dg
