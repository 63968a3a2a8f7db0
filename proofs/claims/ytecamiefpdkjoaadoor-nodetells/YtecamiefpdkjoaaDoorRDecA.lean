/-
  The reference's Decode says what Decode says.
-/
import Derived.Test.YtecamiefpdkjoaaDoorRParA
import Derived.Deep.CutBlock
namespace Go.Proofs.YtecamiefpdkjoaaDoor
open Go.RowKit
set_option maxRecDepth 20000
set_option linter.unusedVariables false

def gotZ : Array Value := #[.int .i64 0, .string ⟨#[]⟩, .bool false, .string ⟨#[]⟩, .int .i64 0, .slice none 0 0, .bool false]
def gotC (I : It) (a : Option Addr) (c : Nat) : Array Value := #[.int .i64 I.k, .string (bs I.p), .bool I.has, .string (bs I.v), .int .i64 I.m, .slice a I.hs.length c, .bool true]
theorem info32 : ∃ b, (Tryd.prog.info? 32).map (fun i => (i.zero, i.size, i.bytes)) = some (some (.agg gotZ), 7, b) := ⟨88, by kernel_rfl⟩
theorem i32 : (Tryd.prog.info? 32).map (·.size) = some 7 := by kernel_rfl
theorem built32_none : Tryd.prog.built 32 [] = some gotZ := by kernel_rfl
theorem built32_two (k : Int) (p : ByteArray) (has : Bool) (v : ByteArray) (m : Int) (a : Option Addr) (n c : Nat) : Tryd.prog.built 32 [(0, .agg #[.int .i64 k, .string p, .bool has, .string v, .int .i64 m, .slice a n c]), (1, .bool true)] = some #[.int .i64 k, .string p, .bool has, .string v, .int .i64 m, .slice a n c, .bool true] := by kernel_rfl
theorem built24_one (k : Int) : Tryd.prog.built 24 [(0, .int .i64 k)] = some (itR k [] false [] 0 (.slice none 0 0)) := by kernel_rfl
theorem gotZ_one : gotZ.all (·.oneCell') = true := by simp [gotZ, Value.oneCell']
theorem gotC_one (I : It) (a : Option Addr) (c : Nat) : (gotC I a c).all (·.oneCell') = true := by simp [gotC, Value.oneCell']
theorem info52 : ∃ b, (Tryd.prog.info? 52).map (fun i => (i.zero, i.size, i.bytes)) = some (some (.agg #[.string ⟨#[]⟩, .int .i64 0, .bool false]), 3, b) := ⟨32, by kernel_rfl⟩
theorem i52 : (Tryd.prog.info? 52).map (·.size) = some 3 := by kernel_rfl
/-- What Decode hands back. -/
def MadeR (w : World) (D : Bool) (I : It) (e : Ending) (w' : World) : Prop :=
  New w w' ∧ if D = true then ∃ a c, e = .returned (.agg (gotC I a c)) ∧ Tx w' a I.hs else e = .returned (.agg gotZ)
theorem MadeR.no {w w' : World} {D : Bool} {I : It} (h : D = false) (n : New w w') : MadeR w D I (.returned (.agg gotZ)) w' := ⟨n, by rw [h, if_neg Bool.false_ne_true]⟩
theorem MadeR.yes {w w' : World} {D : Bool} {I : It} (h : D = true) (n : New w w') (a : Option Addr) (c : Nat) (hT : Tx w' a I.hs) : MadeR w D I (.returned (.agg (gotC I a c))) w' := ⟨n, by rw [h, if_pos rfl]; exact ⟨a, c, rfl, hT⟩⟩
theorem byte_at (s : ByteArray) (i : Nat) (h : i < s.size) : s[i].toNat = byteN (L s) i := by
  unfold byteN
  rw [List.getD_eq_getElem?_getD, List.getElem?_eq_getElem (by rw [L_size]; exact h)]
  rfl

set_option maxHeartbeats 1000000 in
theorem rdec_empty (s : ByteArray) (h : s.size = 0) (w : World) :
    Calls Tryd.prog 12 #[.string s] w fun e w' => MadeR w false (rIt (L s)) e w' := by
  obtain ⟨bb, inf⟩ := info32
  have hl : L s = [] := List.eq_nil_of_length_eq_zero (by rw [L_size]; exact h)
  have e1 : s.toList.isEmpty = true := by rw [toList_L, hl]; rfl
  have e2 : (s.toList == []) = true := by rw [toList_L, hl]; rfl
  clear hl
  go_enter Tryd.func12, Tryd.ntmps12
  go_wp2_with (first
    | (refine wpList_alloc_at (by rfl) 2 (by rfl) 32 (by rfl) _ _ _ inf ?_; intro W1 R1 N1)
    | refine wpList_build0 (by rfl) 32 (by rfl) gotZ built32_none ?_
    | (refine wpList_store_new (by rfl) 32 _ _ (by rfl) w.heap.size gotZ (by rfl) (by rfl) 32 gotZ R1 i32 rfl gotZ_one ?_; intro W2 R2 B2))
  exact bodyPost_ret (results_cell_row rfl _ _ w.heap.size 32 gotZ (0, 0) _ rfl R2 Tryd.underlying32 rfl i32) rfl (MadeR.no rfl (B2.new N1 (Nat.le_refl _)))
end Go.Proofs.YtecamiefpdkjoaaDoor
