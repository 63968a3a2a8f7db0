/-
  What Put returns: a number's four bytes, the highest first, for every number; the document's own Put as well.
-/
import Derived.Test.YtkcoclpbkealgaaDoorPgSum
import Derived.OwnWalk
import Derived.Laws.BytesString
namespace Go.Proofs.YtkcoclpbkealgaaDoor
open Go.RowKit
set_option maxRecDepth 20000

theorem conv4 (a0 a1 a2 a3 : Int) (w : World) :
    (convert 22 9 (.slice (some ⟨w.heap.size, 0, none⟩) 4 4)).run Tryd.prog (w.alloc (.cells #[.int .u8 a0, .int .u8 a1, .int .u8 a2, .int .u8 a3] 5)) =
      .ok (.string ⟨#[UInt8.ofNat a0.toNat, UInt8.ofNat a1.toNat, UInt8.ofNat a2.toNat, UInt8.ofNat a3.toNat]⟩)
        (w.alloc (.cells #[.int .u8 a0, .int .u8 a1, .int .u8 a2, .int .u8 a3] 5)) := by
  rw [run_convert_bytes_string _ 22 9 5 _ 4 4 Tryd.underlying22 Tryd.underlying5 Tryd.underlying9]
  rw [run_bytesToString _ ⟨w.heap.size, 0, none⟩ 4 4 [a0, a1, a2, a3]]
  · rfl
  · refine run_loadCells_list (P := Tryd.prog) _ ⟨w.heap.size, 0, none⟩ [.int .u8 a0, .int .u8 a1, .int .u8 a2, .int .u8 a3] ?_
    intro j v hj
    have hc := cell_of_row _ w.heap.size j _ _ _ (heap_alloc_new w (.cells #[.int .u8 a0, .int .u8 a1, .int .u8 a2, .int .u8 a3] 5))
    have ha : (Addr.add ⟨w.heap.size, 0, none⟩ j) = ⟨w.heap.size, j, none⟩ := by simp [Addr.add]; intro h; exact h.symm
    rw [ha, hc]
    simpa using hj

theorem put_eq (v : Nat) (hv : v < 4294967296) : (⟨#[UInt8.ofNat ((v : Int) / 16777216).toNat, UInt8.ofNat ((v : Int) / 65536 % 256).toNat, UInt8.ofNat ((v : Int) / 256 % 256).toNat, UInt8.ofNat ((v : Int) % 256).toNat]⟩ : ByteArray) = bs (putL v) := by
  have e3 : ((v : Int) / 16777216).toNat = v / 16777216 % 256 := by omega
  have e2 : ((v : Int) / 65536 % 256).toNat = v / 65536 % 256 := by omega
  have e1 : ((v : Int) / 256 % 256).toNat = v / 256 % 256 := by omega
  have e0 : ((v : Int) % 256).toNat = v % 256 := by omega
  rw [e3, e2, e1, e0]
  rfl

set_option maxHeartbeats 1000000 in
theorem put_any (v : Nat) (hv : v < 4294967296) (w : World) :
    Calls Tryd.prog 78 #[.int .u32 (v : Int)] w fun e w' => e = .returned (.string (bs (putL v))) ∧ New w w' := by
  have HE : Hid (_ = _) := put_eq v hv
  have hcv := conv4
  go_enter Tryd.func78, Tryd.ntmps78
  go_wp2_with fail
  go_ret
  exact ⟨ret_str HE.out, (New.refl _).alloc _⟩

set_option maxHeartbeats 1000000 in
theorem refPut_any (v : Nat) (hv : v < 4294967296) (w : World) :
    Calls Tryd.prog 64 #[.int .u32 (v : Int)] w fun e w' => e = .returned (.string (bs (putL v))) ∧ New w w' := by
  have HE : Hid (_ = _) := put_eq v hv
  have hcv := conv4
  go_enter Tryd.func64, Tryd.ntmps64
  go_wp2_with fail
  go_ret
  exact ⟨ret_str HE.out, (New.refl _).alloc _⟩
end Go.Proofs.YtkcoclpbkealgaaDoor
