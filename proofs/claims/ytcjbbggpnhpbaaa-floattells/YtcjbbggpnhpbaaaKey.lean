/-
  What Key returns: the eight bytes of the number that it spells, the highest first, for every word below 2^64.
-/
import Derived.Test.YtcjbbggpnhpbaaaLeafB
import Derived.RowKit3
import Derived.Laws.BytesString
namespace Go.Proofs.Ytcjbbggpnhpbaaa
open Go.RowKit
open Plain

/-- The eight bytes of a number, the highest first. -/
def keyL (n : Nat) : List UInt8 := [UInt8.ofNat (n / 72057594037927936 % 256), UInt8.ofNat (n / 281474976710656 % 256), UInt8.ofNat (n / 1099511627776 % 256), UInt8.ofNat (n / 4294967296 % 256), UInt8.ofNat (n / 16777216 % 256), UInt8.ofNat (n / 65536 % 256), UInt8.ofNat (n / 256 % 256), UInt8.ofNat (n % 256)]
def keyS (n : Nat) : ByteArray := ⟨(keyL n).toArray⟩

theorem Grown.trans {a b c : World} (h : Grown a b) (k : Grown b c) : Grown a c :=
  ⟨World.keptBut_trans h.1 k.1, fun x => (k.2.1 x).trans (h.2.1 x), Nat.le_trans h.2.2 k.2.2⟩

theorem conv8 (a0 a1 a2 a3 a4 a5 a6 a7 : Int) (w : World) :
    (convert 44 9 (.slice (some ⟨w.heap.size, 0, none⟩) 8 8)).run Try.prog (w.alloc (.cells #[.int .u8 a0, .int .u8 a1, .int .u8 a2, .int .u8 a3, .int .u8 a4, .int .u8 a5, .int .u8 a6, .int .u8 a7] 43)) =
      .ok (.string ⟨#[UInt8.ofNat a0.toNat, UInt8.ofNat a1.toNat, UInt8.ofNat a2.toNat, UInt8.ofNat a3.toNat, UInt8.ofNat a4.toNat, UInt8.ofNat a5.toNat, UInt8.ofNat a6.toNat, UInt8.ofNat a7.toNat]⟩)
        (w.alloc (.cells #[.int .u8 a0, .int .u8 a1, .int .u8 a2, .int .u8 a3, .int .u8 a4, .int .u8 a5, .int .u8 a6, .int .u8 a7] 43)) := by
  rw [run_convert_bytes_string _ 44 9 5 _ 8 8 Try.underlying44 Try.underlying5 Try.underlying9]
  rw [run_bytesToString _ ⟨w.heap.size, 0, none⟩ 8 8 [a0, a1, a2, a3, a4, a5, a6, a7]]
  · rfl
  · refine run_loadCells_list (P := Try.prog) _ ⟨w.heap.size, 0, none⟩ [.int .u8 a0, .int .u8 a1, .int .u8 a2, .int .u8 a3, .int .u8 a4, .int .u8 a5, .int .u8 a6, .int .u8 a7] ?_
    intro j v hj
    have hc := cell_of_row _ w.heap.size j _ _ _ (heap_alloc_new w (.cells #[.int .u8 a0, .int .u8 a1, .int .u8 a2, .int .u8 a3, .int .u8 a4, .int .u8 a5, .int .u8 a6, .int .u8 a7] 43))
    have ha : (Addr.add ⟨w.heap.size, 0, none⟩ j) = ⟨w.heap.size, j, none⟩ := by simp [Addr.add]; intro h; exact h.symm
    rw [ha, hc]
    simpa using hj

theorem key_eq (n : Nat) (hl : n < 18446744073709551616) :
    (⟨#[UInt8.ofNat ((n : Int) / 256 / 256 / 256 / 256 / 256 / 256 / 256).toNat, UInt8.ofNat ((n : Int) / 256 / 256 / 256 / 256 / 256 / 256 % 256).toNat, UInt8.ofNat ((n : Int) / 256 / 256 / 256 / 256 / 256 % 256).toNat, UInt8.ofNat ((n : Int) / 256 / 256 / 256 / 256 % 256).toNat, UInt8.ofNat ((n : Int) / 256 / 256 / 256 % 256).toNat, UInt8.ofNat ((n : Int) / 256 / 256 % 256).toNat, UInt8.ofNat ((n : Int) / 256 % 256).toNat, UInt8.ofNat ((n : Int) % 256).toNat]⟩ : ByteArray) = keyS n := by
  have e7 : ((n : Int) / 256 / 256 / 256 / 256 / 256 / 256 / 256).toNat = n / 72057594037927936 % 256 := by omega
  have e6 : ((n : Int) / 256 / 256 / 256 / 256 / 256 / 256 % 256).toNat = n / 281474976710656 % 256 := by omega
  have e5 : ((n : Int) / 256 / 256 / 256 / 256 / 256 % 256).toNat = n / 1099511627776 % 256 := by omega
  have e4 : ((n : Int) / 256 / 256 / 256 / 256 % 256).toNat = n / 4294967296 % 256 := by omega
  have e3 : ((n : Int) / 256 / 256 / 256 % 256).toNat = n / 16777216 % 256 := by omega
  have e2 : ((n : Int) / 256 / 256 % 256).toNat = n / 65536 % 256 := by omega
  have e1 : ((n : Int) / 256 % 256).toNat = n / 256 % 256 := by omega
  have e0 : ((n : Int) % 256).toNat = n % 256 := by omega
  rw [e7, e6, e5, e4, e3, e2, e1, e0]
  rfl

theorem ret_str {a b : ByteArray} (h : a = b) : Ending.returned (.string a) = .returned (.string b) := by rw [h]

set_option maxHeartbeats 1000000 in
theorem key_core (x n : Nat) (hx : x < 18446744073709551616) (hn : Hid (keyN x = n)) (hl : n < 18446744073709551616) (w : World) :
    Calls Try.prog 11 #[.float .f64 x] w fun e w' => e = .returned (.string (keyS n)) ∧ Grown w w' := by
  have hp := plainN_lt x hx
  have hk : Hid (turnN (plainN x) = n) := hn
  have HE : Hid (_ = _) := key_eq n hl
  go_enter Try.func11, Try.ntmps11
  go_wp2_with fail
  refine (plain_any _ _).mono ?_
  rintro e w' ⟨rfl, rfl⟩
  go_wp2_with fail
  refine (turn_any _ hp _).mono ?_
  rintro e w' ⟨rfl, rfl⟩
  rw [hk.out]
  clear hp hk hn hx
  have hcv := conv8
  go_wp2_with fail
  refine wp_loop_rounds 9 ?_
  rw [rounds_succ]; go_wp2
  rw [rounds_succ]; go_wp2
  rw [rounds_succ]; go_wp2
  rw [rounds_succ]; go_wp2
  rw [rounds_succ]; go_wp2
  rw [rounds_succ]; go_wp2
  rw [rounds_succ]; go_wp2
  rw [rounds_succ]; go_wp2
  rw [rounds_succ]; go_wp2
  go_ret
  exact ⟨ret_str HE.out, (Grown.refl _).alloc _ _⟩

theorem key_any (x : Nat) (hx : x < 18446744073709551616) (w : World) :
    Calls Try.prog 11 #[.float .f64 x] w fun e w' => e = .returned (.string (keyS (keyN x))) ∧ Grown w w' :=
  key_core x (keyN x) hx rfl (keyN_lt x hx) w

end Go.Proofs.Ytcjbbggpnhpbaaa
