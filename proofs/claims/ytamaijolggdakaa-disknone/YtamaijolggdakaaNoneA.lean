/-
  DiskNone walked: a disk that nobody made has nothing.
-/
import Derived.Test.YtamaijolggdakaaWakes
namespace Go.Proofs.Ytamaijolggdakaa
open Go.RowKit

theorem shrink_nil (n : Int) (w : World) : Calls Try.prog 21 #[.pointer none, .int .i64 n] w fun e w' => e = .returned (.int .i64 1) ∧ w' = w := by
  go_enter Try.func21, Try.ntmps21
  go_wp2_with fail
  refine (ready_nil w).mono ?_
  rintro _ w1 ⟨rfl, rfl⟩
  go_wp2_with fail
  go_ret
  exact ⟨rfl, rfl⟩

set_option maxRecDepth 40000 in
set_option maxHeartbeats 8000000 in
theorem none_walk (k a : Int) (v : UInt8) (c : Option Addr) (n cap : Nat) (w : World) : Calls Try.prog 6 #[.agg #[.int .i64 k, .int .i64 a, .int .u8 (v.toNat : Int), .slice c n cap]] w fun e w' => e = .returned (.bool true) ∧ New w w' := by
  go_enter Try.func6, Try.ntmps6
  go_wp2_with fail
  refine (read_nil a _).mono ?_
  rintro _ w1 ⟨rfl, rfl⟩
  go_wp2_with fail
  refine (fuse_nil a _).mono ?_
  rintro _ w1 ⟨rfl, rfl⟩
  go_wp2_with fail
  refine (crash_nil c n cap _).mono ?_
  rintro _ w1 ⟨rfl, rfl⟩
  go_wp2_with fail
  obtain ⟨W, hW, hN, R⟩ : ∃ W, W = w.alloc (.cells #[.int .i64 k, .int .i64 a, .int .u8 (v.toNat : Int), .slice c n cap] 32) ∧ New w W ∧ Row W w.heap.size #[.int .i64 k, .int .i64 a, .int .u8 (v.toNat : Int), .slice c n cap] 32 := ⟨_, rfl, (New.refl w).alloc _, Row.new w _ _⟩
  rw [← hW]
  clear hW
  have l1 : ∀ q : NewW W, q.v.cell? ⟨w.heap.size, 1, none⟩ = some (.int .i64 a) := fun q => NewW.cell (R.cell _) q
  have l2 : ∀ q : NewW W, q.v.cell? ⟨w.heap.size, 2, none⟩ = some (.int .u8 (v.toNat : Int)) := fun q => NewW.cell (R.cell _) q
  have hne := NewW.ne W
  have HN : Hid (New w W) := hN
  clear R hN
  refine region_first 57 0 W (New.refl W) (by kernel_rfl) (by kernel_rfl) ?_
  simp only [List.take_succ_cons, List.drop_succ_cons, List.drop_zero, List.take_nil]
  iterate 57 (go_big_quiet_step (first
    | (go_at_call 13; exact Calls.neww (fill_any v _))
    | (go_at_call 12; exact Calls.neww_same (write_nil _ _ _))
    | (go_at_call 17; exact Calls.neww_same (sync_nil _))
    | (go_at_call 19; exact Calls.neww_same (grow_nil _ _))
    | (go_at_call 21; exact Calls.neww_same (shrink_nil _ _))
    | (go_at_call 27; exact Calls.neww_same (length_nil _))
    | (go_at_call 28; exact Calls.neww_same (limit_nil _))
    | (go_at_call 32; exact Calls.neww_same (pages_nil _))
    | (go_at_call 30; exact Calls.neww_same (waiting_nil _))
    | (go_at_call 11; exact Calls.neww (wakes_any _))))
  refine wpQuiet_nil ?_
  rintro w17 ⟨⟨_, N17⟩, rfl⟩
  go_wp2_with fail
  go_ret
  exact ⟨rfl, HN.out.trans N17⟩

end Go.Proofs.Ytamaijolggdakaa
