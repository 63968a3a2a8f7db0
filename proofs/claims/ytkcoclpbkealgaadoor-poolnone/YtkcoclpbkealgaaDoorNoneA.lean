/-
  PoolNone, walked.
-/
import Derived.Test.YtkcoclpbkealgaaDoorQWakes
namespace Go.Proofs.YtkcoclpbkealgaaDoor
open Go.RowKit
set_option maxRecDepth 20000

set_option maxHeartbeats 1000000 in
theorem mod_some (a : Int) (w : World) : Calls Tryd.prog 36 #[.int .i64 a, .int .i64 64] w fun e w' => ∃ z, e = .returned (.int .i64 z) ∧ w' = w := by
  go_enter Tryd.func36, Tryd.ntmps36
  go_wp2_with fail
  go_ret
  exact ⟨_, rfl, rfl⟩

set_option maxHeartbeats 4000000 in
theorem none_walk (k a : Int) (u : UInt8) (_ : (Lit.int .i64 k).wf = true) (_ : (Lit.int .i64 a).wf = true) (w : World) (hT : Tab w) :
    Calls Tryd.prog 5 #[.agg #[.int .i64 k, .int .i64 a, .int .u8 (u.toNat : Int)]] w fun e w' => e = .returned (.bool true) ∧ New w w' := by
  have HT : Hid (Tab w) := hT
  clear hT
  go_enter Tryd.func5, Tryd.ntmps5
  go_wp2_with (first
    | (refine wpList_box_at (by rfl) 1 (by rfl) 40 _ (by rfl) _ (by rfl) ?_; intro W1 R1 N1; have a1 : W1.cell? ⟨w.heap.size, 1, none⟩ = some (.int .i64 a) := R1.has 1 (by rfl)))
  refine (fetch_nil a _).mono ?_
  rintro _ _ ⟨rfl, rfl⟩
  go_wp2_with fail
  refine (mod_some a _).mono ?_
  rintro _ _ ⟨z, rfl, rfl⟩
  go_wp2_with fail
  refine (newpool_nil _).mono ?_
  rintro _ W1 ⟨rfl, rfl⟩
  have a2 : W1.cell? ⟨w.heap.size, 2, none⟩ = some (.int .u8 (u.toNat : Int)) := R1.has 2 (by rfl)
  have c1 := fun p => NewW.cell a1 p
  have c2 := fun p => NewW.cell a2 p
  have hne := NewW.ne W1
  have HTab : Hid (∀ p : NewW W1, Tab p.v) := fun p => HT.out.after (N1.trans p.h)
  clear a1 a2 R1
  go_wp2_with fail
  refine region_first 48 0 W1 (New.refl W1) (by kernel_rfl) (by kernel_rfl) ?_
  simp only [List.take_succ_cons, List.drop_succ_cons, List.drop_zero, List.take_nil]
  iterate 48 (go_big_quiet_step (first
    | (go_at_call 16; exact Calls.neww_same (unpin_nil _ _))
    | (go_at_call 19; exact Calls.neww (good_any 1 (by decide) _ _))
    | (go_at_call 18; exact Calls.neww_same (put_nil_any _ _ _))
    | (go_at_call 21; exact Calls.neww_same (flush_nil _))
    | (go_at_call 28; exact Calls.neww_same (held_nil _))
    | (go_at_call 30; exact Calls.neww_same (dirty_nil _))
    | (go_at_call 8; exact Calls.neww (wakes8 _ (HTab.out _)))))
  refine wpQuiet_nil ?_
  rintro w5 ⟨⟨_, hk5⟩, rfl⟩
  go_wp2_with fail
  go_ret
  exact ⟨rfl, N1.trans hk5⟩
end Go.Proofs.YtkcoclpbkealgaaDoor
