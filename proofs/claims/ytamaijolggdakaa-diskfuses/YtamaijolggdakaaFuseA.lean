/-
  DiskFuses walked: with a fuse of k actions just k writes are done.
-/
import Derived.Test.YtamaijolggdakaaWakes
namespace Go.Proofs.Ytamaijolggdakaa
open Go.RowKit

def z4 : List (List UInt8) := [zeros, zeros, zeros, zeros]
def fs (k i : Nat) (ws : List (Nat × List UInt8)) : St := ⟨4, z4, ws, ((k - i : Nat) : Int), decide (k < i)⟩
theorem fs_write (k i : Nat) (ws : List (Nat × List UInt8)) (h : ws.length = min k i) (v : UInt8) : ∃ ws', ws'.length = min k (i + 1) ∧ (fs k i ws).write ((i % 4 : Nat) : Int) (fillL v) = (if i < k then 0 else 2, fs k (i + 1) ws') := by
  have h4 : ((i % 4 : Nat) : Int) < ((fs k i ws).ps.length : Int) := by show _ < ((4 : Nat) : Int); omega
  unfold St.write
  by_cases h1 : k < i
  · refine ⟨ws, by omega, ?_⟩
    rw [if_pos (by show decide _ = true; rw [decide_eq_true h1]), if_neg (by omega)]
    unfold fs
    rw [decide_eq_true h1, decide_eq_true (by omega : k < i + 1), show k - i = k - (i + 1) by omega]
  · rw [if_neg (by show ¬ decide _ = true; rw [decide_eq_false h1]; decide), if_neg (by rw [fillL_length]; decide), if_neg (by omega)]
    by_cases h2 : i < k
    · refine ⟨ws ++ [(i % 4, fillL v)], by rw [List.length_append, List.length_singleton]; omega, ?_⟩
      rw [if_neg (by show ¬ ((k - i : Nat) : Int) = 0; omega), if_pos h2]
      unfold fs St.burn
      rw [if_pos (by show 0 < ((k - i : Nat) : Int); omega), decide_eq_false h1, decide_eq_false (by omega : ¬ k < i + 1), show ((k - (i + 1) : Nat) : Int) = ((k - i : Nat) : Int) - 1 by omega, Int.toNat_natCast]
    · refine ⟨ws, by omega, ?_⟩
      rw [if_pos (by show ((k - i : Nat) : Int) = 0; omega), if_neg h2]
      unfold fs St.dead
      rw [decide_eq_true (by omega : k < i + 1), show k - i = k - (i + 1) by omega]
theorem fs_read (k i : Nat) (ws : List (Nat × List UInt8)) : ((fs k i ws).read 0).1 = if k < i then 2 else 0 := by
  unfold St.read
  by_cases h1 : k < i
  · rw [if_pos (by show decide _ = true; rw [decide_eq_true h1]), if_pos h1]
  · rw [if_neg (by show ¬ decide _ = true; rw [decide_eq_false h1]; decide), if_neg h1, if_neg (by show ¬ ¬ (_ ∧ (0 : Int) < ((4 : Nat) : Int)); omega)]
theorem fs_sync (k i : Nat) (ws : List (Nat × List UInt8)) : ((fs k i ws).sync).1 = if i < k then 0 else 2 := by
  unfold St.sync
  by_cases h1 : k < i
  · rw [if_pos (by show decide _ = true; rw [decide_eq_true h1]), if_neg (by omega)]
  · rw [if_neg (by show ¬ decide _ = true; rw [decide_eq_false h1]; decide)]
    by_cases h2 : i < k
    · rw [if_neg (by show ¬ ((k - i : Nat) : Int) = 0; omega), if_pos h2]
    · rw [if_pos (by show ((k - i : Nat) : Int) = 0; omega), if_neg h2]
theorem fs_lens (k i : Nat) (ws : List (Nat × List UInt8)) : ((fs k i ws).sync.2).ps.length = 4 := by
  unfold St.sync
  split
  · rfl
  split
  · rfl
  · show (latest _ _).length = 4
    rw [latest_length]; rfl
/-- Behind a crash with no choice. -/
theorem crash_none (S : St) : S.crash [] = ⟨S.lim, S.ps, [], -1, false⟩ := by
  unfold St.crash crashed
  rw [List.length_nil, Nat.zero_min]
  rfl
theorem calm_read {lim : Nat} {ps : List (List UInt8)} (i : Nat) (h : i < ps.length) : (St.read ⟨lim, ps, [], -1, false⟩ (i : Int)) = (0, ps.getD i []) := by
  unfold St.read
  rw [if_neg Bool.false_ne_true, if_neg (by show ¬ ¬ (_ ∧ (i : Int) < (ps.length : Int)); omega), Int.toNat_natCast]
  rfl
theorem calm_sync {lim : Nat} {ps : List (List UInt8)} : (St.sync ⟨lim, ps, [], -1, false⟩) = (0, ⟨lim, ps, [], -1, false⟩) := rfl

end Go.Proofs.Ytamaijolggdakaa
