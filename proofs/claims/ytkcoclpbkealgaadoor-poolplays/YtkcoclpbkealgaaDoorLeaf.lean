/-
  What a disk's small calls tell: ready, has, act, Length, Limit, Fuse.
-/
import Derived.Test.YtkcoclpbkealgaaDoorTorn
namespace Go.Proofs.YtkcoclpbkealgaaDoor
open Go.RowKit
set_option maxRecDepth 20000

/-- Its cells. -/
theorem Disk.open {w : World} {F : Nat → Prop} {p : Nat} {S : St} (D : Disk w F p S) : ∃ a1 c1 a2 c2,
    w.cell? ⟨p, 0, none⟩ = some (.int .i64 (S.lim : Int)) ∧ w.cell? ⟨p, 1, none⟩ = some (.slice a1 S.ps.length c1) ∧ w.cell? ⟨p, 2, none⟩ = some (.slice a2 S.ws.length c2) ∧ w.cell? ⟨p, 3, none⟩ = some (.int .i64 S.fuse) ∧ w.cell? ⟨p, 4, none⟩ = some (.bool S.down) ∧
    (∀ i, w.frozen? ⟨p, i, none⟩ = false) ∧ Row w p #[.int .i64 (S.lim : Int), .slice a1 S.ps.length c1, .slice a2 S.ws.length c2, .int .i64 S.fuse, .bool S.down] 81 ∧
    Pl w (fun g => F g ∧ g ≠ p) 85 256 (.slice a1 S.ps.length c1) (S.ps.map cellsL) ∧ Pl w (fun g => F g ∧ g ≠ p ∧ (Value.slice a1 S.ps.length c1).ownBlock ≠ some g) 113 257 (.slice a2 S.ws.length c2) (S.ws.map waitL) := by
  obtain ⟨v1, v2, R, h1, h2⟩ := D.has
  obtain ⟨a1, c1, rfl, _⟩ := h1.form
  obtain ⟨a2, c2, rfl, _⟩ := h2.form
  simp only [List.length_map] at R h1 h2
  refine ⟨a1, c1, a2, c2, ?_, ?_, ?_, ?_, ?_, R.frozen, R, h1, h2⟩ <;> (rw [R.cell]; rfl)

theorem ready_nil (w : World) : Calls Tryd.prog 52 #[.pointer none] w fun e w' => e = .returned (.int .i64 1) ∧ w' = w := by
  go_enter Tryd.func52, Tryd.ntmps52
  go_wp2_with fail
  go_ret
  exact ⟨rfl, rfl⟩
theorem ready_any {w : World} {F : Nat → Prop} {p : Nat} {S : St} (D : Disk w F p S) : Calls Tryd.prog 52 #[.pointer (some ⟨p, 0, none⟩)] w fun e w' => e = .returned (.int .i64 (if S.down then 2 else 0)) ∧ w' = w := by
  obtain ⟨a1, c1, a2, c2, h0, h1, h2, h3, h4, hf, _⟩ := D.open
  clear D
  cases hd : S.down
  all_goals
    rw [hd] at h4
    go_enter Tryd.func52, Tryd.ntmps52
    go_wp2_with fail
    go_ret
    exact ⟨rfl, rfl⟩
theorem has_any {w : World} {F : Nat → Prop} {p : Nat} {S : St} (D : Disk w F p S) (i : Int) : Calls Tryd.prog 60 #[.pointer (some ⟨p, 0, none⟩), .int .i64 i] w fun e w' => e = .returned (.bool (decide (0 ≤ i ∧ i < S.ps.length))) ∧ w' = w := by
  obtain ⟨a1, c1, a2, c2, h0, h1, h2, h3, h4, hf, _⟩ := D.open
  clear D
  by_cases hi : 0 ≤ i
  · go_enter Tryd.func60, Tryd.ntmps60
    go_wp2_with fail
    go_ret
    exact ⟨ret_bool (by simp [hi]), rfl⟩
  · go_enter Tryd.func60, Tryd.ntmps60
    go_wp2_with fail
    go_ret
    exact ⟨ret_bool (by simp; omega), rfl⟩
theorem length_any {w : World} {F : Nat → Prop} {p : Nat} {S : St} (D : Disk w F p S) : Calls Tryd.prog 47 #[.pointer (some ⟨p, 0, none⟩)] w fun e w' => e = .returned (.int .i64 (S.ps.length : Int)) ∧ w' = w := by
  obtain ⟨a1, c1, a2, c2, h0, h1, h2, h3, h4, hf, _⟩ := D.open
  clear D
  go_enter Tryd.func47, Tryd.ntmps47
  go_wp2_with fail
  go_ret
  exact ⟨rfl, rfl⟩
theorem length_nil (w : World) : Calls Tryd.prog 47 #[.pointer none] w fun e w' => e = .returned (.int .i64 0) ∧ w' = w := by
  go_enter Tryd.func47, Tryd.ntmps47
  go_wp2_with fail
  go_ret
  exact ⟨rfl, rfl⟩
theorem act_any {w : World} {F : Nat → Prop} {p : Nat} {S : St} (D : Disk w F p S) : Calls Tryd.prog 80 #[.pointer (some ⟨p, 0, none⟩)] w fun e w' => e = .returned (.int .i64 (if S.fuse = 0 then 2 else 0)) ∧ Disk w' F p (if S.fuse = 0 then S.dead else S.burn) ∧ Step F F w w' := by
  obtain ⟨a1, c1, a2, c2, h0, h1, h2, h3, h4, hf, _⟩ := D.open
  have HD : Hid (Disk w F p S) := D
  have h0' := D.ok.lo
  have h1' := D.ok.hi
  clear D
  by_cases hz : S.fuse = 0
  · rw [hz] at h3
    go_enter Tryd.func80, Tryd.ntmps80
    go_wp2_with fail
    go_ret
    exact ⟨rfl, HD.out.down true, Step.setCell _ HD.out.base _⟩
  · by_cases hp : 0 < S.fuse
    · have hw : IntKind.i64.wrap (S.fuse - 1) = S.fuse - 1 := by rw [IntKind.wrap_i64]; omega
      go_enter Tryd.func80, Tryd.ntmps80
      go_wp2_with fail
      go_ret
      refine ⟨rfl, ?_, Step.setCell _ HD.out.base _⟩
      unfold St.burn
      rw [if_pos hp]
      exact HD.out.fuse _ (by omega) (by omega)
    · go_enter Tryd.func80, Tryd.ntmps80
      go_wp2_with fail
      go_ret
      refine ⟨rfl, ?_, Step.refl _ _⟩
      unfold St.burn
      rw [if_neg (by omega)]
      exact HD.out
theorem fuse_nil (n : Int) (w : World) : Calls Tryd.prog 23 #[.pointer none, .int .i64 n] w fun e w' => e = .returned (.tuple #[]) ∧ w' = w := by
  go_enter Tryd.func23, Tryd.ntmps23
  go_wp2_with fail
  refine (ready_nil _).mono ?_
  rintro _ w1 ⟨rfl, rfl⟩
  go_wp2_with fail
  go_end0
  exact ⟨rfl, rfl⟩
theorem fuse_any {w : World} {F : Nat → Prop} {p : Nat} {S : St} (D : Disk w F p S) (n : Int) (hn1 : -9223372036854775808 ≤ n) (hn2 : n ≤ 9223372036854775807) :
    Calls Tryd.prog 23 #[.pointer (some ⟨p, 0, none⟩), .int .i64 n] w fun e w' => e = .returned (.tuple #[]) ∧ Disk w' F p (S.setFuse n) ∧ Step F F w w' := by
  obtain ⟨a1, c1, a2, c2, h0, h1, h2, h3, h4, hf, _⟩ := D.open
  have HD : Hid (Disk w F p S) := D
  have hr := ready_any D
  clear D
  cases hd : S.down
  all_goals
    rw [hd] at hr
    go_enter Tryd.func23, Tryd.ntmps23
    go_wp2_with fail
    refine hr.mono ?_
    rintro _ w1 ⟨rfl, rfl⟩
    go_wp2_with fail
  · go_end0
    refine ⟨rfl, ?_, Step.setCell _ HD.out.base _⟩
    unfold St.setFuse
    have h := HD.out.fuse n hn1 hn2
    rw [hd] at h ⊢
    exact h
  · go_end0
    refine ⟨rfl, ?_, Step.refl _ _⟩
    unfold St.setFuse
    rw [hd]
    exact HD.out

end Go.Proofs.YtkcoclpbkealgaaDoor
