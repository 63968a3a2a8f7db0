/-
  What the document's own disk tells: act, at, Read, Fuse, Pages.
-/
import Derived.Test.YtkcoclpbkealgaaDoorRef
namespace Go.Proofs.YtkcoclpbkealgaaDoor
open Go.RowKit
set_option maxRecDepth 20000

theorem Pl.text {w : World} {F : Nat → Prop} {g n c : Nat} {ps : List (List UInt8)} (h : Pl w F 9 1 (.slice (some ⟨g, 0, none⟩) n c) (ps.map textL)) {i : Nat} (hi : i < ps.length) : w.cell? ⟨g, i, none⟩ = some (.string (bs (ps.getD i []))) := by
  have hr := h.range (i := i) (by rw [List.length_map]; exact hi)
  have := hr 0 (.string (bs (ps.getD i []))) (by rw [List.getElem_map, List.getD_eq_getElem?_getD, List.getElem?_eq_getElem hi]; rfl)
  rw [Nat.mul_one, Nat.add_zero] at this
  exact this
theorem Pl.tell {w : World} {F : Nat → Prop} {g n c : Nat} {ws : List (Nat × List UInt8)} (h : Pl w F 76 2 (.slice (some ⟨g, 0, none⟩) n c) (ws.map tellL)) {i : Nat} (hi : i < ws.length) :
    w.cell? ⟨g, i * 2, none⟩ = some (.int .i64 ((ws.getD i (0, [])).1 : Int)) ∧ w.cell? ⟨g, i * 2 + 1, none⟩ = some (.string (bs (ws.getD i (0, [])).2)) := by
  have hr := h.range (i := i) (by rw [List.length_map]; exact hi)
  have h0 := hr 0 (.int .i64 ((ws.getD i (0, [])).1 : Int)) (by rw [List.getElem_map, List.getD_eq_getElem?_getD, List.getElem?_eq_getElem hi]; rfl)
  have h1 := hr 1 (.string (bs (ws.getD i (0, [])).2)) (by rw [List.getElem_map, List.getD_eq_getElem?_getD, List.getElem?_eq_getElem hi]; rfl)
  rw [Nat.add_zero] at h0
  exact ⟨h0, h1⟩
theorem latestN_at (ps : List (List UInt8)) (ws : List (Nat × List UInt8)) {k : Nat} (hk : k < ps.length) (i : Nat) : (latestN ps ws (i + 1)).getD k [] = if (ws.getD i (0, [])).1 = k then (ws.getD i (0, [])).2 else (latestN ps ws i).getD k [] := by
  rw [latestN]
  split
  · rename_i h
    rw [h, List.getD_eq_getElem?_getD, List.getElem?_set_self (by rw [latestN_length]; exact hk)]; rfl
  · rename_i h
    rw [List.getD_eq_getElem?_getD, List.getElem?_set_ne h, List.getD_eq_getElem?_getD]

theorem refact_any {w : World} {F : Nat → Prop} {p : Nat} {S : St} (D : Rd w F p S) : Calls Tryd.prog 72 #[.pointer (some ⟨p, 0, none⟩)] w fun e w' => e = .returned (.int .i64 (if S.fuse = 0 then 2 else 0)) ∧ Rd w' F p (if S.fuse = 0 then S.dead else S.burn) ∧ Step F F w w' := by
  obtain ⟨a1, c1, a2, c2, h0, h1, h2, h3, h4, hf, _⟩ := D.open
  have HD : Hid (Rd w F p S) := D
  have h0' := D.ok.lo
  have h1' := D.ok.hi
  clear D
  by_cases hz : S.fuse = 0
  · rw [hz] at h3
    go_enter Tryd.func72, Tryd.ntmps72
    go_wp2_with fail
    go_ret
    exact ⟨rfl, HD.out.down true, Step.setCell _ HD.out.base _⟩
  · by_cases hp : 0 < S.fuse
    · have hw : IntKind.i64.wrap (S.fuse - 1) = S.fuse - 1 := by rw [IntKind.wrap_i64]; omega
      go_enter Tryd.func72, Tryd.ntmps72
      go_wp2_with fail
      go_ret
      refine ⟨rfl, ?_, Step.setCell _ HD.out.base _⟩
      unfold St.burn
      rw [if_pos hp]
      exact HD.out.fuse _ (by omega) (by omega)
    · go_enter Tryd.func72, Tryd.ntmps72
      go_wp2_with fail
      go_ret
      refine ⟨rfl, ?_, Step.refl _ _⟩
      unfold St.burn
      rw [if_neg (by omega)]
      exact HD.out

/-- The fuse that is kept. -/
def St.refFuse (S : St) (n : Int) : St := { S with fuse := if n > -1 then n else -1 }
theorem wpList_max {P : Program} {w : World} {ops : Array Oper} {rest : List Oper} {o : Oper} {a : Act} {Q : Exit → Act → World → Prop} (hgd : o.guard = none) (s t : Operand) (ho : o.op = .call { callee := .builtin .max, args := #[s, t], argTypes := #[3, 3] }) (x y k : Int) (hx : a.eval s = .int .i64 x) (hy : a.eval t = .int .i64 y)
    (hk : (if y > x then y else x) = k) (h : wpList P ops Q rest (a.put o.dst (.int .i64 k)) w) : wpList P ops Q (o :: rest) a w := by
  refine wpList_run hgd _ w ?_ h
  unfold execOp
  simp only [ho, resolve, invoke, builtin, Sem.run_bind, Sem.run_pure, Result.andThen_ok, List.map_toArray, List.map_cons, List.map_nil, hx, hy, run_max_int2, hk]
theorem reffuse_any {w : World} {F : Nat → Prop} {p : Nat} {S : St} (D : Rd w F p S) (n : Int) (hn2 : n ≤ 9223372036854775807) :
    Calls Tryd.prog 24 #[.pointer (some ⟨p, 0, none⟩), .int .i64 n] w fun e w' => e = .returned (.tuple #[]) ∧ Rd w' F p (S.refFuse n) ∧ Step F F w w' := by
  obtain ⟨a1, c1, a2, c2, h0, h1, h2, h3, h4, hf, _⟩ := D.open
  obtain ⟨k, hk, hk1, hk2⟩ : ∃ k, (if n > -1 then n else -1) = k ∧ -1 ≤ k ∧ k ≤ 9223372036854775807 := ⟨_, rfl, by split <;> omega, by split <;> omega⟩
  have f3 := hf 3
  have HD : Hid (Rd w F p S ∧ S.refFuse n = { S with fuse := k }) := ⟨D, by unfold St.refFuse; rw [hk]⟩
  clear D hf
  generalize S.refFuse n = R at HD ⊢
  go_enter Tryd.func24, Tryd.ntmps24
  go_wp2_with (refine wpList_max (by rfl) _ _ (by rfl) (-1) n k (by rfl) (by rfl) hk ?_)
  go_end0
  refine ⟨rfl, ?_, Step.setCell _ HD.out.1.base _⟩
  rw [HD.out.2]
  exact HD.out.1.fuse _ (by omega) hk2

set_option maxRecDepth 20000 in
set_option maxHeartbeats 2000000 in
theorem refat_any {w : World} {F : Nat → Prop} {p : Nat} {S : St} (D : Rd w F p S) (k : Nat) (hk : k < S.ps.length) :
    Calls Tryd.prog 59 #[.pointer (some ⟨p, 0, none⟩), .int .i64 (k : Int)] w fun e w' => e = .returned (.string (bs ((latest S.ps S.ws).getD k []))) ∧ w' = w := by
  obtain ⟨a1, c1, a2, c2, h0, h1, h2, h3, h4, hf, R, P1, P2⟩ := D.open
  obtain ⟨g1, _, e1, _⟩ := P1.full (by rw [List.length_map]; omega)
  rw [List.length_map] at e1
  cases e1
  have hx := P1.text hk
  have hfew := D.ok.few
  have HP : Hid (Pl w (fun g => F g ∧ g ≠ p ∧ (Value.slice (some ⟨g1, 0, none⟩) S.ps.length c1).ownBlock ≠ some g) 76 2 (.slice a2 S.ws.length c2) (S.ws.map tellL)) := P2
  have HL : Hid (∀ i, (latestN S.ps S.ws (i + 1)).getD k [] = if (S.ws.getD i (0, [])).1 = k then (S.ws.getD i (0, [])).2 else (latestN S.ps S.ws i).getD k []) := latestN_at S.ps S.ws hk
  obtain ⟨s0, hs0⟩ : ∃ s0, S.ps.getD k [] = s0 := ⟨_, rfl⟩
  rw [hs0] at hx
  have HZ : Hid ((latestN S.ps S.ws 0).getD k [] = s0) := hs0
  clear hs0
  have HE : Hid (latest S.ps S.ws = latestN S.ps S.ws S.ws.length) := rfl
  have hk' : (k : Int) < (S.ps.length : Int) := by omega
  clear D R P1 P2 hf
  generalize latest S.ps S.ws = lt at HE ⊢
  go_enter Tryd.func59, Tryd.ntmps59
  go_wp2_with fail
  go_loopw [5, 6] (fun u v wr => ∃ i : Nat, u = .string (bs ((latestN S.ps S.ws i).getD k [])) ∧ v = .int .i64 (i : Int) ∧ i ≤ S.ws.length ∧ wr = w) (fun _ v _ => S.ws.length - (intOf v).toNat)
  case atStart => exact ⟨0, by rw [HZ.out], rfl, by omega, by trivial⟩
  case round =>
    obtain ⟨i, rfl, rfl, hi, rfl⟩ := hrel
    by_cases hin : i < S.ws.length
    · have hin' : (i : Int) < (S.ws.length : Int) := by omega
      have hl := HL.out i
      have P2 := HP.out
      obtain ⟨g2, _, e2, _⟩ := P2.full (by rw [List.length_map]; omega)
      rw [List.length_map] at e2
      cases e2
      obtain ⟨hy0, hy1⟩ := P2.tell hin
      generalize S.ws.getD i (0, []) = x at hl hy0 hy1
      obtain ⟨xa, xd⟩ := x
      simp only at hl hy0 hy1
      clear P2
      by_cases he : xa = k
      · rw [if_pos he] at hl
        subst he
        have HH : Hid ((latestN S.ps S.ws (i + 1)).getD xa [] = xd) := hl
        clear hl
        go_wp2_with fail
        exact ⟨⟨i + 1, by rw [HH.out], by go_num, by omega, by trivial⟩, by simp [intOf]; omega⟩
      · rw [if_neg he] at hl
        have he' : ¬ (xa : Int) = (k : Int) := by omega
        have HH : Hid ((latestN S.ps S.ws (i + 1)).getD k [] = (latestN S.ps S.ws i).getD k []) := hl
        clear hl
        go_wp2_with fail
        exact ⟨⟨i + 1, by rw [HH.out], by go_num, by omega, by trivial⟩, by simp [intOf]; omega⟩
    · obtain rfl : i = S.ws.length := by omega
      go_wp2_with fail
      go_ret
      exact ⟨by rw [HE.out]; rfl, rfl⟩

theorem refread_any {w : World} {F : Nat → Prop} {p : Nat} {S : St} (D : Rd w F p S) (at_ : Int) :
    Calls Tryd.prog 45 #[.pointer (some ⟨p, 0, none⟩), .int .i64 at_] w fun e w' => e = .returned (.tuple #[.string (bs (S.read at_).2), .int .i64 (S.read at_).1]) ∧ w' = w := by
  obtain ⟨a1, c1, a2, c2, h0, h1, h2, h3, h4, hf, _⟩ := D.open
  have HR : Hid (S.read at_ = if S.down then (2, []) else if ¬ (0 ≤ at_ ∧ at_ < S.ps.length) then (4, []) else (0, (latest S.ps S.ws).getD at_.toNat [])) := rfl
  generalize S.read at_ = r at HR ⊢
  cases hd : S.down
  · rw [hd] at h4
    rw [hd, if_neg (by simp)] at HR
    by_cases hin : 0 ≤ at_ ∧ at_ < S.ps.length
    · rw [if_neg (by simpa using hin)] at HR
      obtain ⟨k, rfl⟩ : ∃ k : Nat, at_ = (k : Int) := ⟨at_.toNat, by omega⟩
      have hr := refat_any D k (by omega)
      rw [Int.toNat_natCast] at HR
      have hk1 : ¬ (k : Int) < 0 := by omega
      have hk2 : (k : Int) < (S.ps.length : Int) := hin.2
      have hk3 : ¬ (S.ps.length : Int) ≤ (k : Int) := by omega
      clear D hin hf
      go_enter Tryd.func45, Tryd.ntmps45
      go_wp2_with fail
      refine hr.mono ?_
      rintro _ w1 ⟨rfl, rfl⟩
      go_wp2_with fail
      go_ret2
      exact ⟨by rw [HR.out]; rfl, rfl⟩
    · rw [if_pos (by simpa using hin)] at HR
      by_cases hlo : at_ < 0
      · clear D hin hf
        go_enter Tryd.func45, Tryd.ntmps45
        go_wp2_with fail
        go_ret2
        exact ⟨by rw [HR.out]; rfl, rfl⟩
      · have hhi : (S.ps.length : Int) ≤ at_ := by omega
        clear D hin hf
        go_enter Tryd.func45, Tryd.ntmps45
        go_wp2_with fail
        go_ret2
        exact ⟨by rw [HR.out]; rfl, rfl⟩
  · rw [hd] at h4
    rw [hd, if_pos rfl] at HR
    clear D hf
    go_enter Tryd.func45, Tryd.ntmps45
    go_wp2_with fail
    go_ret2
    exact ⟨by rw [HR.out]; rfl, rfl⟩

end Go.Proofs.YtkcoclpbkealgaaDoor
