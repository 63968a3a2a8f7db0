/-
  LongPairs and LongTrie: how much there is of pairs and of nodes.
-/
import Derived.Test.YtelaiblhnhbgiaaDoorTrPairs
namespace Go.Proofs.YtelaiblhnhbgiaaDoor
open Go Go.RowKit
set_option maxRecDepth 20000

theorem wpQuiet_min {P : Program} {ops : Array Oper} {C : World → Prop} {Q : Act → Prop} {a : Act} {o : Oper} {rest : List Oper} (hw : Region.wanted o (yielded ops a.tmps) = true) (s t : Operand) (ho : o.op = .call { callee := .builtin .min, args := #[s, t], argTypes := #[3, 3] }) (x y k : Int) (hx : a.eval s = .int .i64 x) (hy : a.eval t = .int .i64 y)
    (hk : (if y < x then y else x) = k) (h : wpQuiet P ops C Q rest (a.put o.dst (.int .i64 k))) : wpQuiet P ops C Q (o :: rest) a :=
  BigFrame.wpQuiet_want hw fun K hK => ⟨.int .i64 k, fun w _ => by
    unfold Oper.quietAt execOp
    simp only [ho, resolve, invoke, builtin, Sem.run_bind, Sem.run_pure, Result.andThen_ok, List.map_toArray, List.map_cons, List.map_nil, hx, hy, run_min_int2, hk]
    exact ⟨rfl, rfl⟩, hK _ h⟩

section
variable {α : Type} (f : α → Nat × Nat) (M : Nat) (d : α) (l : List α)
/-- How much there is of a row, up to a limit each. -/
def sumK : Nat → Nat
  | 0 => 0
  | k + 1 => sumK k + (1 + min (f (l.getD k d)).1 M + min (f (l.getD k d)).2 M)
theorem sumK_mono (k j : Nat) : sumK f M d l k ≤ sumK f M d l (k + j) := by
  induction j with
  | zero => exact Nat.le_refl _
  | succ j ih => show sumK f M d l k ≤ sumK f M d l (k + j) + _; omega
theorem sumK_le {k n : Nat} (h : k ≤ n) : sumK f M d l k ≤ sumK f M d l n := by
  obtain ⟨j, rfl⟩ : ∃ j, n = k + j := ⟨n - k, by omega⟩
  exact sumK_mono f M d l k j
theorem sumK_ge (n : Nat) : n ≤ sumK f M d l n := by
  induction n with
  | zero => exact Nat.zero_le _
  | succ n ih => show n + 1 ≤ sumK f M d l n + _; omega
def longB : Bool := decide (M < sumK f M d l l.length)
theorem longB_small (h : longB f M d l = false) : l.length ≤ M ∧ ∀ x ∈ l, (f x).1 ≤ M ∧ (f x).2 ≤ M := by
  have h1 := of_decide_eq_false h
  refine ⟨by have := sumK_ge f M d l l.length; omega, fun x hx => ?_⟩
  obtain ⟨j, hj⟩ := List.getElem?_of_mem hx
  have hlt := (List.getElem?_eq_some_iff.1 hj).1
  have h2 := sumK_le f M d l (show j + 1 ≤ l.length by omega)
  have h3 : sumK f M d l (j + 1) = sumK f M d l j + (1 + min (f (l.getD j d)).1 M + min (f (l.getD j d)).2 M) := rfl
  have h4 : l.getD j d = x := by rw [List.getD_eq_getElem?_getD, hj]; rfl
  rw [h4] at h3
  omega
end
def lenP (p : Pr) : Nat × Nat := (p.1.length, p.2.length)
def lenN (m : Nd) : Nat × Nat := (m.path.length, m.val.length)

set_option maxHeartbeats 2000000 in
theorem longPairs_any {w : World} {v : Value} {l : List Pr} (P : Ls w 2 v (l.map prC)) (h63 : l.length ≤ 9223372036854775807) :
    Calls Tryd.prog 8 #[v] w fun e w' => e = .returned (.bool (longB lenP 3000 ([], []) l)) ∧ New w w' := by
  obtain ⟨a, c, rfl, hc, HS⟩ := P.open ([], [])
  clear P
  go_enter Tryd.func8, Tryd.ntmps8
  go_wp2_with fail
  go_loopw [3, 4] (fun n i wr => ∃ k : Nat, k ≤ l.length ∧ i = .int .i64 (k : Int) ∧ n = .int .i64 ((sumK lenP 3000 ([], []) l k : Nat) : Int) ∧ sumK lenP 3000 ([], []) l k ≤ 20000 ∧ New w wr) (fun _ i _ => l.length - (intOf i).toNat)
  case atStart => exact ⟨0, by omega, rfl, rfl, by show 0 ≤ 20000; omega, New.refl w⟩
  case round =>
    obtain ⟨k, hk, rfl, rfl, hsum, N⟩ := hrel
    by_cases hlt : k < l.length
    · have n1 : decide ((k : Int) < (l.length : Int)) = true := decide_eq_true (by omega)
      by_cases h3 : sumK lenP 3000 ([], []) l k ≤ 3000
      · have n2 : decide (((sumK lenP 3000 ([], []) l k : Nat) : Int) ≤ 3000) = true := decide_eq_true (by omega)
        obtain ⟨g, o, rfl, hg, hr⟩ := HS.out (by omega)
        have hkM := sumK_ge lenP 3000 ([], []) l k
        obtain ⟨p, hp⟩ : ∃ p, l.getD k ([], []) = p := ⟨_, rfl⟩
        have q1 : ∀ q : NewW wr, q.v.cell? ⟨g, o + k * 2 + 0, none⟩ = some (.string (bs p.1)) := fun q => by rw [← hp]; exact hr q.v (N.trans q.h) k hlt 0 _ rfl
        have q2 : ∀ q : NewW wr, q.v.cell? ⟨g, o + k * 2 + 1, none⟩ = some (.string (bs p.2)) := fun q => by rw [← hp]; exact hr q.v (N.trans q.h) k hlt 1 _ rfl
        rw [Nat.add_zero] at q1
        obtain ⟨y, hy⟩ : ∃ y, min p.1.length 3000 = y := ⟨_, rfl⟩
        obtain ⟨z, hz⟩ : ∃ z, min p.2.length 3000 = z := ⟨_, rfl⟩
        have hy3 : y ≤ 3000 := by omega
        have hz3 : z ≤ 3000 := by omega
        have hm1 : (if (3000 : Int) < ((bs p.1).size : Int) then (3000 : Int) else ((bs p.1).size : Int)) = (y : Int) := by rw [bs_size]; split <;> omega
        have hm2 : (if (3000 : Int) < ((bs p.2).size : Int) then (3000 : Int) else ((bs p.2).size : Int)) = (z : Int) := by rw [bs_size]; split <;> omega
        have HN : Hid (sumK lenP 3000 ([], []) l (k + 1) = sumK lenP 3000 ([], []) l k + (1 + y + z)) := by
          show sumK lenP 3000 ([], []) l k + (1 + min ((lenP (l.getD k ([], []))).1) 3000 + min ((lenP (l.getD k ([], []))).2) 3000) = _
          rw [hp, ← hy, ← hz]; rfl
        have hne := NewW.ne wr
        clear hy hz hp hr
        generalize sumK lenP 3000 ([], []) l k = t at *
        generalize bs p.1 = A at *
        generalize bs p.2 = B at *
        go_wp2_with fail
        refine region_new wr (New.refl wr) (by kernel_rfl) (by kernel_rfl) ?_
        iterate 7 (go_big_quiet_step (fail))
        refine wpQuiet_min (by rfl) (.tmp 21) (.const (.int .i64 3000)) (by rfl) (A.size : Int) 3000 (y : Int) (by rfl) (by rfl) hm1 ?_
        simp only [Act.put, List.setIfInBounds_toArray, List.set_cons_zero, List.set_cons_succ]
        iterate 7 (go_big_quiet_step (fail))
        refine wpQuiet_min (by rfl) (.tmp 29) (.const (.int .i64 3000)) (by rfl) (B.size : Int) 3000 (z : Int) (by rfl) (by rfl) hm2 ?_
        simp only [Act.put, List.setIfInBounds_toArray, List.set_cons_zero, List.set_cons_succ]
        repeat (go_big_quiet_step (fail))
        refine wpQuiet_nil ?_
        rintro W3 ⟨⟨_, k3⟩, rfl⟩
        clear hm1 hm2 q1 q2 hne
        go_wp2_with fail
        exact ⟨⟨k + 1, by omega, by go_num, by rw [HN.out]; go_num, by rw [HN.out]; omega, N.trans k3⟩, by simp [intOf]; omega⟩
      · have n2 : decide (((sumK lenP 3000 ([], []) l k : Nat) : Int) ≤ 3000) = false := decide_eq_false (by omega)
        have n3 : decide ((3000 : Int) < ((sumK lenP 3000 ([], []) l k : Nat) : Int)) = true := decide_eq_true (by omega)
        have HL : Hid (longB lenP 3000 ([], []) l = true) := decide_eq_true (by have := sumK_le lenP 3000 ([], []) l hk; omega)
        go_wp2_with fail
        go_ret
        exact ⟨ret_bool HL.out.symm, N⟩
    · have n1 : decide ((k : Int) < (l.length : Int)) = false := decide_eq_false (by omega)
      have HL : Hid (decide ((3000 : Int) < ((sumK lenP 3000 ([], []) l k : Nat) : Int)) = longB lenP 3000 ([], []) l) := by
        show _ = _
        unfold longB
        rw [show k = l.length by omega, Bool.eq_iff_iff, decide_eq_true_eq, decide_eq_true_eq]; omega
      go_wp2_with fail
      go_ret
      exact ⟨ret_bool HL.out, N⟩

set_option maxHeartbeats 2000000 in
theorem longTrie_any {w : World} {v : Value} {l : List Nd} (P : Ls w 20 v (l.map ndC)) (h63 : l.length ≤ 9223372036854775807) :
    Calls Tryd.prog 9 #[v] w fun e w' => e = .returned (.bool (longB lenN 4000 noNd l)) ∧ New w w' := by
  obtain ⟨a, c, rfl, hc, HS⟩ := P.open noNd
  clear P
  go_enter Tryd.func9, Tryd.ntmps9
  go_wp2_with fail
  go_loopw [3, 4] (fun n i wr => ∃ k : Nat, k ≤ l.length ∧ i = .int .i64 (k : Int) ∧ n = .int .i64 ((sumK lenN 4000 noNd l k : Nat) : Int) ∧ sumK lenN 4000 noNd l k ≤ 20000 ∧ New w wr) (fun _ i _ => l.length - (intOf i).toNat)
  case atStart => exact ⟨0, by omega, rfl, rfl, by show 0 ≤ 20000; omega, New.refl w⟩
  case round =>
    obtain ⟨k, hk, rfl, rfl, hsum, N⟩ := hrel
    by_cases hlt : k < l.length
    · have n1 : decide ((k : Int) < (l.length : Int)) = true := decide_eq_true (by omega)
      by_cases h3 : sumK lenN 4000 noNd l k ≤ 4000
      · have n2 : decide (((sumK lenN 4000 noNd l k : Nat) : Int) ≤ 4000) = true := decide_eq_true (by omega)
        obtain ⟨g, o, rfl, hg, hr⟩ := HS.out (by omega)
        have hkM := sumK_ge lenN 4000 noNd l k
        obtain ⟨p, hp⟩ : ∃ p, l.getD k noNd = p := ⟨_, rfl⟩
        have q1 : ∀ q : NewW wr, q.v.cell? ⟨g, o + k * 20 + 1, none⟩ = some (.string (bs p.path)) := fun q => by rw [← hp]; exact hr q.v (N.trans q.h) k hlt 1 _ rfl
        have q2 : ∀ q : NewW wr, q.v.cell? ⟨g, o + k * 20 + 3, none⟩ = some (.string (bs p.val)) := fun q => by rw [← hp]; exact hr q.v (N.trans q.h) k hlt 3 _ rfl
        obtain ⟨y, hy⟩ : ∃ y, min p.path.length 4000 = y := ⟨_, rfl⟩
        obtain ⟨z, hz⟩ : ∃ z, min p.val.length 4000 = z := ⟨_, rfl⟩
        have hy3 : y ≤ 4000 := by omega
        have hz3 : z ≤ 4000 := by omega
        have hm1 : (if (4000 : Int) < ((bs p.path).size : Int) then (4000 : Int) else ((bs p.path).size : Int)) = (y : Int) := by rw [bs_size]; split <;> omega
        have hm2 : (if (4000 : Int) < ((bs p.val).size : Int) then (4000 : Int) else ((bs p.val).size : Int)) = (z : Int) := by rw [bs_size]; split <;> omega
        have HN : Hid (sumK lenN 4000 noNd l (k + 1) = sumK lenN 4000 noNd l k + (1 + y + z)) := by
          show sumK lenN 4000 noNd l k + (1 + min ((lenN (l.getD k noNd)).1) 4000 + min ((lenN (l.getD k noNd)).2) 4000) = _
          rw [hp, ← hy, ← hz]; rfl
        have hne := NewW.ne wr
        clear hy hz hp hr
        generalize sumK lenN 4000 noNd l k = t at *
        generalize bs p.path = A at *
        generalize bs p.val = B at *
        go_wp2_with fail
        refine region_new wr (New.refl wr) (by kernel_rfl) (by kernel_rfl) ?_
        iterate 7 (go_big_quiet_step (fail))
        refine wpQuiet_min (by rfl) (.tmp 21) (.const (.int .i64 4000)) (by rfl) (A.size : Int) 4000 (y : Int) (by rfl) (by rfl) hm1 ?_
        simp only [Act.put, List.setIfInBounds_toArray, List.set_cons_zero, List.set_cons_succ]
        iterate 7 (go_big_quiet_step (fail))
        refine wpQuiet_min (by rfl) (.tmp 29) (.const (.int .i64 4000)) (by rfl) (B.size : Int) 4000 (z : Int) (by rfl) (by rfl) hm2 ?_
        simp only [Act.put, List.setIfInBounds_toArray, List.set_cons_zero, List.set_cons_succ]
        repeat (go_big_quiet_step (fail))
        refine wpQuiet_nil ?_
        rintro W3 ⟨⟨_, k3⟩, rfl⟩
        clear hm1 hm2 q1 q2 hne
        go_wp2_with fail
        exact ⟨⟨k + 1, by omega, by go_num, by rw [HN.out]; go_num, by rw [HN.out]; omega, N.trans k3⟩, by simp [intOf]; omega⟩
      · have n2 : decide (((sumK lenN 4000 noNd l k : Nat) : Int) ≤ 4000) = false := decide_eq_false (by omega)
        have n3 : decide ((4000 : Int) < ((sumK lenN 4000 noNd l k : Nat) : Int)) = true := decide_eq_true (by omega)
        have HL : Hid (longB lenN 4000 noNd l = true) := decide_eq_true (by have := sumK_le lenN 4000 noNd l hk; omega)
        go_wp2_with fail
        go_ret
        exact ⟨ret_bool HL.out.symm, N⟩
    · have n1 : decide ((k : Int) < (l.length : Int)) = false := decide_eq_false (by omega)
      have HL : Hid (decide ((4000 : Int) < ((sumK lenN 4000 noNd l k : Nat) : Int)) = longB lenN 4000 noNd l) := by
        show _ = _
        unfold longB
        rw [show k = l.length by omega, Bool.eq_iff_iff, decide_eq_true_eq, decide_eq_true_eq]; omega
      go_wp2_with fail
      go_ret
      exact ⟨ret_bool HL.out, N⟩

end Go.Proofs.YtelaiblhnhbgiaaDoor
