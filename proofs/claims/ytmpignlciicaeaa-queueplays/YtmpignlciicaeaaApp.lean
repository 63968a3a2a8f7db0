/-
  One list appended to a row of the call's own: of no number too.
-/
import Derived.Test.YtmpignlciicaeaaInts
namespace Go.Proofs.Ytmpignlciicaeaa
open Go.RowKit

theorem run_app {w : World} {b cap : Nat} {xs zs : List Int} {p : Option Addr} (R : Row w b cap xs) (A : Arg w p zs) (c : Nat) (hl : xs.length + zs.length ≤ 1000000) (t ty : TypeId) (ht : Try.prog.underlying t = some (.slice 3)) :
    ∃ b' cap' w', Sem.run Try.prog (Builtin.append_ #[t, t] ty #[.slice (some ⟨b, 0, none⟩) xs.length cap, .slice p zs.length c]) w = .ok (.slice (some ⟨b', 0, none⟩) (xs.length + zs.length) cap') w' ∧
      Row w' b' cap' (xs ++ zs) ∧ w.grownBy w' (some b) ∧ (b' = b ∨ b' = w.heap.size) := by
  obtain ⟨i0, hi0, hz0, hz1, hz2⟩ := info_parts info3
  by_cases h0 : zs.length = 0
  · obtain rfl : zs = [] := List.eq_nil_of_length_eq_zero h0
    have hle := R.le
    refine ⟨b, cap, w, ?_, by rw [List.append_nil]; exact R, ⟨rfl, rfl, rfl, Nat.le_refl _, fun _ _ _ => rfl⟩, .inl rfl⟩
    cases p with
    | none => simp [Builtin.append_, run_underlying ht, sizeOf, typeInfo, hi0, Builtin.lenOf, Builtin.firstCells, hle, storeCells]
    | some x =>
      have hld := run_loadCells_list (P := Try.prog) w x [] (fun j v hv => by simp at hv)
      rw [List.length_nil] at hld
      simp [Builtin.append_, run_underlying ht, sizeOf, typeInfo, hi0, Builtin.lenOf, Builtin.firstCells, hle, storeCells, hld]
  · obtain ⟨x, rfl, hx⟩ := A (by omega)
    obtain ⟨b', cap', w', hr, ho, hg, hat, _⟩ := run_append_lies (P := Try.prog) w t ty 0 3 i0 (.int .i64 0) 1 8 ht hi0 hz0 hz1 hz2 rfl (by decide) _ _ _ R.owns x zs.length c (ints zs) (by rw [ints_length]; omega)
      (fun j v hv => by obtain ⟨hj, _⟩ := List.getElem?_eq_some_iff.1 hv; rw [ints_length] at hj; rw [ints_get hj] at hv; cases hv; exact hx j hj)
      (by intro v hv; unfold ints at hv; obtain ⟨z, _, rfl⟩ := List.mem_map.1 hv; rfl) (by omega) (by unfold maxLen; omega) (by omega) (Nat.zero_le _) w.heap.size rfl
    rw [← ints_append] at ho
    refine ⟨b', cap', w', hr, (Row.of_owns ho).1, hg, ?_⟩
    rcases hat with h | h
    · left; simpa [Value.ownBlock] using h.symm
    · exact .inr h

theorem wp_app {w : World} {o : Oper} {a : Act} {K : Act → World → Prop} {Q : Exit → Act → World → Prop} (s x : Operand) (t : TypeId)
    (ho : o.op = .call { callee := .builtin .append, args := #[s, x], argTypes := #[t, t] }) (ht : Try.prog.underlying t = some (.slice 3))
    (b cap n m c : Nat) (xs zs : List Int) (p : Option Addr) (hs : a.eval s = .slice (some ⟨b, 0, none⟩) n cap) (hx : a.eval x = .slice p m c) (hn : xs.length = n) (hm : zs.length = m)
    (R : Row w b cap xs) (A : Arg w p zs) (hl : n + m ≤ 1000000)
    (h : ∀ b' cap' w', Row w' b' cap' (xs ++ zs) → w.grownBy w' (some b) → (b' = b ∨ b' = w.heap.size) → K (a.put o.dst (.slice (some ⟨b', 0, none⟩) (n + m) cap')) w') : o.wp Try.prog a w K Q := by
  subst hn
  subst hm
  obtain ⟨b', cap', w', hr, h2, h3, h4⟩ := run_app R A c hl t o.type ht
  unfold Oper.wp execOp
  simp only [ho, resolve, invoke, builtin, Sem.run_bind, Sem.run_pure, Result.andThen_ok, List.map_toArray, List.map_cons, List.map_nil, hs, hx, hr]
  exact h b' cap' w' h2 h3 h4

theorem wpList_app {w : World} {ops : Array Oper} {rest : List Oper} {o : Oper} {a : Act} {Q : Exit → Act → World → Prop} (hgd : o.guard = none) (s x : Operand) (t : TypeId)
    (ho : o.op = .call { callee := .builtin .append, args := #[s, x], argTypes := #[t, t] }) (ht : Try.prog.underlying t = some (.slice 3))
    (b cap n m c : Nat) (xs zs : List Int) (p : Option Addr) (hs : a.eval s = .slice (some ⟨b, 0, none⟩) n cap) (hx : a.eval x = .slice p m c) (hn : xs.length = n) (hm : zs.length = m)
    (R : Row w b cap xs) (A : Arg w p zs) (hl : n + m ≤ 1000000)
    (h : ∀ b' cap' w', Row w' b' cap' (xs ++ zs) → w.grownBy w' (some b) → (b' = b ∨ b' = w.heap.size) → wpList Try.prog ops Q rest (a.put o.dst (.slice (some ⟨b', 0, none⟩) (n + m) cap')) w') : wpList Try.prog ops Q (o :: rest) a w :=
  wpList_plain hgd fun _ hK => wp_app s x t ho ht b cap n m c xs zs p hs hx hn hm R A hl fun b' cap' w' h2 h3 h4 => hK _ _ (h b' cap' w' h2 h3 h4)

theorem row_new (w : World) : Row (w.alloc (.cells #[] 3)) w.heap.size 0 [] := ⟨#[], heap_alloc_new w _, Nat.le_refl _, by unfold maxLen; omega, rfl, rfl⟩

/-- What the shell's reading of a list gives. -/
theorem arg_of {w : World} {p : Option Addr} {len cap : Nat} {zs : List Int}
    (h : (p = none ∧ len = 0 ∧ cap = 0 ∧ zs = []) ∨ ∃ x, p = some x ∧ len ≤ cap ∧ cap ≤ maxLen ∧ zs.length = cap ∧ (∀ i, i < zs.length → w.cell? (x.add i) = some (.int .i64 (zs.getD i 0))) ∧ ∀ n ∈ zs, (Lit.int .i64 n).wf = true) :
    Arg w p (zs.take len) ∧ (zs.take len).length = len ∧ len ≤ 9223372036854775807 := by
  rcases h with ⟨rfl, rfl, rfl, rfl⟩ | ⟨x, rfl, h1, h2, h3, h4, _⟩
  · exact ⟨fun h => absurd h (by simp), rfl, by omega⟩
  · refine ⟨fun _ => ⟨x, rfl, fun i hi => ?_⟩, by rw [List.length_take]; omega, by unfold maxLen at h2; omega⟩
    rw [List.length_take] at hi
    rw [h4 i (by omega)]
    simp [g, show i < len by omega]

theorem ins_srt (v : Int) (l : List Int) : ins v (srt l) = srt (l ++ [v]) :=
  (ins_rises v (srt_rises l)).eq (srt_rises _) (((ins_perm v _).trans ((srt_perm l).cons v)).trans ((List.perm_append_singleton v l).symm.trans (srt_perm _).symm))
theorem take_next {m : List Int} {i : Nat} (h : i < m.length) : m.take (i + 1) = m.take i ++ [g m i] := by
  rw [g_lt h, List.take_append_getElem]
theorem drop_next {m : List Int} {i : Nat} (h : i < m.length) : m.drop i = g m i :: m.drop (i + 1) := by
  rw [g_lt h]; exact List.drop_eq_getElem_cons h

end Go.Proofs.Ytmpignlciicaeaa
