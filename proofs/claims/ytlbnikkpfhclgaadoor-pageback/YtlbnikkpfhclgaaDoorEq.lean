/-
  Two frames held against each other; two rows of four bytes.
-/
import Derived.Test.YtlbnikkpfhclgaaDoorFrame
import Derived.Laws.StructEq
namespace Go.Proofs.YtlbnikkpfhclgaaDoor
open Go.RowKit

theorem part5 (l : List UInt8) (i : Nat) (c : UInt8) (h : l[i]? = some c) (w : World) : (part 5 (cellsL l).toArray i).run Tryd.prog w = .ok (.int .u8 (c.toNat : Int)) w := by
  have h1 : (cellsL l)[i]? = some (.int .u8 (c.toNat : Int)) := cellsL_get h
  simp [part, isAgg, run_underlying Tryd.underlying5, h1]

theorem eq_loop (d : Nat) (p q : List UInt8) (hl : p.length = q.length) (w : World) (K : Option Bool × Unit → Sem Bool) (k0 : K (none, ()) = pure true) (k1 : K (some false, ()) = pure false) : ∀ (m s : Nat), s + m = p.length →
    (Sem.run Tryd.prog
      (forIn (List.range' s m) ((none, ()) : Option Bool × Unit) fun i (_ : Option Bool × Unit) => do
        let x ← part 5 (cellsL p).toArray (i * 1)
        let y ← part 5 (cellsL q).toArray (i * 1)
        let z ← Op.equalIn (d + 1) 5 x y
        if (!z) = true then pure (ForInStep.done (some false, ())) else pure (ForInStep.yield (none, ())))
      w).andThen (fun a w' => Sem.run Tryd.prog (K a) w') = .ok (p.drop s == q.drop s) w
  | 0, s, h => by
    rw [List.drop_eq_nil_of_le (by omega), List.drop_eq_nil_of_le (by omega)]
    simp [k0]
  | m + 1, s, h => by
    have hs : s < p.length := by omega
    have hs' : s < q.length := by omega
    have ih := eq_loop d p q hl w K k0 k1 m (s + 1) (by omega)
    rw [List.range'_succ, List.forIn_cons, Sem.run_bind]
    simp only [Sem.run_bind, Nat.mul_one, part5 p s p[s] (List.getElem?_eq_getElem hs), part5 q s q[s] (List.getElem?_eq_getElem hs'), Result.andThen_ok, run_equalIn_int (P := Tryd.prog) w d 5 .u8 .u8 _ _ Tryd.underlying5]
    rw [List.drop_eq_getElem_cons hs, List.drop_eq_getElem_cons hs', List.cons_beq_cons]
    by_cases e : p[s] = q[s]
    · rw [e]
      simpa using ih
    · have h1 : ((p[s].toNat : Int) == (q[s].toNat : Int)) = false := by
        rw [beq_eq_false_iff_ne]
        intro h2
        exact e (UInt8.toNat_inj.1 (by omega))
      have h2 : (p[s] == q[s]) = false := by rw [beq_eq_false_iff_ne]; exact e
      simp [h1, h2, k1]

theorem eq_bytes (d n : Nat) (t : TypeId) (ht : Tryd.prog.underlying t = some (.array n 5)) (p q : List UInt8) (hp : p.length = n) (hq : q.length = n) (w : World) :
    (Op.equalIn (d + 1 + 1) t (.agg (cellsL p).toArray) (.agg (cellsL q).toArray)).run Tryd.prog w = .ok (p == q) w := by
  obtain ⟨i0, hi0, hz0, hz1, hz2⟩ := info_parts info5
  rw [Op.equalIn]
  simp only [Sem.run_bind, run_underlying ht, Result.andThen_ok]
  simp only [sizeOf, typeInfo, Std.Legacy.Range.forIn_eq_forIn_range', Std.Legacy.Range.size, Sem.run_bind, run_program, hi0, Result.andThen_ok, Sem.run_pure, hz1, Nat.sub_zero, Nat.add_sub_cancel, Nat.div_one]
  exact eq_loop d p q (by omega) w _ rfl rfl n 0 (by omega)

/-- Are two frames one? -/
def eqFr (f h : Fr) : Bool := f.k == h.k && (f.n == h.n && (f.g == h.g && (f.s == h.s && f.p == h.p)))
theorem eqFr_iff (f h : Fr) : eqFr f h = true ↔ f = h := by
  obtain ⟨k, n, g, s, p⟩ := f
  obtain ⟨k', n', g', s', p'⟩ := h
  simp only [eqFr, Bool.and_eq_true, beq_iff_eq, Fr.mk.injEq]
theorem int_beq (a b : Nat) : ((a : Int) == (b : Int)) = (a == b) := by
  by_cases h : a = b
  · subst h; simp
  · have h1 : (a : Int) ≠ (b : Int) := by omega
    rw [beq_eq_false_iff_ne.2 h1, beq_eq_false_iff_ne.2 h]

theorem eq_frames (f h : Fr) (hf : f.p.length = 243) (hh : h.p.length = 243) (w : World) :
    (Op.equalIn 10000 46 (.agg (frL f).toArray) (.agg (frL h).toArray)).run Tryd.prog w = .ok (eqFr f h) w := by
  have e : Tryd.prog.fieldsOf 46 = #[⟨ "kind", 5, 0, false, "", "umbel/page", 0⟩, ⟨ "number", 42, 1, false, "", "umbel/page", 2⟩, ⟨ "gen", 43, 2, false, "", "umbel/page", 4⟩, ⟨ "size", 42, 3, false, "", "umbel/page", 8⟩, ⟨ "payload", 44, 4, false, "", "umbel/page", 10⟩] := by
    unfold Program.fieldsOf; rw [Tryd.underlying46]
  obtain ⟨i0, hi0⟩ : ∃ i, Tryd.prog.info? 44 = some i ∧ i.size = 243 := by
    have h0 : (Tryd.prog.info? 44).map (·.size) = some 243 := by kernel_rfl
    cases hi : Tryd.prog.info? 44 with
    | none => rw [hi] at h0; cases h0
    | some i => rw [hi] at h0; exact ⟨i, rfl, by simpa using h0⟩
  have hx : ∀ f : Fr, f.p.length = 243 → (frL f).toArray.extract 4 (4 + 243) = (cellsL f.p).toArray := fun f hf => by
    have hc : (cellsL f.p).length = 243 := by rw [cellsL_length, hf]
    rw [List.extract_toArray, List.extract_eq_take_drop]
    show ((cellsL f.p).take 243).toArray = _
    rw [List.take_of_length_le (by omega)]
  have p5 : ∀ f : Fr, ∀ w, (part 5 (frL f).toArray 0).run Tryd.prog w = .ok (.int .u8 (f.k : Int)) w := fun f w => by simp [part, isAgg, run_underlying Tryd.underlying5, frL]
  have p1 : ∀ f : Fr, ∀ w, (part 42 (frL f).toArray 1).run Tryd.prog w = .ok (.int .u16 (f.n : Int)) w := fun f w => by simp [part, isAgg, run_underlying Tryd.underlying42, frL]
  have p2 : ∀ f : Fr, ∀ w, (part 43 (frL f).toArray 2).run Tryd.prog w = .ok (.int .u32 (f.g : Int)) w := fun f w => by simp [part, isAgg, run_underlying Tryd.underlying43, frL]
  have p3 : ∀ f : Fr, ∀ w, (part 42 (frL f).toArray 3).run Tryd.prog w = .ok (.int .u16 (f.s : Int)) w := fun f w => by simp [part, isAgg, run_underlying Tryd.underlying42, frL]
  have p4 : ∀ f : Fr, f.p.length = 243 → ∀ w, (part 44 (frL f).toArray 4).run Tryd.prog w = .ok (.agg (cellsL f.p).toArray) w := fun f hf w => by
    have h1 := hx f hf
    simp only [part, isAgg, Sem.run_bind, run_underlying Tryd.underlying44, Result.andThen_ok, sizeOf, typeInfo, run_program, hi0.1, Sem.run_pure, if_true, hi0.2]
    rw [h1]
  rw [show (10000 : Nat) = 9999 + 1 from rfl, run_equalIn_struct w 9999 46 _ _ (by rw [e]; exact Tryd.underlying46) (by kernel_rfl), e]
  have q5 : ∀ a b w, (Op.equalIn 9999 5 (.int .u8 a) (.int .u8 b)).run Tryd.prog w = .ok (a == b) w := fun a b w => run_equalIn_int (P := Tryd.prog) w 9998 5 .u8 .u8 a b Tryd.underlying5
  have q42 : ∀ a b w, (Op.equalIn 9999 42 (.int .u16 a) (.int .u16 b)).run Tryd.prog w = .ok (a == b) w := fun a b w => run_equalIn_int (P := Tryd.prog) w 9998 42 .u16 .u16 a b Tryd.underlying42
  have q43 : ∀ a b w, (Op.equalIn 9999 43 (.int .u32 a) (.int .u32 b)).run Tryd.prog w = .ok (a == b) w := fun a b w => run_equalIn_int (P := Tryd.prog) w 9998 43 .u32 .u32 a b Tryd.underlying43
  have q44 : (Op.equalIn 9999 44 (.agg (cellsL f.p).toArray) (.agg (cellsL h.p).toArray)).run Tryd.prog w = .ok (f.p == h.p) w := eq_bytes 9997 243 44 Tryd.underlying44 f.p h.p hf hh w
  simp only [Op.eqFields, ne_eq, String.reduceEq, not_false_eq_true, if_true, Sem.run_bind, p5, p1, p2, p3, p4 f hf, p4 h hh, Result.andThen_ok, q5, q42, q43, q44, int_beq, Sem.run_ite, Sem.run_pure]
  unfold eqFr
  cases f.k == h.k
  · rfl
  cases f.n == h.n
  · rfl
  cases f.g == h.g
  · rfl
  cases f.s == h.s
  · rfl
  cases f.p == h.p <;> rfl

end Go.Proofs.YtlbnikkpfhclgaaDoor
