/-
  Two texts' pieces held against each other.
-/
import Derived.Test.YtecamiefpdkjoaaDoorNdItem
import Derived.Laws.StructEq
namespace Go.Proofs.YtecamiefpdkjoaaDoor
open Go.RowKit
set_option maxRecDepth 20000
set_option linter.unusedVariables false

def strL (l : List (List UInt8)) : List Value := l.map fun h => Value.string (bs h)
theorem strL_length (l : List (List UInt8)) : (strL l).length = l.length := by unfold strL; simp
theorem strL_get {l : List (List UInt8)} {i : Nat} {c : List UInt8} (h : l[i]? = some c) : (strL l)[i]? = some (.string (bs c)) := by unfold strL; rw [List.getElem?_map, h]; rfl
theorem part9 (l : List (List UInt8)) (i : Nat) (c : List UInt8) (h : l[i]? = some c) (w : World) : (part 9 (strL l).toArray i).run Tryd.prog w = .ok (.string (bs c)) w := by
  have h1 := strL_get h
  simp [part, isAgg, run_underlying Tryd.underlying9, h1]
theorem beq_bs (a b : List UInt8) : ((bs a).toList == (bs b).toList) = (a == b) := by rw [toList_L, toList_L, L_bs, L_bs]
theorem eqS (d : Nat) (a b : List UInt8) (w : World) : (Op.equalIn (d + 1) 9 (.string (bs a)) (.string (bs b))).run Tryd.prog w = .ok (a == b) w := by
  rw [run_equalIn_string (P := Tryd.prog) w d 9 _ _ Tryd.underlying9, beq_bs]

theorem eq_loop (d : Nat) (p q : List (List UInt8)) (hl : p.length = q.length) (w : World) (K : Option Bool × Unit → Sem Bool) (k0 : K (none, ()) = pure true) (k1 : K (some false, ()) = pure false) : ∀ (m s : Nat), s + m = p.length →
    (Sem.run Tryd.prog
      (forIn (List.range' s m) ((none, ()) : Option Bool × Unit) fun i (_ : Option Bool × Unit) => do
        let x ← part 9 (strL p).toArray (i * 1)
        let y ← part 9 (strL q).toArray (i * 1)
        let z ← Op.equalIn (d + 1) 9 x y
        if (!z) = true then pure (ForInStep.done (some false, ())) else pure (ForInStep.yield (none, ())))
      w).andThen (fun a w' => Sem.run Tryd.prog (K a) w') = .ok (p.drop s == q.drop s) w
  | 0, s, h => by
    rw [List.drop_eq_nil_of_le (by omega), List.drop_eq_nil_of_le (by omega)]
    simp [k0]
  | m + 1, s, h => by
    have hs : s < p.length := by omega
    have hs' : s < q.length := by omega
    have ih := eq_loop d p q hl w K k0 k1 m (s + 1) (by omega)
    rw [List.range'_succ, List.forIn_cons, Sem.run_bind]
    simp only [Sem.run_bind, Nat.mul_one, part9 p s p[s] (List.getElem?_eq_getElem hs), part9 q s q[s] (List.getElem?_eq_getElem hs'), Result.andThen_ok, eqS]
    rw [List.drop_eq_getElem_cons hs, List.drop_eq_getElem_cons hs', List.cons_beq_cons]
    by_cases e : p[s] = q[s]
    · rw [e]
      simpa using ih
    · have h2 : (p[s] == q[s]) = false := by rw [beq_eq_false_iff_ne]; exact e
      simp [h2, k1]

theorem eq_texts (d n : Nat) (t : TypeId) (ht : Tryd.prog.underlying t = some (.array n 9)) (p q : List (List UInt8)) (hp : p.length = n) (hq : q.length = n) (w : World) :
    (Op.equalIn (d + 1 + 1) t (.agg (strL p).toArray) (.agg (strL q).toArray)).run Tryd.prog w = .ok (p == q) w := by
  obtain ⟨i0, hi0, hz0, hz1, hz2⟩ := info_parts info9
  rw [Op.equalIn]
  simp only [Sem.run_bind, run_underlying ht, Result.andThen_ok]
  simp only [sizeOf, typeInfo, Std.Legacy.Range.forIn_eq_forIn_range', Std.Legacy.Range.size, Sem.run_bind, run_program, hi0, Result.andThen_ok, Sem.run_pure, hz1, Nat.sub_zero, Nat.add_sub_cancel, Nat.div_one]
  exact eq_loop d p q (by omega) w _ rfl rfl n 0 (by omega)

/-- Are they the same pieces? -/
def eqPt (P Q : Pt) : Bool := P.kind == Q.kind && (P.path == Q.path && (P.mask == Q.mask && (P.has == Q.has && (P.size == Q.size && (P.value == Q.value && (P.hs == Q.hs && P.rest == Q.rest))))))
theorem eqPt_iff (P Q : Pt) : eqPt P Q = true ↔ P = Q := by
  obtain ⟨a, b, c, d, e, f, g, h⟩ := P
  obtain ⟨a', b', c', d', e', f', g', h'⟩ := Q
  simp only [eqPt, Bool.and_eq_true, beq_iff_eq, Pt.mk.injEq]

theorem eq_parts (P Q : Pt) (hP : P.hs.length = 16) (hQ : Q.hs.length = 16) (w : World) :
    (Op.equalIn 10000 44 (.agg (ptC P)) (.agg (ptC Q))).run Tryd.prog w = .ok (eqPt P Q) w := by
  have e : Tryd.prog.fieldsOf 44 = #[⟨ "kind", 9, 0, false, "", "umbel/node", 0⟩, ⟨ "path", 9, 1, false, "", "umbel/node", 16⟩, ⟨ "mask", 9, 2, false, "", "umbel/node", 32⟩, ⟨ "has", 9, 3, false, "", "umbel/node", 48⟩, ⟨ "size", 9, 4, false, "", "umbel/node", 64⟩, ⟨ "value", 9, 5, false, "", "umbel/node", 80⟩, ⟨ "hashes", 42, 6, false, "", "umbel/node", 96⟩, ⟨ "rest", 9, 22, false, "", "umbel/node", 352⟩] := by
    unfold Program.fieldsOf; rw [Tryd.underlying44]
  obtain ⟨i0, hi0⟩ : ∃ i, Tryd.prog.info? 42 = some i ∧ i.size = 16 := by
    have h0 : (Tryd.prog.info? 42).map (·.size) = some 16 := by kernel_rfl
    cases hi : Tryd.prog.info? 42 with
    | none => rw [hi] at h0; cases h0
    | some i => rw [hi] at h0; exact ⟨i, rfl, by simpa using h0⟩
  have hx : ∀ P : Pt, P.hs.length = 16 → (ptC P).extract 6 (6 + 16) = (strL P.hs).toArray := fun P h => by
    unfold ptC
    rw [List.extract_toArray, List.extract_eq_take_drop]
    show ((((P.hs.map fun h => Value.string (bs h)) ++ [Value.string (bs P.rest)])).take 16).toArray = _
    rw [List.take_left' (by rw [List.length_map]; exact h)]
    rfl
  have p0 : ∀ P : Pt, ∀ w, (part 9 (ptC P) 0).run Tryd.prog w = .ok (.string (bs P.kind)) w := fun P w => by simp [part, isAgg, run_underlying Tryd.underlying9, ptC, ptL]
  have p1 : ∀ P : Pt, ∀ w, (part 9 (ptC P) 1).run Tryd.prog w = .ok (.string (bs P.path)) w := fun P w => by simp [part, isAgg, run_underlying Tryd.underlying9, ptC, ptL]
  have p2 : ∀ P : Pt, ∀ w, (part 9 (ptC P) 2).run Tryd.prog w = .ok (.string (bs P.mask)) w := fun P w => by simp [part, isAgg, run_underlying Tryd.underlying9, ptC, ptL]
  have p3 : ∀ P : Pt, ∀ w, (part 9 (ptC P) 3).run Tryd.prog w = .ok (.string (bs P.has)) w := fun P w => by simp [part, isAgg, run_underlying Tryd.underlying9, ptC, ptL]
  have p4 : ∀ P : Pt, ∀ w, (part 9 (ptC P) 4).run Tryd.prog w = .ok (.string (bs P.size)) w := fun P w => by simp [part, isAgg, run_underlying Tryd.underlying9, ptC, ptL]
  have p5 : ∀ P : Pt, ∀ w, (part 9 (ptC P) 5).run Tryd.prog w = .ok (.string (bs P.value)) w := fun P w => by simp [part, isAgg, run_underlying Tryd.underlying9, ptC, ptL]
  have p22 : ∀ P : Pt, P.hs.length = 16 → ∀ w, (part 9 (ptC P) 22).run Tryd.prog w = .ok (.string (bs P.rest)) w := fun P h w => by
    have h1 := get_rest P h
    simp [part, isAgg, run_underlying Tryd.underlying9, h1]
  have p6 : ∀ P : Pt, P.hs.length = 16 → ∀ w, (part 42 (ptC P) 6).run Tryd.prog w = .ok (.agg (strL P.hs).toArray) w := fun P h w => by
    have h1 := hx P h
    simp only [part, isAgg, Sem.run_bind, run_underlying Tryd.underlying42, Result.andThen_ok, sizeOf, typeInfo, run_program, hi0.1, Sem.run_pure, if_true, hi0.2]
    rw [h1]
  rw [show (10000 : Nat) = 9999 + 1 from rfl, run_equalIn_struct w 9999 44 _ _ (by rw [e]; exact Tryd.underlying44) (by kernel_rfl), e]
  have q9 : ∀ a b w, (Op.equalIn 9999 9 (.string (bs a)) (.string (bs b))).run Tryd.prog w = .ok (a == b) w := fun a b w => eqS 9998 a b w
  have q42 : (Op.equalIn 9999 42 (.agg (strL P.hs).toArray) (.agg (strL Q.hs).toArray)).run Tryd.prog w = .ok (P.hs == Q.hs) w := eq_texts 9997 16 42 Tryd.underlying42 P.hs Q.hs hP hQ w
  simp only [Op.eqFields, ne_eq, String.reduceEq, not_false_eq_true, if_true, Sem.run_bind, p0, p1, p2, p3, p4, p5, p6 P hP, p6 Q hQ, p22 P hP, p22 Q hQ, Result.andThen_ok, q9, q42, Sem.run_ite, Sem.run_pure]
  unfold eqPt
  cases P.kind == Q.kind
  · rfl
  cases P.path == Q.path
  · rfl
  cases P.mask == Q.mask
  · rfl
  cases P.has == Q.has
  · rfl
  cases P.size == Q.size
  · rfl
  cases P.value == Q.value
  · rfl
  cases P.hs == Q.hs
  · rfl
  cases P.rest == Q.rest <;> rfl
theorem guard44 : Tryd.prog.eqGuardType Tryd.prog.depth 44 = false := by kernel_rfl

end Go.Proofs.YtecamiefpdkjoaaDoor
