/-
  Pairs, nodes and texts held against each other: values, then whole slices.
-/
import Derived.Test.YtelaiblhnhbgiaaDoorTrGat
import Derived.Laws.StructEq
namespace Go.Proofs.YtelaiblhnhbgiaaDoor
open Go.RowKit
set_option maxRecDepth 20000

def intC (l : List Int) : List Value := l.map (Value.int .i64)
theorem part3 (l : List Int) (i : Nat) (c : Int) (h : l[i]? = some c) (w : World) : (part 3 (intC l).toArray i).run Tryd.prog w = .ok (.int .i64 c) w := by
  have h1 : (intC l)[i]? = some (.int .i64 c) := by unfold intC; rw [List.getElem?_map, h]; rfl
  simp [part, isAgg, run_underlying Tryd.underlying3, h1]
theorem info3 : (Tryd.prog.info? 3).map (fun i => (i.zero, i.size, i.bytes)) = some (some (.int .i64 0), 1, 8) := by kernel_rfl
theorem eq_loop3 (d : Nat) (p q : List Int) (hl : p.length = q.length) (w : World) (K : Option Bool × Unit → Sem Bool) (k0 : K (none, ()) = pure true) (k1 : K (some false, ()) = pure false) : ∀ (m s : Nat), s + m = p.length →
    (Sem.run Tryd.prog
      (forIn (List.range' s m) ((none, ()) : Option Bool × Unit) fun i (_ : Option Bool × Unit) => do
        let x ← part 3 (intC p).toArray (i * 1)
        let y ← part 3 (intC q).toArray (i * 1)
        let z ← Op.equalIn (d + 1) 3 x y
        if (!z) = true then pure (ForInStep.done (some false, ())) else pure (ForInStep.yield (none, ())))
      w).andThen (fun a w' => Sem.run Tryd.prog (K a) w') = .ok (p.drop s == q.drop s) w
  | 0, s, h => by
    rw [List.drop_eq_nil_of_le (by omega), List.drop_eq_nil_of_le (by omega)]
    simp [k0]
  | m + 1, s, h => by
    have hs : s < p.length := by omega
    have hs' : s < q.length := by omega
    have ih := eq_loop3 d p q hl w K k0 k1 m (s + 1) (by omega)
    rw [List.range'_succ, List.forIn_cons, Sem.run_bind]
    simp only [Sem.run_bind, Nat.mul_one, part3 p s p[s] (List.getElem?_eq_getElem hs), part3 q s q[s] (List.getElem?_eq_getElem hs'), Result.andThen_ok, run_equalIn_int (P := Tryd.prog) w d 3 .i64 .i64 _ _ Tryd.underlying3]
    rw [List.drop_eq_getElem_cons hs, List.drop_eq_getElem_cons hs', List.cons_beq_cons]
    by_cases e : p[s] = q[s]
    · rw [e]
      simpa using ih
    · have h1 : (p[s] == q[s]) = false := by rw [beq_eq_false_iff_ne]; exact e
      simp [h1, k1]
theorem eq_ints (d n : Nat) (t : TypeId) (ht : Tryd.prog.underlying t = some (.array n 3)) (p q : List Int) (hp : p.length = n) (hq : q.length = n) (w : World) :
    (Op.equalIn (d + 1 + 1) t (.agg (intC p).toArray) (.agg (intC q).toArray)).run Tryd.prog w = .ok (p == q) w := by
  obtain ⟨i0, hi0, hz0, hz1, hz2⟩ := info_parts info3
  rw [Op.equalIn]
  simp only [Sem.run_bind, run_underlying ht, Result.andThen_ok]
  simp only [sizeOf, typeInfo, Std.Legacy.Range.forIn_eq_forIn_range', Std.Legacy.Range.size, Sem.run_bind, run_program, hi0, Result.andThen_ok, Sem.run_pure, hz1, Nat.sub_zero, Nat.add_sub_cancel, Nat.div_one]
  exact eq_loop3 d p q (by omega) w _ rfl rfl n 0 (by omega)

theorem text_beq (a b : Bt) : ((bs a).toList == (bs b).toList) = (a == b) := by rw [toList_L, toList_L, L_bs, L_bs]
def eqPr (p q : Pr) : Bool := p.1 == q.1 && p.2 == q.2
theorem eqPr_iff (p q : Pr) : eqPr p q = true ↔ p = q := by
  obtain ⟨a, b⟩ := p
  obtain ⟨c, d⟩ := q
  simp [eqPr]
theorem eq_pairs (p q : Pr) (w : World) : (Op.equalIn 10000 52 (.agg (prC p).toArray) (.agg (prC q).toArray)).run Tryd.prog w = .ok (eqPr p q) w := by
  have e : Tryd.prog.fieldsOf 52 = #[⟨ "Key", 9, 0, false, "", "", 0⟩, ⟨ "Value", 9, 1, false, "", "", 16⟩] := by
    unfold Program.fieldsOf; rw [Tryd.underlying52]
  have p0 : ∀ (p : Pr) (w : World), (part 9 (prC p).toArray 0).run Tryd.prog w = .ok (.string (bs p.1)) w := fun p w => by simp [part, isAgg, run_underlying Tryd.underlying9, prC]
  have p1 : ∀ (p : Pr) (w : World), (part 9 (prC p).toArray 1).run Tryd.prog w = .ok (.string (bs p.2)) w := fun p w => by simp [part, isAgg, run_underlying Tryd.underlying9, prC]
  rw [show (10000 : Nat) = 9999 + 1 from rfl, run_equalIn_struct w 9999 52 _ _ (by rw [e]; exact Tryd.underlying52) (by kernel_rfl), e]
  have q9 : ∀ a b w, (Op.equalIn 9999 9 (.string a) (.string b)).run Tryd.prog w = .ok (a.toList == b.toList) w := fun a b w => run_equalIn_string (P := Tryd.prog) w 9998 9 a b Tryd.underlying9
  simp only [Op.eqFields, ne_eq, String.reduceEq, not_false_eq_true, if_true, Sem.run_bind, p0, p1, Result.andThen_ok, q9, text_beq, Sem.run_ite, Sem.run_pure]
  unfold eqPr
  cases p.1 == q.1
  · rfl
  cases p.2 == q.2 <;> rfl
def eqNd (m n : Nd) : Bool := m.kind == n.kind && (m.path == n.path && (m.has == n.has && (m.val == n.val && m.kids == n.kids)))
theorem eqNd_iff (m n : Nd) : eqNd m n = true ↔ m = n := by
  obtain ⟨a, b, c, d, e⟩ := m
  obtain ⟨a', b', c', d', e'⟩ := n
  simp only [eqNd, Bool.and_eq_true, beq_iff_eq, Nd.mk.injEq]
theorem eq_nodes (m n : Nd) (hm : m.kids.length = 16) (hn : n.kids.length = 16) (w : World) : (Op.equalIn 10000 49 (.agg (ndA m)) (.agg (ndA n))).run Tryd.prog w = .ok (eqNd m n) w := by
  have e : Tryd.prog.fieldsOf 49 = #[⟨ "Kind", 3, 0, false, "", "", 0⟩, ⟨ "Path", 9, 1, false, "", "", 8⟩, ⟨ "Has", 4, 2, false, "", "", 24⟩, ⟨ "Value", 9, 3, false, "", "", 32⟩, ⟨ "Kids", 47, 4, false, "", "", 48⟩] := by
    unfold Program.fieldsOf; rw [Tryd.underlying49]
  obtain ⟨i0, hi0⟩ : ∃ i, Tryd.prog.info? 47 = some i ∧ i.size = 16 := by
    have h0 : (Tryd.prog.info? 47).map (·.size) = some 16 := by kernel_rfl
    cases hi : Tryd.prog.info? 47 with
    | none => rw [hi] at h0; cases h0
    | some i => rw [hi] at h0; exact ⟨i, rfl, by simpa using h0⟩
  have hx : ∀ f : Nd, f.kids.length = 16 → (ndA f).extract 4 (4 + 16) = (intC f.kids).toArray := fun f hf => by
    have hc : (intC f.kids).length = 16 := by unfold intC; rw [List.length_map, hf]
    unfold ndA
    rw [List.extract_toArray, List.extract_eq_take_drop]
    show ((intC f.kids).take 16).toArray = _
    rw [List.take_of_length_le (by omega)]
  have p0 : ∀ (f : Nd) (w : World), (part 3 (ndA f) 0).run Tryd.prog w = .ok (.int .i64 f.kind) w := fun f w => by simp [part, isAgg, run_underlying Tryd.underlying3, ndA, ndC]
  have p1 : ∀ (f : Nd) (w : World), (part 9 (ndA f) 1).run Tryd.prog w = .ok (.string (bs f.path)) w := fun f w => by simp [part, isAgg, run_underlying Tryd.underlying9, ndA, ndC]
  have p2 : ∀ (f : Nd) (w : World), (part 4 (ndA f) 2).run Tryd.prog w = .ok (.bool f.has) w := fun f w => by simp [part, isAgg, run_underlying Tryd.underlying4, ndA, ndC]
  have p3 : ∀ (f : Nd) (w : World), (part 9 (ndA f) 3).run Tryd.prog w = .ok (.string (bs f.val)) w := fun f w => by simp [part, isAgg, run_underlying Tryd.underlying9, ndA, ndC]
  have p4 : ∀ f : Nd, f.kids.length = 16 → ∀ w, (part 47 (ndA f) 4).run Tryd.prog w = .ok (.agg (intC f.kids).toArray) w := fun f hf w => by
    have h1 := hx f hf
    simp only [part, isAgg, Sem.run_bind, run_underlying Tryd.underlying47, Result.andThen_ok, sizeOf, typeInfo, run_program, hi0.1, Sem.run_pure, if_true, hi0.2]
    rw [h1]
  rw [show (10000 : Nat) = 9999 + 1 from rfl, run_equalIn_struct w 9999 49 _ _ (by rw [e]; exact Tryd.underlying49) (by kernel_rfl), e]
  have q3 : ∀ a b w, (Op.equalIn 9999 3 (.int .i64 a) (.int .i64 b)).run Tryd.prog w = .ok (a == b) w := fun a b w => run_equalIn_int (P := Tryd.prog) w 9998 3 .i64 .i64 a b Tryd.underlying3
  have q4 : ∀ a b w, (Op.equalIn 9999 4 (.bool a) (.bool b)).run Tryd.prog w = .ok (a == b) w := fun a b w => run_equalIn_bool (P := Tryd.prog) w 9998 4 a b Tryd.underlying4
  have q9 : ∀ a b w, (Op.equalIn 9999 9 (.string a) (.string b)).run Tryd.prog w = .ok (a.toList == b.toList) w := fun a b w => run_equalIn_string (P := Tryd.prog) w 9998 9 a b Tryd.underlying9
  have q47 : ∀ w, (Op.equalIn 9999 47 (.agg (intC m.kids).toArray) (.agg (intC n.kids).toArray)).run Tryd.prog w = .ok (m.kids == n.kids) w := fun w => eq_ints 9997 16 47 Tryd.underlying47 m.kids n.kids hm hn w
  simp only [Op.eqFields, ne_eq, String.reduceEq, not_false_eq_true, if_true, Sem.run_bind, p0, p1, p2, p3, p4 m hm, p4 n hn, Result.andThen_ok, q3, q4, q9, q47, text_beq, Sem.run_ite, Sem.run_pure]
  unfold eqNd
  cases m.kind == n.kind
  · rfl
  cases m.path == n.path
  · rfl
  cases m.has == n.has
  · rfl
  cases m.val == n.val
  · rfl
  cases m.kids == n.kids <;> rfl

end Go.Proofs.YtelaiblhnhbgiaaDoor
