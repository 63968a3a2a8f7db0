/-
  A node's cells: made, one of them set, within a row of nodes.
-/
import Derived.Test.YtelaiblhnhbgiaaDoorTrSplit
namespace Go.Proofs.YtelaiblhnhbgiaaDoor
open Go.RowKit
set_option maxRecDepth 20000

def ndA (m : Nd) : Array Value := (ndC m).toArray
theorem flatten_set {α : Type} {k : Nat} : ∀ {es : List (List α)} (i j : Nat) (e : List α) (u : α), (∀ x ∈ es, x.length = k) → es[i]? = some e → j < k → es.flatten.set (i * k + j) u = (es.set i (e.set j u)).flatten
  | [], i, j, e, u, _, h, _ => by simp at h
  | x :: es, 0, j, e, u, hk, h, hj => by
    obtain rfl := Option.some.inj h
    show (x ++ es.flatten).set (0 * k + j) u = x.set j u ++ es.flatten
    rw [Nat.zero_mul, Nat.zero_add, List.set_append_left _ _ (by rw [hk x (by simp)]; exact hj)]
  | x :: es, i + 1, j, e, u, hk, h, hj => by
    have hx := hk x (by simp)
    rw [List.getElem?_cons_succ] at h
    show (x ++ es.flatten).set ((i + 1) * k + j) u = x ++ (es.set i (e.set j u)).flatten
    rw [List.set_append_right _ _ (by rw [hx, Nat.succ_mul]; omega), hx, ← flatten_set i j e u (fun y hy => hk y (by simp [hy])) h hj, show (i + 1) * k + j - k = i * k + j by rw [Nat.succ_mul]; omega]
theorem Pl.setCell {w : World} {F : Nat → Prop} {t : TypeId} {k g n c : Nat} {es : List (List Value)} (h : Pl w F t k (.slice (some ⟨g, 0, none⟩) n c) es) {i j : Nat} {e : List Value} (he : es[i]? = some e) (hj : j < k) (u : Value) :
    Pl (w.setCell ⟨g, i * k + j, none⟩ u) F t k (.slice (some ⟨g, 0, none⟩) n c) (es.set i (e.set j u)) := by
  obtain ⟨cur, R, rfl, h4, h5, h6, h7⟩ := h.row
  have hi := (List.getElem?_eq_some_iff.1 he).1
  have hel := h.each e (List.mem_of_getElem? he)
  have hik : i * k + j < es.length * k := Nat.lt_of_lt_of_le (by omega : i * k + j < i * k + k) (by rw [← Nat.succ_mul]; exact Nat.mul_le_mul_right _ hi)
  have := Pl.make (w := w.setCell ⟨g, i * k + j, none⟩ u) (F := F) (t := t) (k := k) (g := g) (c := c) (es := es.set i (e.set j u)) (cur := cur.setIfInBounds (i * k + j) u) (fun x hx => by
      rcases List.mem_or_eq_of_mem_set hx with h1 | rfl
      · exact h.each x h1
      · rw [List.length_set]; exact hel) (R.set _ _) (by rw [List.length_set]; exact h4) h5 (by rw [Array.size_setIfInBounds]; exact h6) (by
      rw [List.length_set, Array.toList_setIfInBounds, ← flatten_set i j e u h.each he hj, ← h7, List.take_set]) (h.foot g rfl)
  rw [List.length_set] at this
  exact this
theorem Pl.cellAt {w : World} {F : Nat → Prop} {t : TypeId} {k g n c : Nat} {es : List (List Value)} (h : Pl w F t k (.slice (some ⟨g, 0, none⟩) n c) es) {i j : Nat} {e : List Value} {u : Value} (he : es[i]? = some e) (hj : e[j]? = some u) :
    w.cell? ⟨g, i * k + j, none⟩ = some u ∧ w.frozen? ⟨g, i * k + j, none⟩ = false := by
  obtain ⟨hi, rfl⟩ := List.getElem?_eq_some_iff.1 he
  obtain ⟨cur, R, _⟩ := h.row
  exact ⟨h.range hi j u hj, R.frozen _⟩

theorem kids_set (ks : List Int) (c : Nat) (x : Int) (m : Nd) (hm : m.kids = ks) : (ndC m).set (4 + c) (.int .i64 x) = ndC { m with kids := ks.set c x } := by
  subst hm
  unfold ndC
  rw [List.map_set, show 4 + c = c + 1 + 1 + 1 + 1 by omega, List.set_cons_succ, List.set_cons_succ, List.set_cons_succ, List.set_cons_succ]
theorem kids_get {m : Nd} {c : Nat} {x : Int} (h : m.kids[c]? = some x) : (ndC m)[4 + c]? = some (.int .i64 x) := by
  unfold ndC
  rw [show 4 + c = c + 1 + 1 + 1 + 1 by omega, List.getElem?_cons_succ, List.getElem?_cons_succ, List.getElem?_cons_succ, List.getElem?_cons_succ, List.getElem?_map, h]; rfl
theorem ndA_all (m : Nd) : (ndA m).all (·.oneCell') = true := all_oneCell_toArray (ndC_one m)
theorem ndA_size {m : Nd} (h : m.kids.length = 16) : (ndA m).size = 20 := by unfold ndA; rw [List.size_toArray, ndC_len h]

theorem built49_leaf (a b : ByteArray) : Tryd.prog.built 49 [(0, .int .i64 1), (1, .string a), (2, .bool true), (3, .string b)] = some #[.int .i64 1, .string a, .bool true, .string b, .int .i64 0, .int .i64 0, .int .i64 0, .int .i64 0, .int .i64 0, .int .i64 0, .int .i64 0, .int .i64 0, .int .i64 0, .int .i64 0, .int .i64 0, .int .i64 0, .int .i64 0, .int .i64 0, .int .i64 0, .int .i64 0] := by kernel_rfl
theorem built47_one (x : Int) : Tryd.prog.built 47 [(0, .int .i64 x)] = some #[.int .i64 x, .int .i64 0, .int .i64 0, .int .i64 0, .int .i64 0, .int .i64 0, .int .i64 0, .int .i64 0, .int .i64 0, .int .i64 0, .int .i64 0, .int .i64 0, .int .i64 0, .int .i64 0, .int .i64 0, .int .i64 0] := by kernel_rfl
theorem built49_ext (a : ByteArray) (x : Int) : Tryd.prog.built 49 [(0, .int .i64 2), (1, .string a), (4, .agg #[.int .i64 x, .int .i64 0, .int .i64 0, .int .i64 0, .int .i64 0, .int .i64 0, .int .i64 0, .int .i64 0, .int .i64 0, .int .i64 0, .int .i64 0, .int .i64 0, .int .i64 0, .int .i64 0, .int .i64 0, .int .i64 0])] = some #[.int .i64 2, .string a, .bool false, .string (bs []), .int .i64 x, .int .i64 0, .int .i64 0, .int .i64 0, .int .i64 0, .int .i64 0, .int .i64 0, .int .i64 0, .int .i64 0, .int .i64 0, .int .i64 0, .int .i64 0, .int .i64 0, .int .i64 0, .int .i64 0, .int .i64 0] := by kernel_rfl
theorem built49_br : Tryd.prog.built 49 [(0, .int .i64 3)] = some (ndA (brN false [] no16)) := by kernel_rfl
theorem leaf_cells (p v : Bt) : ndA (leafN p v) = #[.int .i64 1, .string (bs p), .bool true, .string (bs v), .int .i64 0, .int .i64 0, .int .i64 0, .int .i64 0, .int .i64 0, .int .i64 0, .int .i64 0, .int .i64 0, .int .i64 0, .int .i64 0, .int .i64 0, .int .i64 0, .int .i64 0, .int .i64 0, .int .i64 0, .int .i64 0] := rfl
theorem ext_cells (p : Bt) (x : Int) : ndA (extN p x) = #[.int .i64 2, .string (bs p), .bool false, .string (bs []), .int .i64 x, .int .i64 0, .int .i64 0, .int .i64 0, .int .i64 0, .int .i64 0, .int .i64 0, .int .i64 0, .int .i64 0, .int .i64 0, .int .i64 0, .int .i64 0, .int .i64 0, .int .i64 0, .int .i64 0, .int .i64 0] := rfl
section
variable {P : Program} {w : World} {ops : Array Oper} {rest : List Oper} {o : Oper} {a : Act} {Q : Exit → Act → World → Prop}
theorem wpList_build1 (hgd : o.guard = none) (t : TypeId) (x0 : Operand) (ho : o.op = .build t #[(0, x0)]) (v0 : Value) (h0 : a.eval x0 = v0) (cs : Array Value) (hb : P.built t [(0, v0)] = some cs)
    (h : wpList P ops Q rest (a.put o.dst (.agg cs)) w) : wpList P ops Q (o :: rest) a w := by
  have hv : ((#[(0, x0)] : Array (Nat × Operand)).map fun (i, x) => (i, a.eval x)).toList = [(0, v0)] := by simp [h0]
  refine wpList_build hgd t _ ho (by rw [hv, hb]; rfl) ?_
  rw [hv, hb]
  exact h
theorem wpList_build3x (hgd : o.guard = none) (t : TypeId) (x0 x1 x2 : Operand) (ho : o.op = .build t #[(0, x0), (1, x1), (4, x2)]) (v0 v1 v2 : Value) (h0 : a.eval x0 = v0) (h1 : a.eval x1 = v1) (h2 : a.eval x2 = v2) (cs : Array Value) (hb : P.built t [(0, v0), (1, v1), (4, v2)] = some cs)
    (h : wpList P ops Q rest (a.put o.dst (.agg cs)) w) : wpList P ops Q (o :: rest) a w := by
  have hv : ((#[(0, x0), (1, x1), (4, x2)] : Array (Nat × Operand)).map fun (i, x) => (i, a.eval x)).toList = [(0, v0), (1, v1), (4, v2)] := by simp [h0, h1, h2]
  refine wpList_build hgd t _ ho (by rw [hv, hb]; rfl) ?_
  rw [hv, hb]
  exact h
end
/-- Of the pairs' row what a call that changes F alone leaves. -/
theorem stay {w w' : World} {A F F' : Nat → Prop} (hA : ∀ g, A g → g < w.heap.size ∧ ¬ F g) (s : Step F F' w w') : ∀ g, A g → g < w'.heap.size ∧ ¬ F' g := fun g hg => by
  obtain ⟨h1, h2⟩ := hA g hg
  exact ⟨Nat.lt_of_lt_of_le h1 s.size, fun h => (s.foot g h).elim h2 (by omega)⟩

end Go.Proofs.YtelaiblhnhbgiaaDoor
