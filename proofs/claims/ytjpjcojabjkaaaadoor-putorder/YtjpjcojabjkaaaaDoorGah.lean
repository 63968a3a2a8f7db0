/-
  Blocks known whole, and operations over many cells at once. Slices of the call's own: their elements, what is read, written and appended; what a call may change.
-/
import Derived.Test.YtjpjcojabjkaaaaDoorGaf
import Derived.Test.YtjpjcojabjkaaaaDoorGac
import Derived.Great.BuildSlice
import Derived.Deep.RegionHeld3
import Derived.Deep.Cut
import Derived.Deep.MidRow
import Derived.Deep.AppendLies
import Derived.OwnWalk
import Derived.Laws.BytesString
namespace Go.Proofs.YtjpjcojabjkaaaaDoor
open Go.RowKit
set_option maxRecDepth 20000

section
variable {α : Type}
/-- s laid over l from o on. -/
def put (l : List α) (o : Nat) (s : List α) : List α := l.take o ++ (s ++ l.drop (o + s.length))
theorem put_nil (l : List α) (o : Nat) : put l o [] = l := by unfold put; simp
theorem put_cons (l : List α) (o : Nat) (v : α) (r : List α) (h : o < l.length) : put l o (v :: r) = put (l.set o v) (o + 1) r := by
  unfold put
  rw [List.take_set, List.drop_set_of_lt (by omega), List.take_add_one, List.getElem?_eq_getElem h]
  have e : (l.take o).length = o := by rw [List.length_take]; omega
  rw [List.set_append_right _ _ (by omega), e, Nat.sub_self]
  simp [show o + 1 + r.length = o + (r.length + 1) by omega]
theorem put_length (l : List α) (o : Nat) (s : List α) (h : o + s.length ≤ l.length) : (put l o s).length = l.length := by
  unfold put; simp only [List.length_append, List.length_take, List.length_drop]; omega
theorem put_append (a m b s : List α) (h : s.length = m.length) : put (a ++ (m ++ b)) a.length s = a ++ (s ++ b) := by
  unfold put
  rw [List.take_left, ← List.drop_drop, List.drop_left, h, List.drop_left]
theorem get_put_in (l : List α) (o : Nat) (s : List α) (h : o ≤ l.length) (j : Nat) (hj : j < s.length) : (put l o s)[o + j]? = s[j]? := by
  unfold put
  rw [List.getElem?_append_right (by rw [List.length_take]; omega), List.length_take, show o + j - min o l.length = j by omega, List.getElem?_append_left hj]
theorem get_put_out (l : List α) (o : Nat) (s : List α) (h : o + s.length ≤ l.length) (j : Nat) (hj : j < o ∨ o + s.length ≤ j) : (put l o s)[j]? = l[j]? := by
  unfold put
  rcases hj with hj | hj
  · rw [List.getElem?_append_left (by rw [List.length_take]; omega), List.getElem?_take, if_pos hj]
  · rw [List.getElem?_append_right (by rw [List.length_take]; omega), List.length_take, List.getElem?_append_right (by omega), List.getElem?_drop]
    congr 1; omega

end
/-- A block that is known whole, and may be written. -/
def Row (w : World) (g : Nat) (cs : Array Value) (t : TypeId) : Prop := w.heap[g]? = some (.cells cs t (0, 0))
theorem Row.lt {w : World} {g : Nat} {cs : Array Value} {t : TypeId} (h : Row w g cs t) : g < w.heap.size := (Array.getElem?_eq_some_iff.1 h).1
theorem Row.cell {w : World} {g : Nat} {cs : Array Value} {t : TypeId} (h : Row w g cs t) (j : Nat) : w.cell? ⟨g, j, none⟩ = cs[j]? := cell_of_row w g j cs t (0, 0) h
theorem Row.frozen {w : World} {g : Nat} {cs : Array Value} {t : TypeId} (h : Row w g cs t) (j : Nat) : w.frozen? ⟨g, j, none⟩ = false := frozen_of_row w g j cs t h
theorem Row.alloc {w : World} {g : Nat} {cs : Array Value} {t : TypeId} (h : Row w g cs t) (o : Obj) : Row (w.alloc o) g cs t := (heap_alloc_old w o h.lt).trans h
theorem Row.new (w : World) (cs : Array Value) (t : TypeId) : Row (w.alloc (.cells cs t)) w.heap.size cs t := heap_alloc_new w _
theorem Row.set {w : World} {g : Nat} {cs : Array Value} {t : TypeId} (h : Row w g cs t) (i : Nat) (v : Value) : Row (w.setCell ⟨g, i, none⟩ v) g (cs.setIfInBounds i v) t := heap_setCell_same w g i cs t v h
theorem Row.of {w w' : World} {g : Nat} {cs : Array Value} {t : TypeId} (h : Row w g cs t) (e : w'.heap[g]? = w.heap[g]?) : Row w' g cs t := e.trans h
theorem Row.after {w w' : World} {g : Nat} {cs : Array Value} {t : TypeId} (h : Row w g cs t) (k : New w w') : Row w' g cs t := h.of (k.block g h.lt)

theorem setCells_other (b : Nat) : ∀ (vs : List Value) (o : Nat) (w : World) (k : Nat), k ≠ b → (w.setCells b o vs).heap[k]? = w.heap[k]?
  | [], _, _, _, _ => rfl
  | v :: r, o, w, k, h => by rw [World.setCells, setCells_other b r (o + 1) _ k h, Below.heap_setCell _ _ _ _ h]
theorem setCells_size (b : Nat) : ∀ (vs : List Value) (o : Nat) (w : World), (w.setCells b o vs).heap.size = w.heap.size
  | [], _, _ => rfl
  | v :: r, o, w => by rw [World.setCells, setCells_size b r (o + 1) _]; simp [World.setCell]
theorem setCells_rest (b : Nat) : ∀ (vs : List Value) (o : Nat) (w : World), (w.setCells b o vs).os = w.os ∧ (w.setCells b o vs).tape = w.tape ∧ (w.setCells b o vs).output = w.output
  | [], _, _ => ⟨rfl, rfl, rfl⟩
  | v :: r, o, w => by rw [World.setCells]; exact setCells_rest b r (o + 1) _
theorem Row.setCells {g : Nat} {t : TypeId} : ∀ (vs : List Value) (o : Nat) (w : World) (cs : Array Value), Row w g cs t → o + vs.length ≤ cs.size → Row (w.setCells g o vs) g (put cs.toList o vs).toArray t
  | [], o, w, cs, h, _ => by rw [put_nil]; exact h
  | v :: r, o, w, cs, h, hl => by
    simp only [List.length_cons] at hl
    rw [World.setCells, put_cons _ _ _ _ (by simp; omega)]
    have := Row.setCells r (o + 1) (w.setCell ⟨g, o, none⟩ v) _ (h.set o v) (by simp; omega)
    rw [Array.toList_setIfInBounds] at this
    exact this
theorem New.setCells {w w' : World} (h : New w w') {b : Nat} (hb : w.heap.size ≤ b) (o : Nat) (vs : List Value) : New w (w'.setCells b o vs) := by
  obtain ⟨h1, h2, h3⟩ := setCells_rest b vs o w'
  exact ⟨h1.trans h.os, h2.trans h.tape, h3.trans h.output, by rw [setCells_size]; exact h.size, fun k hk => (setCells_other b vs o w' k (by omega)).trans (h.block k hk)⟩
theorem New.setCell {w w' : World} (h : New w w') {a : Addr} (hb : w.heap.size ≤ a.block) (v : Value) : New w (w'.setCell a v) := Below.setCell h hb v
theorem New.grown {w w1 w2 : World} {row : Option Nat} (h : New w w1) (hg : w1.grownBy w2 row) (hr : ∀ k, row = some k → w.heap.size ≤ k) : New w w2 := Below.grown h hg h.size hr


section
variable {P : Program}
/-- An operation whose run is known. -/
theorem wpList_run {w : World} {ops : Array Oper} {rest : List Oper} {o : Oper} {a : Act} {Q : Exit → Act → World → Prop} (hgd : o.guard = none) (v : Value) (w' : World) (hrun : (execOp a.eval o).run P w = .ok (.value v) w')
    (h : wpList P ops Q rest (a.put o.dst v) w') : wpList P ops Q (o :: rest) a w :=
  wpList_plain hgd fun _ hK => by unfold Oper.wp; rw [hrun]; exact hK _ _ h
/-- One that only computes, inside a region that draws. -/
theorem wpQuiet_run {ops : Array Oper} {Q : Act → Prop} {a : Act} {o : Oper} {rest : List Oper} {C : World → Prop} (hw : Region.wanted o (yielded ops a.tmps) = true) (v : Value) (hrun : ∀ w, C w → (execOp a.eval o).run P w = .ok (.value v) w)
    (h : wpQuiet P ops C Q rest (a.put o.dst v)) : wpQuiet P ops C Q (o :: rest) a :=
  BigFrame.wpQuiet_want hw fun K hK => ⟨v, fun w hw => by
    unfold Oper.quietAt
    rw [hrun w hw]
    exact ⟨rfl, rfl⟩, hK _ h⟩

theorem wpList_alloc_zero {w : World} {ops : Array Oper} {rest : List Oper} {o : Oper} {a : Act} {Q : Exit → Act → World → Prop} (hgd : o.guard = none) (t : TypeId) (ho : o.op = .alloc t) (z : Array Value) (n b : Nat) (hi : (P.info? t).map (fun i => (i.zero, i.size, i.bytes)) = some (some (.agg z), n, b))
    (h : wpList P ops Q rest (a.put o.dst (.pointer (some ⟨w.heap.size, 0, none⟩))) (w.alloc (.cells z t))) : wpList P ops Q (o :: rest) a w := by
  refine wpList_run hgd _ _ ?_ h
  obtain ⟨i0, hi0, hz0, hz1, hz2⟩ := info_parts hi
  unfold execOp
  simp [ho, Instr.alloc, zeroValue, typeInfo, hi0, hz0, newVar, newRow, Value.cells]

theorem fold_put (off : Nat) : ∀ (cs : List Value) (n : Nat) (z : Array Value), off + n + cs.length ≤ z.size → ((cs.zipIdx n).foldl (fun a (x : Value × Nat) => a.setIfInBounds (off + x.2) x.1) z) = (put z.toList (off + n) cs).toArray
  | [], n, z, _ => by rw [put_nil]; rfl
  | c :: cs, n, z, h => by
    simp only [List.length_cons] at h
    rw [List.zipIdx_cons, List.foldl_cons, fold_put off cs (n + 1) _ (by simp; omega), put_cons _ _ _ _ (by rw [Array.length_toList]; omega)]
    simp [Nat.add_assoc]
theorem fold_put_arr (off : Nat) (cs z : Array Value) (h : off + cs.size ≤ z.size) : cs.zipIdx.foldl (fun a (x : Value × Nat) => a.setIfInBounds (off + x.2) x.1) z = (put z.toList off cs.toList).toArray := by
  have := fold_put off cs.toList 0 z (by simpa using h)
  rw [← Array.foldl_toList, Array.toList_zipIdx]
  exact this

theorem fill_step {place : Nat → Option (Nat × Nat)} {i off size : Nat} {v : Value} {rest : List (Nat × Value)} {cells : Array Value} (hp : place i = some (off, size)) (h1 : v.cells.size = size) (h2 : off + size ≤ cells.size) :
    Instr.fill place cells ((i, v) :: rest) = Instr.fill place (put cells.toList off v.cells.toList).toArray rest := by
  subst h1
  conv => lhs; unfold Instr.fill
  rw [hp]
  simp only
  rw [if_neg (by simp; omega), fold_put_arr off _ _ h2]

theorem run_buildOne (w : World) (t e : TypeId) (cs : Array Value) (z : Value) (b n : Nat) (hu : P.underlying t = some (.slice e)) (hi : (P.info? e).map (fun i => (i.zero, i.size, i.bytes)) = some (some z, n, b)) (hc : cs.size = n) (hn : 0 < n) (hs : n ≤ 1000) :
    (Instr.buildSlice t 1 #[(0, .agg cs)]).run P w = .ok (.slice (some ⟨w.heap.size, 0, none⟩) 1 1) (w.alloc (.cells cs e)) := by
  obtain ⟨i0, hi0, hz0, hz1, hz2⟩ := info_parts hi
  refine run_buildSlice w t e 1 _ cs i0 z hu hi0 hz0 (by rw [hz1]; omega) (by rw [hz1]; omega) ?_
  rw [hz1]
  have := Go.Great.fill_whole (s := n) hn [.agg cs] ((Array.range (1 * n)).map (z.cells[· % z.cells.size]!)) (by simp [Value.cells, hc]) (by simp)
  simpa [Value.cells] using this
theorem run_buildCell (w : World) (t e : TypeId) (v z : Value) (b : Nat) (hu : P.underlying t = some (.slice e)) (hi : (P.info? e).map (fun i => (i.zero, i.size, i.bytes)) = some (some z, 1, b)) (hc : v.cells = #[v]) :
    (Instr.buildSlice t 1 #[(0, v)]).run P w = .ok (.slice (some ⟨w.heap.size, 0, none⟩) 1 1) (w.alloc (.cells #[v] e)) := by
  obtain ⟨i0, hi0, hz0, hz1, hz2⟩ := info_parts hi
  refine run_buildSlice w t e 1 _ #[v] i0 z hu hi0 hz0 (by rw [hz1]; omega) (by rw [hz1]; omega) ?_
  rw [hz1]
  have := Go.Great.fill_whole (s := 1) (by decide) [v] ((Array.range (1 * 1)).map (z.cells[· % z.cells.size]!)) (by simp [hc]) (by simp)
  simpa [hc] using this
end

/-- Just this block may have changed. -/
structure But (g : Nat) (w w' : World) : Prop where
  os : w'.os = w.os
  tape : w'.tape = w.tape
  output : w'.output = w.output
  size : w'.heap.size = w.heap.size
  block : ∀ k, k ≠ g → w'.heap[k]? = w.heap[k]?
theorem But.new {g : Nat} {w0 w w' : World} (h : But g w w') (k : New w0 w) (hg : w0.heap.size ≤ g) : New w0 w' := ⟨h.os.trans k.os, h.tape.trans k.tape, h.output.trans k.output, by rw [h.size]; exact k.size, fun i hi => (h.block i (by omega)).trans (k.block i hi)⟩
theorem Row.but {w w' : World} {g b : Nat} {cs : Array Value} {t : TypeId} (h : Row w g cs t) (k : But b w w') (hg : g ≠ b) : Row w' g cs t := h.of (k.block g hg)
theorem Row.has {w : World} {g : Nat} {cs : Array Value} {t : TypeId} (h : Row w g cs t) (j : Nat) {v : Value} (hv : cs[j]? = some v) : w.cell? ⟨g, j, none⟩ = some v := (h.cell j).trans hv

theorem Row.setRow {w : World} {g : Nat} {cs : Array Value} {t : TypeId} (h : Row w g cs t) (cs' : Array Value) : Row (w.setRow g cs') g cs' t := setRow_heap w g cs cs' t _ h

section
variable {P : Program} {w : World} {ops : Array Oper} {rest : List Oper} {o : Oper} {a : Act} {Q : Exit → Act → World → Prop}
theorem wpList_box_at (hgd : o.guard = none) (d : Tmp) (hd : o.dst = some d) (t : TypeId) (x : Operand) (ho : o.op = .box t x) (cs : Array Value) (hx : a.eval x = .agg cs)
    (h : ∀ W', Row W' w.heap.size cs t → New w W' → wpList P ops Q rest (a.put (some d) (.pointer (some ⟨w.heap.size, 0, none⟩))) W') : wpList P ops Q (o :: rest) a w := by
  refine wpList_run hgd (.pointer (some ⟨w.heap.size, 0, none⟩)) (w.alloc (.cells cs t)) ?_ (by rw [hd]; exact h _ (Row.new w cs t) ((New.refl w).alloc _))
  unfold execOp
  simp [ho, hx, Instr.box, newVar, newRow, Value.cells]
theorem wpList_alloc_at (hgd : o.guard = none) (d : Tmp) (hd : o.dst = some d) (t : TypeId) (ho : o.op = .alloc t) (z : Array Value) (n b : Nat) (hi : (P.info? t).map (fun i => (i.zero, i.size, i.bytes)) = some (some (.agg z), n, b))
    (h : ∀ W', Row W' w.heap.size z t → New w W' → wpList P ops Q rest (a.put (some d) (.pointer (some ⟨w.heap.size, 0, none⟩))) W') : wpList P ops Q (o :: rest) a w :=
  wpList_alloc_zero hgd t ho z n b hi (by rw [hd]; exact h _ (Row.new w z t) ((New.refl w).alloc _))
theorem wpList_store_new (hgd : o.guard = none) (ty : TypeId) (x y : Operand) (ho : o.op = .store ty x y) (g : Nat) (cells : Array Value) (hx : a.eval x = .pointer (some ⟨g, 0, none⟩)) (hy : a.eval y = .agg cells)
    (t : TypeId) (cur : Array Value) (R : Row w g cur t) (hi : (P.info? ty).map (·.size) = some cells.size) (hs : cur.size = cells.size) (h1 : cells.all (·.oneCell') = true)
    (h : ∀ W', Row W' g cells t → But g w W' → wpList P ops Q rest (a.put o.dst undef) W') : wpList P ops Q (o :: rest) a w :=
  wpList_store_row hgd ty x y ho g cells hx hy t cur R hi hs h1 (h _ (R.setRow cells) ⟨rfl, rfl, rfl, by simp [World.setRow], fun k hk => setRow_other w g k cells hk⟩)
theorem wpList_build4 (hgd : o.guard = none) (t : TypeId) (x0 x1 x2 x3 : Operand) (ho : o.op = .build t #[(0, x0), (1, x1), (2, x2), (3, x3)]) (v0 v1 v2 v3 : Value) (h0 : a.eval x0 = v0) (h1 : a.eval x1 = v1) (h2 : a.eval x2 = v2) (h3 : a.eval x3 = v3) (cs : Array Value) (hb : P.built t [(0, v0), (1, v1), (2, v2), (3, v3)] = some cs)
    (h : wpList P ops Q rest (a.put o.dst (.agg cs)) w) : wpList P ops Q (o :: rest) a w := by
  have hv : ((#[(0, x0), (1, x1), (2, x2), (3, x3)] : Array (Nat × Operand)).map fun (i, x) => (i, a.eval x)).toList = [(0, v0), (1, v1), (2, v2), (3, v3)] := by simp [h0, h1, h2, h3]
  refine wpList_build hgd t _ ho (by rw [hv, hb]; rfl) ?_
  rw [hv, hb]
  exact h
theorem wpList_build3 (hgd : o.guard = none) (t : TypeId) (x0 x1 x2 : Operand) (ho : o.op = .build t #[(0, x0), (1, x1), (2, x2)]) (v0 v1 v2 : Value) (h0 : a.eval x0 = v0) (h1 : a.eval x1 = v1) (h2 : a.eval x2 = v2) (cs : Array Value) (hb : P.built t [(0, v0), (1, v1), (2, v2)] = some cs)
    (h : wpList P ops Q rest (a.put o.dst (.agg cs)) w) : wpList P ops Q (o :: rest) a w := by
  have hv : ((#[(0, x0), (1, x1), (2, x2)] : Array (Nat × Operand)).map fun (i, x) => (i, a.eval x)).toList = [(0, v0), (1, v1), (2, v2)] := by simp [h0, h1, h2]
  refine wpList_build hgd t _ ho (by rw [hv, hb]; rfl) ?_
  rw [hv, hb]
  exact h
theorem wpList_build2 (hgd : o.guard = none) (t : TypeId) (x0 x1 : Operand) (ho : o.op = .build t #[(0, x0), (1, x1)]) (v0 v1 : Value) (h0 : a.eval x0 = v0) (h1 : a.eval x1 = v1) (cs : Array Value) (hb : P.built t [(0, v0), (1, v1)] = some cs)
    (h : wpList P ops Q rest (a.put o.dst (.agg cs)) w) : wpList P ops Q (o :: rest) a w := by
  have hv : ((#[(0, x0), (1, x1)] : Array (Nat × Operand)).map fun (i, x) => (i, a.eval x)).toList = [(0, v0), (1, v1)] := by simp [h0, h1]
  refine wpList_build hgd t _ ho (by rw [hv, hb]; rfl) ?_
  rw [hv, hb]
  exact h
theorem wpList_build0 (hgd : o.guard = none) (t : TypeId) (ho : o.op = .build t #[]) (cs : Array Value) (hb : P.built t [] = some cs)
    (h : wpList P ops Q rest (a.put o.dst (.agg cs)) w) : wpList P ops Q (o :: rest) a w := by
  refine wpList_build hgd t _ ho (by simp [hb]) ?_
  simpa [hb] using h
theorem results_cell_tmp {fn : Func} {p q : Tmp} {ty : TypeId} (h : fn.results = #[.cell p ty, .tmp q]) (tmps : Array Value) (w : World) (g : Nat) (t : TypeId) (cs : Array Value) (fr : Nat × Nat) (d : TypeDesc) (v : Value)
    (hp : tmps.getD p undef = .pointer (some ⟨g, 0, none⟩)) (hq : tmps.getD q undef = v) (hg : w.heap[g]? = some (.cells cs t fr))
    (hu : P.underlying ty = some d) (hd : (match d with | .struct _ | .array _ _ => true | _ => false) = true) (hi : (P.info? ty).map (·.size) = some cs.size) :
    (results fn tmps).run P w = .ok (.tuple #[.agg cs, v]) w := by
  have hp' : tmps[p]?.getD undef = .pointer (some ⟨g, 0, none⟩) := by simpa using hp
  have hq' : tmps[q]?.getD undef = v := by simpa using hq
  simp [results, h, hp', hq', asAddr, run_loadVar_row w g t ty cs fr d hg hu hd hi]
end

theorem Calls.neww_same {P : Program} {f : FuncId} {args : Array Value} {W : World} {p : NewW W} {v : Value}
    (h : Calls P f args p.v fun e w' => e = .returned v ∧ w' = p.v) : Calls P f args p.v fun e w'' => e = .returned v ∧ ∃ q : NewW W, w'' = q.v :=
  h.mono fun _ _ ⟨he, hk⟩ => ⟨he, p, hk⟩

theorem pick_range (l : List Oper) : ∀ (m n : Nat), pick l (List.range' n m) = (l.drop n).take m
  | 0, n => by simp [pick]
  | m + 1, n => by
    rw [List.range'_succ, pick, pick_range l m (n + 1)]
    by_cases h : n < l.length
    · rw [List.getElem?_eq_getElem h, List.drop_eq_getElem_cons h]; rfl
    · rw [List.getElem?_eq_none (by omega), List.drop_eq_nil_of_le (by omega), List.drop_eq_nil_of_le (by omega)]; simp
theorem region_first {P : Program} {id : Nat} {Q : Exit → Act → World → Prop} {a : Act} {w : World} {l : List Oper} (n m : Nat) (W : World) (hW : New W w) (hm : P.follows .mixedOrders = true) (hB : partB .any l (List.range' 0 n) (List.range' n m) = true)
    (h : wpQuiet P l.toArray (fun w' => ∃ p : NewW W, w' = p.v) (fun a' => ∀ w', (∃ p : NewW W, w' = p.v) → wpList P l.toArray Q ((l.drop n).take m) a' w') (l.take n) a) : (Code.region id l.toArray true).wp P Q a w := by
  refine region_ord (List.range' 0 n) (List.range' n m) W hW hm hB ?_
  rw [pick_range, pick_range]
  exact h


theorem wpList_load_want {P : Program} {ops : Array Oper} {rest : List Oper} {o : Oper} {a : Act} {w : World} {Q : Exit → Act → World → Prop} (hw : Region.wanted o (yielded ops a.tmps) = true) (ty : TypeId) (x : Operand) (ho : o.op = .load ty x)
    (g : Nat) (hx : a.eval x = .pointer (some ⟨g, 0, none⟩)) (t : TypeId) (cs : Array Value) (d : TypeDesc) (hg : Row w g cs t)
    (hu : P.underlying ty = some d) (hd : (match d with | .struct _ | .array _ _ => true | _ => false) = true) (hi : (P.info? ty).map (·.size) = some cs.size)
    (h : wpList P ops Q rest (a.put o.dst (.agg cs)) w) : wpList P ops Q (o :: rest) a w :=
  BigFrame.wpList_want hw fun _ hK => wp_load_row ty x ho g hx t cs (0, 0) d hg hu hd hi (hK _ _ h)


theorem wpList_load_midw {P : Program} {ops : Array Oper} {rest : List Oper} {o : Oper} {a : Act} {w : World} {Q : Exit → Act → World → Prop} (hw : Region.wanted o (yielded ops a.tmps) = true) (ty : TypeId) (x : Operand) (ho : o.op = .load ty x)
    (b off : Nat) (hx : a.eval x = .pointer (some ⟨b, off, none⟩)) (cs : List Value) (d : TypeDesc) (hc : w.rangeAt b off cs)
    (hu : P.underlying ty = some d) (hd : d.isRow = true) (hi : (P.info? ty).map (·.size) = some cs.length)
    (h : wpList P ops Q rest (a.put o.dst (.agg cs.toArray)) w) : wpList P ops Q (o :: rest) a w :=
  BigFrame.wpList_want hw fun _ hK => wp_load_mid ty x ho b off hx cs d hc hu hd hi (hK _ _ h)


end Go.Proofs.YtjpjcojabjkaaaaDoor
namespace Go.Proofs.YtjpjcojabjkaaaaDoor
open Go.RowKit
set_option maxRecDepth 20000

section
variable {α : Type}
/-- Rows of k laid one behind the other. -/
theorem flat_length {k : Nat} : ∀ {es : List (List α)}, (∀ e ∈ es, e.length = k) → es.flatten.length = es.length * k
  | [], _ => by simp
  | e :: es, h => by
    rw [List.flatten_cons, List.length_append, flat_length fun x hx => h x (by simp [hx]), h e (by simp), List.length_cons, Nat.add_mul]; omega
theorem flat_at {k : Nat} : ∀ {es : List (List α)} (i : Nat) (hi : i < es.length), (∀ e ∈ es, e.length = k) → (es.flatten.drop (i * k)).take k = es[i]
  | e :: es, 0, _, h => by
    simp only [Nat.zero_mul, List.drop_zero, List.flatten_cons, List.getElem_cons_zero]
    have := h e (by simp)
    rw [← this, List.take_left]
  | e :: es, i + 1, hi, h => by
    have hk := h e (by simp)
    rw [List.flatten_cons, show (i + 1) * k = e.length + i * k by rw [hk, Nat.add_mul]; omega, ← List.drop_drop, List.drop_left]
    exact flat_at i (by simpa using hi) fun x hx => h x (by simp [hx])
theorem flat_set {k : Nat} : ∀ {es : List (List α)} (i : Nat), i < es.length → (∀ e ∈ es, e.length = k) → ∀ e, e.length = k → put es.flatten (i * k) e = (es.set i e).flatten
  | x :: es, 0, _, h, e, he => by
    have hx := h x (by simp)
    rw [Nat.zero_mul, List.set_cons_zero, List.flatten_cons, List.flatten_cons]
    have := put_append [] x es.flatten e (by omega)
    simpa using this
  | x :: es, i + 1, hi, h, e, he => by
    have hx := h x (by simp)
    rw [List.set_cons_succ, List.flatten_cons, List.flatten_cons, ← flat_set i (by simpa using hi) (fun y hy => h y (by simp [hy])) e he]
    unfold put
    rw [show (i + 1) * k = x.length + i * k by rw [hx, Nat.add_mul]; omega, List.take_append, List.take_of_length_le (show x.length ≤ x.length + i * k by omega), show x.length + i * k - x.length = i * k by omega,
      show x.length + i * k + e.length = x.length + (i * k + e.length) by omega, ← List.drop_drop, List.drop_left, List.append_assoc]
theorem flat_take {k : Nat} : ∀ {es : List (List α)} (n : Nat), (∀ e ∈ es, e.length = k) → es.flatten.take (n * k) = (es.take n).flatten
  | [], n, _ => by simp
  | e :: es, 0, _ => by simp
  | e :: es, n + 1, h => by
    have hk := h e (by simp)
    rw [List.flatten_cons, List.take_succ_cons, List.flatten_cons, show (n + 1) * k = e.length + n * k by rw [hk, Nat.add_mul]; omega, List.take_append, List.take_of_length_le (by omega), show e.length + n * k - e.length = n * k by omega,
      flat_take n fun x hx => h x (by simp [hx])]
end
/-- A slice of the call's own: its elements, k cells each. -/
structure Pl (w : World) (F : Nat → Prop) (t : TypeId) (k : Nat) (v : Value) (es : List (List Value)) : Prop where
  each : ∀ e ∈ es, e.length = k
  own : w.ownsRow 0 t k v es.length es.flatten
  foot : ∀ g, v.ownBlock = some g → F g
theorem Pl.nil (w : World) (F : Nat → Prop) (t : TypeId) (k : Nat) : Pl w F t k (.slice none 0 0) [] := ⟨fun _ h => by simp at h, World.ownsRow_nil _ _ _ _, fun _ h => by cases h⟩
theorem Pl.lt {w : World} {F : Nat → Prop} {t : TypeId} {k : Nat} {v : Value} {es : List (List Value)} (h : Pl w F t k v es) {g : Nat} (hg : v.ownBlock = some g) : g < w.heap.size := (h.own.lt g hg).2
theorem Pl.of {w w' : World} {F G : Nat → Prop} {t : TypeId} {k : Nat} {v : Value} {es : List (List Value)} (h : Pl w F t k v es) (e : ∀ b, F b → b < w.heap.size → w'.heap[b]? = w.heap[b]?) (hG : ∀ b, F b → b < w.heap.size → G b) : Pl w' G t k v es := by
  refine ⟨h.each, ?_, fun g hg => hG g (h.foot g hg) (h.lt hg)⟩
  rcases h.own with ⟨h1, h2 | ⟨g, cap, cur, hv, hb, h3, h4⟩⟩
  · exact ⟨h1, .inl h2⟩
  · subst hv
    exact ⟨h1, .inr ⟨g, cap, cur, rfl, hb, (e g (h.foot g rfl) (Array.getElem?_eq_some_iff.1 h3).1).trans h3, h4⟩⟩
theorem Pl.after {w w' : World} {F : Nat → Prop} {t : TypeId} {k : Nat} {v : Value} {es : List (List Value)} (h : Pl w F t k v es) (n : New w w') : Pl w' F t k v es := h.of (fun b _ hb => n.block b hb) (fun _ h _ => h)
theorem Pl.mono {w : World} {F G : Nat → Prop} {t : TypeId} {k : Nat} {v : Value} {es : List (List Value)} (h : Pl w F t k v es) (hG : ∀ b, F b → b < w.heap.size → G b) : Pl w G t k v es := h.of (fun _ _ _ => rfl) hG
theorem Pl.form {w : World} {F : Nat → Prop} {t : TypeId} {k : Nat} {v : Value} {es : List (List Value)} (h : Pl w F t k v es) : ∃ a c, v = .slice a es.length c ∧ es.length ≤ c := by
  rcases h.own.2 with ⟨rfl, h0⟩ | ⟨g, cap, cur, hv, _, _, hc, _⟩
  · exact ⟨none, 0, by rw [h0], by omega⟩
  · exact ⟨_, cap, hv, hc⟩
theorem Pl.full {w : World} {F : Nat → Prop} {t : TypeId} {k : Nat} {v : Value} {es : List (List Value)} (h : Pl w F t k v es) (hn : 0 < es.length) : ∃ g c, v = .slice (some ⟨g, 0, none⟩) es.length c ∧ F g ∧ g < w.heap.size ∧ es.length ≤ c := by
  rcases h.own.2 with ⟨_, h0⟩ | ⟨g, cap, cur, hv, _, h3, hc, _⟩
  · omega
  · subst hv; exact ⟨g, cap, rfl, h.foot g rfl, (Array.getElem?_eq_some_iff.1 h3).1, hc⟩
theorem flat_cell {k : Nat} {es : List (List Value)} (he : ∀ e ∈ es, e.length = k) {i : Nat} (hi : i < es.length) {j : Nat} (hj : j < k) : es.flatten[i * k + j]? = es[i][j]? := by
  rw [← flat_at i hi he, List.getElem?_take, if_pos hj, List.getElem?_drop]
theorem Pl.range {w : World} {F : Nat → Prop} {t : TypeId} {k g n c : Nat} {es : List (List Value)} (h : Pl w F t k (.slice (some ⟨g, 0, none⟩) n c) es) {i : Nat} (hi : i < es.length) : w.rangeAt g (i * k) es[i] := fun j v hv => by
  have hj : j < k := by rw [← h.each _ (List.getElem_mem hi)]; exact (List.getElem?_eq_some_iff.1 hv).1
  have := h.own.cells (g := g) rfl (i * k + j) v (by rw [flat_cell h.each hi hj]; exact hv)
  rw [Addr.add_mid, Nat.zero_add] at this
  exact this
theorem Pl.row {w : World} {F : Nat → Prop} {t : TypeId} {k g n c : Nat} {es : List (List Value)} (h : Pl w F t k (.slice (some ⟨g, 0, none⟩) n c) es) : ∃ cur, Row w g cur t ∧ n = es.length ∧ n ≤ c ∧ c ≤ maxLen ∧ cur.size = c * k ∧ cur.toList.take (n * k) = es.flatten := by
  rcases h.own.2 with ⟨h0, _⟩ | ⟨g', cap, cur, hv, _, h3, h4, h5, h6, h7⟩
  · cases h0
  · cases hv; exact ⟨cur, h3, rfl, h4, h5, h6, h7⟩
theorem Pl.there {w : World} {F : Nat → Prop} {t : TypeId} {k g n c : Nat} {es : List (List Value)} (h : Pl w F t k (.slice (some ⟨g, 0, none⟩) n c) es) {i : Nat} (hi : i < es.length) : w.there g (i * k) k := fun j hj => by
  obtain ⟨cur, R, _⟩ := h.row
  refine ⟨?_, R.frozen _⟩
  have hr := h.range hi
  have hk := h.each _ (List.getElem_mem hi)
  rw [hr j _ (List.getElem?_eq_getElem (by omega))]; rfl
theorem Pl.make {w : World} {F : Nat → Prop} {t : TypeId} {k g c : Nat} {es : List (List Value)} {cur : Array Value} (he : ∀ e ∈ es, e.length = k) (R : Row w g cur t) (h4 : es.length ≤ c) (h5 : c ≤ maxLen) (h6 : cur.size = c * k) (h7 : cur.toList.take (es.length * k) = es.flatten) (hF : F g) :
    Pl w F t k (.slice (some ⟨g, 0, none⟩) es.length c) es :=
  ⟨he, ⟨flat_length he, .inr ⟨g, c, cur, rfl, Nat.zero_le _, R, h4, h5, h6, h7⟩⟩, fun b hb => by cases hb; exact hF⟩
theorem take_put {α : Type} (l : List α) (o m : Nat) (s : List α) (h : o + s.length ≤ m) (hm : m ≤ l.length) : (put l o s).take m = put (l.take m) o s := by
  apply List.ext_getElem?
  intro j
  rw [List.getElem?_take]
  by_cases hj : j < m
  · rw [if_pos hj]
    by_cases h1 : o ≤ j ∧ j < o + s.length
    · obtain ⟨d, rfl⟩ : ∃ d, j = o + d := ⟨j - o, by omega⟩
      rw [get_put_in _ _ _ (by omega) _ (by omega), get_put_in _ _ _ (by rw [List.length_take]; omega) _ (by omega)]
    · rw [get_put_out _ _ _ (by omega) _ (by omega), get_put_out _ _ _ (by rw [List.length_take]; omega) _ (by omega), List.getElem?_take, if_pos hj]
  · rw [if_neg hj, List.getElem?_eq_none]
    rw [put_length _ _ _ (by rw [List.length_take]; omega), List.length_take]; omega
theorem Pl.set {w : World} {F : Nat → Prop} {t : TypeId} {k g n c : Nat} {es : List (List Value)} (h : Pl w F t k (.slice (some ⟨g, 0, none⟩) n c) es) {i : Nat} (hi : i < es.length) {e : List Value} (he : e.length = k) :
    Pl (w.setCells g (i * k) e) F t k (.slice (some ⟨g, 0, none⟩) n c) (es.set i e) := by
  obtain ⟨cur, R, rfl, h4, h5, h6, h7⟩ := h.row
  have hik : i * k + k ≤ es.length * k := by rw [← Nat.succ_mul]; exact Nat.mul_le_mul_right _ hi
  have hck : es.length * k ≤ c * k := Nat.mul_le_mul_right _ h4
  have := Pl.make (w := w.setCells g (i * k) e) (F := F) (t := t) (k := k) (g := g) (c := c) (es := es.set i e) (cur := (put cur.toList (i * k) e).toArray) ?_ (Row.setCells _ _ _ _ R (by rw [he]; omega)) (by rw [List.length_set]; exact h4) h5
    (by rw [List.size_toArray, put_length _ _ _ (by rw [he, Array.length_toList]; omega), Array.length_toList, h6])
    (by rw [List.length_set, take_put cur.toList (i * k) (es.length * k) e (by rw [he]; exact hik) (by rw [Array.length_toList (xs := cur), h6]; exact hck), h7, flat_set i hi h.each e he]) (h.foot g rfl)
  · rw [List.length_set] at this; exact this
  · intro x hx
    rcases List.mem_or_eq_of_mem_set hx with h1 | rfl
    · exact h.each x h1
    · exact he
theorem Pl.take {w : World} {F : Nat → Prop} {t : TypeId} {k g n c : Nat} {es : List (List Value)} (h : Pl w F t k (.slice (some ⟨g, 0, none⟩) n c) es) {m : Nat} (hm : m ≤ es.length) : Pl w F t k (.slice (some ⟨g, 0, none⟩) m c) (es.take m) := by
  obtain ⟨cur, R, rfl, h4, h5, h6, h7⟩ := h.row
  have hl : (es.take m).length = m := by rw [List.length_take]; omega
  have hmk : m * k ≤ es.length * k := Nat.mul_le_mul_right _ hm
  have := Pl.make (w := w) (F := F) (t := t) (k := k) (g := g) (c := c) (es := es.take m) (cur := cur) (fun x hx => h.each x (List.mem_of_mem_take hx)) R (by omega) h5 h6 (by rw [hl, ← flat_take m h.each, ← h7, List.take_take]; congr 1; omega) (h.foot g rfl)
  rw [hl] at this
  exact this

/-- Of what there was just what is the disk's may have changed; what it has now was its, or is new. -/
structure Step (F F' : Nat → Prop) (w w' : World) : Prop where
  os : w'.os = w.os
  tape : w'.tape = w.tape
  output : w'.output = w.output
  size : w.heap.size ≤ w'.heap.size
  block : ∀ k, k < w.heap.size → ¬ F k → w'.heap[k]? = w.heap[k]?
  foot : ∀ k, F' k → F k ∨ w.heap.size ≤ k
theorem Step.refl (F : Nat → Prop) (w : World) : Step F F w w := ⟨rfl, rfl, rfl, Nat.le_refl _, fun _ _ _ => rfl, fun _ h => .inl h⟩
theorem Step.new {F : Nat → Prop} {w w' : World} (h : New w w') : Step F F w w' := ⟨h.os, h.tape, h.output, h.size, fun k hk _ => h.block k hk, fun _ h => .inl h⟩
theorem Step.trans {F F' F'' : Nat → Prop} {w w1 w2 : World} (h : Step F F' w w1) (k : Step F' F'' w1 w2) : Step F F'' w w2 :=
  ⟨k.os.trans h.os, k.tape.trans h.tape, k.output.trans h.output, Nat.le_trans h.size k.size, fun i hi hn =>
    (k.block i (Nat.lt_of_lt_of_le hi h.size) (fun h1 => (h.foot i h1).elim hn (by omega))).trans (h.block i hi hn), fun i hi => by
      rcases k.foot i hi with h1 | h1
      · exact h.foot i h1
      · exact .inr (Nat.le_trans h.size h1)⟩
theorem Step.setCell {F : Nat → Prop} (w : World) {a : Addr} (ha : F a.block) (v : Value) : Step F F w (w.setCell a v) :=
  ⟨rfl, rfl, rfl, by simp [World.setCell], fun k _ hn => Below.heap_setCell _ _ _ _ (fun e => hn (e ▸ ha)), fun _ h => .inl h⟩
theorem Step.setCells {F : Nat → Prop} (w : World) {b : Nat} (ha : F b) (o : Nat) (vs : List Value) : Step F F w (w.setCells b o vs) := by
  obtain ⟨h1, h2, h3⟩ := setCells_rest b vs o w
  exact ⟨h1, h2, h3, by rw [setCells_size]; exact Nat.le_refl _, fun k _ hn => setCells_other b vs o w k (fun e => hn (e ▸ ha)), fun _ h => .inl h⟩
theorem Step.grown {F : Nat → Prop} {w w' : World} {row : Option Nat} (hg : w.grownBy w' row) (hr : ∀ k, row = some k → F k) : Step F F w w' :=
  ⟨hg.os, hg.tape, hg.output, hg.size, fun k hk hn => hg.block k hk (fun e => hn (hr k e.symm)), fun _ h => .inl h⟩
theorem Step.wide {F F' G : Nat → Prop} {w w' : World} (h : Step F F' w w') (hG : ∀ k, G k → F k ∨ w.heap.size ≤ k) : Step F G w w' := ⟨h.os, h.tape, h.output, h.size, h.block, hG⟩
theorem Step.below {F F' : Nat → Prop} {w0 w w' : World} {B : Nat} (h : Step F F' w w') (k : Below B w0 w) (hB : B ≤ w.heap.size) (hF : ∀ b, F b → B ≤ b) : Below B w0 w' ∧ (∀ b, F' b → B ≤ b) ∧ B ≤ w'.heap.size :=
  ⟨k.trans ⟨h.os, h.tape, h.output, h.size, fun i hi => h.block i (by omega) (fun h1 => by have := hF i h1; omega)⟩, fun b hb => (h.foot b hb).elim (hF b) (by omega), Nat.le_trans hB h.size⟩

theorem Row.there {w : World} {g : Nat} {cs : Array Value} {t : TypeId} (h : Row w g cs t) (o n : Nat) (hn : o + n ≤ cs.size) : w.there g o n := fun j hj => by
  refine ⟨?_, h.frozen _⟩
  rw [h.cell, Array.getElem?_eq_getElem (by omega)]; rfl
theorem Row.range {w : World} {g : Nat} {cs : Array Value} {t : TypeId} (h : Row w g cs t) (o n : Nat) : w.rangeAt g o ((cs.toList.drop o).take n) := fun j v hv => by
  rw [List.getElem?_take] at hv
  split at hv
  · rw [List.getElem?_drop] at hv; rw [h.cell, ← hv, Array.getElem?_toList]
  · cases hv

/-- New memory alone. -/
def Fresh (w : World) : Nat → Prop := fun g => w.heap.size ≤ g

theorem But.step {g : Nat} {w w' : World} {F : Nat → Prop} (h : But g w w') (hF : F g) : Step F F w w' := ⟨h.os, h.tape, h.output, by rw [h.size]; exact Nat.le_refl _, fun i _ hi => h.block i (fun e => hi (e ▸ hF)), fun _ h => .inl h⟩
theorem Pl.but {w w' : World} {F : Nat → Prop} {t : TypeId} {k g : Nat} {v : Value} {es : List (List Value)} (h : Pl w F t k v es) (b : But g w w') (hg : ¬ F g) : Pl w' F t k v es := h.of (fun i hi _ => b.block i (fun e => hg (e ▸ hi))) (fun _ h _ => h)

section
variable {P : Program} {w : World} {ops : Array Oper} {rest : List Oper} {o : Oper} {a : Act} {Q : Exit → Act → World → Prop}
theorem wpList_alloc_new (hgd : o.guard = none) (t : TypeId) (ho : o.op = .alloc t) (z : Array Value) (n b : Nat) (hi : (P.info? t).map (fun i => (i.zero, i.size, i.bytes)) = some (some (.agg z), n, b))
    (h : ∀ W', Row W' w.heap.size z t → New w W' → wpList P ops Q rest (a.put o.dst (.pointer (some ⟨w.heap.size, 0, none⟩))) W') : wpList P ops Q (o :: rest) a w :=
  wpList_alloc_zero hgd t ho z n b hi (h _ (Row.new w z t) ((New.refl w).alloc _))
theorem wpList_load_pl (hgd : o.guard = none) (ty : TypeId) (x : Operand) (ho : o.op = .load ty x) (F : Nat → Prop) (t : TypeId) (k g n c i : Nat) (es : List (List Value)) (e : List Value) (d : TypeDesc)
    (H : Pl w F t k (.slice (some ⟨g, 0, none⟩) n c) es) (he : es[i]? = some e) (hx : a.eval x = .pointer (some ⟨g, i * k, none⟩))
    (hu : P.underlying ty = some d) (hd : d.isRow = true) (hi : (P.info? ty).map (·.size) = some e.length)
    (h : wpList P ops Q rest (a.put o.dst (.agg e.toArray)) w) : wpList P ops Q (o :: rest) a w := by
  obtain ⟨hlt, rfl⟩ := List.getElem?_eq_some_iff.1 he
  exact wpList_load_mid hgd ty x ho g (i * k) hx _ d (H.range hlt) hu hd hi h
theorem wpList_store_pl (hgd : o.guard = none) (ty : TypeId) (x y : Operand) (ho : o.op = .store ty x y) (F : Nat → Prop) (t : TypeId) (k g n c i : Nat) (es : List (List Value)) (e : List Value)
    (H : Pl w F t k (.slice (some ⟨g, 0, none⟩) n c) es) (hlt : i < es.length) (hx : a.eval x = .pointer (some ⟨g, i * k, none⟩)) (hy : a.eval y = .agg e.toArray) (he : e.length = k)
    (hi : (P.info? ty).map (·.size) = some e.toArray.size) (h1 : ∀ v ∈ e, v.oneCell' = true)
    (h : ∀ W', Pl W' F t k (.slice (some ⟨g, 0, none⟩) n c) (es.set i e) → But g w W' → wpList P ops Q rest (a.put o.dst undef) W') : wpList P ops Q (o :: rest) a w := by
  obtain ⟨q1, q2, q3⟩ := setCells_rest g e (i * k) w
  exact wpList_store_mid hgd ty x y ho g (i * k) e.toArray hx hy (by rw [List.size_toArray, he]; exact H.there hlt) hi (all_oneCell_toArray h1) (h _ (H.set hlt he) ⟨q1, q2, q3, setCells_size _ _ _ _, fun b hb => setCells_other _ _ _ _ _ hb⟩)
end
theorem wpList_appends {P : Program} {w : World} {ops : Array Oper} {rest : List Oper} {o : Oper} {a : Act} {Q : Exit → Act → World → Prop} (hgd : o.guard = none) (s x : Operand) (t ty : TypeId) (v1 v2 v : Value) (w' : World)
    (ho : o.op = .call { callee := .builtin .append, args := #[s, x], argTypes := #[t, t] }) (hty : o.type = ty) (h1 : a.eval s = v1) (h2 : a.eval x = v2) (hr : (Builtin.append_ #[t, t] ty #[v1, v2]).run P w = .ok v w')
    (h : wpList P ops Q rest (a.put o.dst v) w') : wpList P ops Q (o :: rest) a w := by
  refine wpList_plain hgd fun K hK => ?_
  subst hty
  unfold Oper.wp execOp
  simp only [ho, resolve, invoke, builtin, Sem.run_bind, Sem.run_pure, Result.andThen_ok, List.map_toArray, List.map_cons, List.map_nil, h1, h2, hr]
  exact hK _ _ h

section
variable {w : World} {F : Nat → Prop} {t : TypeId} {k : Nat} {v : Value} {es : List (List Value)}
theorem run_append_pl (H : Pl w F t k v es) (T ty : TypeId) (hT : Tryd.prog.underlying T = some (.slice t)) (z : Value) (bytes : Nat) (hi : (Tryd.prog.info? t).map (fun i => (i.zero, i.size, i.bytes)) = some (some z, k, bytes)) (hz : z.cells.size = k) (hk : 0 < k)
    (B : Nat) (e : List Value) (tb : TypeId) (R : Row w B e.toArray tb) (he : e.length = k) (hone : ∀ u ∈ e, u.oneCell' = true) (hn : es.length ≤ 1000000) (hb : bytes ≤ 1000) :
    ∃ g cap w', (Builtin.append_ #[T, T] ty #[v, .slice (some ⟨B, 0, none⟩) 1 1]).run Tryd.prog w = .ok (.slice (some ⟨g, 0, none⟩) (es.length + 1) cap) w' ∧
      Pl w' (fun b => F b ∨ w.heap.size ≤ b) t k (.slice (some ⟨g, 0, none⟩) (es.length + 1) cap) (es ++ [e]) ∧ w.grownBy w' v.ownBlock := by
  obtain ⟨i0, hi0, hz0, hz1, hz2⟩ := info_parts hi
  have hbb : (es.length + 1) * bytes ≤ 1000001 * 1000 := Nat.mul_le_mul (by omega) hb
  obtain ⟨g, cap, w', hr, h2, h3, h4, h5⟩ := run_append_lies (P := Tryd.prog) w T ty 0 t i0 z k bytes hT hi0 hz0 hz1 hz2 hz hk v es.length es.flatten H.own ⟨B, 0, none⟩ 1 1 e (by rw [he, Nat.one_mul]) (World.news_of_block (cs := e.toArray) R) hone (by decide) (by unfold maxLen; omega) (by omega) (Nat.zero_le _) w.heap.size rfl
  refine ⟨g, cap, w', hr, ⟨?_, ?_, ?_⟩, h3⟩
  · intro x hx
    rcases List.mem_append.1 hx with h | h
    · exact H.each x h
    · obtain rfl : x = e := by simpa using h
      exact he
  · rw [List.length_append, List.length_singleton, List.flatten_append]
    simpa using h2
  · intro b hb
    cases hb
    rcases h4 with h | h
    · exact .inl (H.foot _ h)
    · exact .inr (Nat.le_of_eq h.symm)
theorem wpList_append_pl {ops : Array Oper} {rest : List Oper} {o : Oper} {a : Act} {Q : Exit → Act → World → Prop} (H : Pl w F t k v es) (hgd : o.guard = none) (s x : Operand) (T : TypeId) (ho : o.op = .call { callee := .builtin .append, args := #[s, x], argTypes := #[T, T] }) (hT : Tryd.prog.underlying T = some (.slice t)) (z : Value) (bytes : Nat) (hi : (Tryd.prog.info? t).map (fun i => (i.zero, i.size, i.bytes)) = some (some z, k, bytes)) (hz : z.cells.size = k) (hk : 0 < k)
    (B : Nat) (e : List Value) (tb : TypeId) (R : Row w B e.toArray tb) (he : e.length = k) (hone : ∀ u ∈ e, u.oneCell' = true) (hn : es.length ≤ 1000000) (hb : bytes ≤ 1000) (h1 : a.eval s = v) (h2 : a.eval x = .slice (some ⟨B, 0, none⟩) 1 1)
    (h : ∀ g cap W', Pl W' (fun b => F b ∨ w.heap.size ≤ b) t k (.slice (some ⟨g, 0, none⟩) (es.length + 1) cap) (es ++ [e]) → w.grownBy W' v.ownBlock → wpList Tryd.prog ops Q rest (a.put o.dst (.slice (some ⟨g, 0, none⟩) (es.length + 1) cap)) W') : wpList Tryd.prog ops Q (o :: rest) a w := by
  obtain ⟨g, cap, w', hr, h3, h4⟩ := run_append_pl H T o.type hT z bytes hi hz hk B e tb R he hone hn hb
  exact wpList_appends hgd s x T o.type v _ _ w' ho rfl h1 h2 hr (h g cap w' h3 h4)
theorem wpList_build_one {ops : Array Oper} {rest : List Oper} {o : Oper} {a : Act} {Q : Exit → Act → World → Prop} (hgd : o.guard = none) (T : TypeId) (x : Operand) (ho : o.op = .buildSlice T 1 #[(0, x)]) (hT : Tryd.prog.underlying T = some (.slice t)) (z : Value) (bytes : Nat) (hi : (Tryd.prog.info? t).map (fun i => (i.zero, i.size, i.bytes)) = some (some z, k, bytes))
    (cs : Array Value) (hx : a.eval x = .agg cs) (hc : cs.size = k) (hk : 0 < k) (hk' : k ≤ 1000)
    (h : ∀ W', Row W' w.heap.size cs t → New w W' → wpList Tryd.prog ops Q rest (a.put o.dst (.slice (some ⟨w.heap.size, 0, none⟩) 1 1)) W') : wpList Tryd.prog ops Q (o :: rest) a w := by
  refine wpList_run hgd _ (w.alloc (.cells cs t)) ?_ (h _ (Row.new w cs t) ((New.refl w).alloc _))
  unfold execOp
  simp only [ho, List.map_toArray, List.map_cons, List.map_nil, hx, Sem.run_bind, run_buildOne w T t cs z bytes k hT hi hc hk hk', Result.andThen_ok, Sem.run_pure]
end
theorem map_getD {α β : Type} (f : α → β) (l : List α) (i : Nat) (d : α) (h : i < l.length) : (l.map f)[i]? = some (f (l.getD i d)) := by
  rw [List.getElem?_map, List.getElem?_eq_getElem h, List.getD_eq_getElem?_getD, List.getElem?_eq_getElem h]; rfl
/-- A list of one-cell values copied behind nothing. -/
theorem run_copied (w : World) (T t ty : TypeId) (z : Value) (bytes : Nat) (hT : Tryd.prog.underlying T = some (.slice t)) (hi : (Tryd.prog.info? t).map (fun i => (i.zero, i.size, i.bytes)) = some (some z, 1, bytes)) (hz : z.cells.size = 1) (hb : bytes ≤ 1000)
    (a : Option Addr) (c : Nat) (vs : List Value) (hA : 0 < vs.length → ∃ x, a = some x ∧ ∀ j u, vs[j]? = some u → w.cell? (x.add j) = some u) (hone : ∀ u ∈ vs, u.oneCell' = true) (hn : vs.length ≤ 1000000) :
    ∃ v w', (Builtin.append_ #[T, T] ty #[.slice (some ⟨w.heap.size, 0, none⟩) 0 0, .slice a vs.length c]).run Tryd.prog (w.alloc (.cells #[] t)) = .ok v w' ∧ Pl w' (Fresh w) t 1 v (vs.map fun u => [u]) ∧ New w w' := by
  obtain ⟨i0, hi0, hz0, hz1, hz2⟩ := info_parts hi
  have hN : New w (w.alloc (.cells #[] t)) := (New.refl w).alloc _
  have ho : (w.alloc (.cells #[] t)).ownsRow w.heap.size t 1 (.slice (some ⟨w.heap.size, 0, none⟩) 0 0) 0 [] :=
    ⟨rfl, .inr ⟨w.heap.size, 0, #[], rfl, Nat.le_refl _, heap_alloc_new w _, Nat.le_refl _, by unfold maxLen; omega, rfl, rfl⟩⟩
  have hfl : ∀ l : List Value, (l.map fun u => [u]).flatten = l := fun l => by
    induction l with
    | nil => rfl
    | cons x l ih => rw [List.map_cons, List.flatten_cons, ih]; rfl
  by_cases h0 : vs.length = 0
  · obtain rfl : vs = [] := List.eq_nil_of_length_eq_zero h0
    refine ⟨.slice (some ⟨w.heap.size, 0, none⟩) 0 0, w.alloc (.cells #[] t), ?_, ⟨(fun e he => by cases he), ?_, (fun g hg => by cases hg; exact Nat.le_refl _)⟩, hN⟩
    · cases a with
      | none => simp [Builtin.append_, run_underlying hT, sizeOf, typeInfo, hi0, Builtin.lenOf, Builtin.firstCells, storeCells]
      | some x =>
        have hld := run_loadCells_list (P := Tryd.prog) (w.alloc (.cells #[] t)) x [] (fun j v hv => by simp at hv)
        rw [List.length_nil] at hld
        simp [Builtin.append_, run_underlying hT, sizeOf, typeInfo, hi0, Builtin.lenOf, Builtin.firstCells, storeCells, hld]
    · exact ⟨ho.1, ho.2.imp id fun ⟨g, c, cur, hv, _, r⟩ => ⟨g, c, cur, hv, Nat.zero_le _, r⟩⟩
  · obtain ⟨x, rfl, hx⟩ := hA (by omega)
    obtain ⟨v', w', hr, h2, h3, _, h5⟩ := run_append_own_at (P := Tryd.prog) (w.alloc (.cells #[] t)) w.heap.size T ty t i0 _ 1 bytes hT hi0 hz0 hz1 hz2 hz (by decide) _ 0 [] ho x vs.length c vs (by omega)
      (fun j u hu => by
        have hc := hx j u hu
        exact (hN.cell (World.block_lt_of_cell? w _ hc)).trans hc) hone (by unfold maxLen; omega) (by rw [Nat.zero_add]; exact Nat.le_trans (Nat.mul_le_mul hn hb) (by decide)) (by simp)
    have hfr : ∀ k, v'.ownBlock = some k → w.heap.size ≤ k := fun k hk => (h2.lt k hk).1
    refine ⟨v', w', by simpa using hr, ⟨fun e he => by obtain ⟨u, _, rfl⟩ := List.mem_map.1 he; rfl, ?_, hfr⟩, hN.grown h3 (fun k hk => by cases hk; exact Nat.le_refl _)⟩
    rw [Nat.zero_add, List.nil_append] at h2
    rw [hfl, List.length_map]
    exact ⟨h2.1, h2.2.imp id fun ⟨g, c, cur, hv, _, r⟩ => ⟨g, c, cur, hv, Nat.zero_le _, r⟩⟩


end Go.Proofs.YtjpjcojabjkaaaaDoor
