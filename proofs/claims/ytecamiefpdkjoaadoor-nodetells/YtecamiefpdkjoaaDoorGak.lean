/-
  Blocks known whole, and operations over many cells at once.
-/
import Derived.Test.YtecamiefpdkjoaaDoorGag
import Derived.Test.YtecamiefpdkjoaaDoorGah
import Derived.Test.YtecamiefpdkjoaaDoorGac
import Derived.Great.BuildSlice
import Derived.Deep.RegionHeld3
import Derived.Deep.Cut
import Derived.Deep.MidRow
namespace Go.Proofs.YtecamiefpdkjoaaDoor
open Go.RowKit
set_option maxRecDepth 20000

section
variable {α : Type}
/-- s laid over l from o on. -/
def put (l : List α) (o : Nat) (s : List α) : List α := l.take o ++ (s ++ l.drop (o + s.length))
theorem put_nil (l : List α) (o : Nat) : put l o [] = l := by unfold put; simp
theorem put_cons (l : List α) (o : Nat) (v : α) (r : List α) (h : o < l.length) : put l o (v :: r) = put (l.set o v) (o + 1) r := by
  unfold put
  rw [List.take_set, List.drop_set_of_lt (by omega), List.take_add_one, List.getElem?_eq_getElem h]
  have e : (l.take o).length = o := by rw [List.length_take]; omega
  rw [List.set_append_right _ _ (by omega), e, Nat.sub_self]
  simp [show o + 1 + r.length = o + (r.length + 1) by omega]
theorem put_length (l : List α) (o : Nat) (s : List α) (h : o + s.length ≤ l.length) : (put l o s).length = l.length := by
  unfold put; simp only [List.length_append, List.length_take, List.length_drop]; omega
theorem put_append (a m b s : List α) (h : s.length = m.length) : put (a ++ (m ++ b)) a.length s = a ++ (s ++ b) := by
  unfold put
  rw [List.take_left, ← List.drop_drop, List.drop_left, h, List.drop_left]
theorem get_put_in (l : List α) (o : Nat) (s : List α) (h : o ≤ l.length) (j : Nat) (hj : j < s.length) : (put l o s)[o + j]? = s[j]? := by
  unfold put
  rw [List.getElem?_append_right (by rw [List.length_take]; omega), List.length_take, show o + j - min o l.length = j by omega, List.getElem?_append_left hj]
theorem get_put_out (l : List α) (o : Nat) (s : List α) (h : o + s.length ≤ l.length) (j : Nat) (hj : j < o ∨ o + s.length ≤ j) : (put l o s)[j]? = l[j]? := by
  unfold put
  rcases hj with hj | hj
  · rw [List.getElem?_append_left (by rw [List.length_take]; omega), List.getElem?_take, if_pos hj]
  · rw [List.getElem?_append_right (by rw [List.length_take]; omega), List.length_take, List.getElem?_append_right (by omega), List.getElem?_drop]
    congr 1; omega

end
/-- A block that is known whole, and may be written. -/
def Row (w : World) (g : Nat) (cs : Array Value) (t : TypeId) : Prop := w.heap[g]? = some (.cells cs t (0, 0))
theorem Row.lt {w : World} {g : Nat} {cs : Array Value} {t : TypeId} (h : Row w g cs t) : g < w.heap.size := (Array.getElem?_eq_some_iff.1 h).1
theorem Row.cell {w : World} {g : Nat} {cs : Array Value} {t : TypeId} (h : Row w g cs t) (j : Nat) : w.cell? ⟨g, j, none⟩ = cs[j]? := cell_of_row w g j cs t (0, 0) h
theorem Row.frozen {w : World} {g : Nat} {cs : Array Value} {t : TypeId} (h : Row w g cs t) (j : Nat) : w.frozen? ⟨g, j, none⟩ = false := frozen_of_row w g j cs t h
theorem Row.alloc {w : World} {g : Nat} {cs : Array Value} {t : TypeId} (h : Row w g cs t) (o : Obj) : Row (w.alloc o) g cs t := (heap_alloc_old w o h.lt).trans h
theorem Row.new (w : World) (cs : Array Value) (t : TypeId) : Row (w.alloc (.cells cs t)) w.heap.size cs t := heap_alloc_new w _
theorem Row.set {w : World} {g : Nat} {cs : Array Value} {t : TypeId} (h : Row w g cs t) (i : Nat) (v : Value) : Row (w.setCell ⟨g, i, none⟩ v) g (cs.setIfInBounds i v) t := heap_setCell_same w g i cs t v h
theorem Row.of {w w' : World} {g : Nat} {cs : Array Value} {t : TypeId} (h : Row w g cs t) (e : w'.heap[g]? = w.heap[g]?) : Row w' g cs t := e.trans h
theorem Row.after {w w' : World} {g : Nat} {cs : Array Value} {t : TypeId} (h : Row w g cs t) (k : New w w') : Row w' g cs t := h.of (k.block g h.lt)

theorem setCells_other (b : Nat) : ∀ (vs : List Value) (o : Nat) (w : World) (k : Nat), k ≠ b → (w.setCells b o vs).heap[k]? = w.heap[k]?
  | [], _, _, _, _ => rfl
  | v :: r, o, w, k, h => by rw [World.setCells, setCells_other b r (o + 1) _ k h, Below.heap_setCell _ _ _ _ h]
theorem setCells_size (b : Nat) : ∀ (vs : List Value) (o : Nat) (w : World), (w.setCells b o vs).heap.size = w.heap.size
  | [], _, _ => rfl
  | v :: r, o, w => by rw [World.setCells, setCells_size b r (o + 1) _]; simp [World.setCell]
theorem setCells_rest (b : Nat) : ∀ (vs : List Value) (o : Nat) (w : World), (w.setCells b o vs).os = w.os ∧ (w.setCells b o vs).tape = w.tape ∧ (w.setCells b o vs).output = w.output
  | [], _, _ => ⟨rfl, rfl, rfl⟩
  | v :: r, o, w => by rw [World.setCells]; exact setCells_rest b r (o + 1) _
theorem Row.setCells {g : Nat} {t : TypeId} : ∀ (vs : List Value) (o : Nat) (w : World) (cs : Array Value), Row w g cs t → o + vs.length ≤ cs.size → Row (w.setCells g o vs) g (put cs.toList o vs).toArray t
  | [], o, w, cs, h, _ => by rw [put_nil]; exact h
  | v :: r, o, w, cs, h, hl => by
    simp only [List.length_cons] at hl
    rw [World.setCells, put_cons _ _ _ _ (by simp; omega)]
    have := Row.setCells r (o + 1) (w.setCell ⟨g, o, none⟩ v) _ (h.set o v) (by simp; omega)
    rw [Array.toList_setIfInBounds] at this
    exact this
theorem New.setCells {w w' : World} (h : New w w') {b : Nat} (hb : w.heap.size ≤ b) (o : Nat) (vs : List Value) : New w (w'.setCells b o vs) := by
  obtain ⟨h1, h2, h3⟩ := setCells_rest b vs o w'
  exact ⟨h1.trans h.os, h2.trans h.tape, h3.trans h.output, by rw [setCells_size]; exact h.size, fun k hk => (setCells_other b vs o w' k (by omega)).trans (h.block k hk)⟩
theorem New.setCell {w w' : World} (h : New w w') {a : Addr} (hb : w.heap.size ≤ a.block) (v : Value) : New w (w'.setCell a v) := Below.setCell h hb v
theorem New.grown {w w1 w2 : World} {row : Option Nat} (h : New w w1) (hg : w1.grownBy w2 row) (hr : ∀ k, row = some k → w.heap.size ≤ k) : New w w2 := Below.grown h hg h.size hr


section
variable {P : Program}
/-- An operation whose run is known. -/
theorem wpList_run {w : World} {ops : Array Oper} {rest : List Oper} {o : Oper} {a : Act} {Q : Exit → Act → World → Prop} (hgd : o.guard = none) (v : Value) (w' : World) (hrun : (execOp a.eval o).run P w = .ok (.value v) w')
    (h : wpList P ops Q rest (a.put o.dst v) w') : wpList P ops Q (o :: rest) a w :=
  wpList_plain hgd fun _ hK => by unfold Oper.wp; rw [hrun]; exact hK _ _ h
/-- One that only computes, inside a region that draws. -/
theorem wpQuiet_run {ops : Array Oper} {Q : Act → Prop} {a : Act} {o : Oper} {rest : List Oper} {C : World → Prop} (hw : Region.wanted o (yielded ops a.tmps) = true) (v : Value) (hrun : ∀ w, C w → (execOp a.eval o).run P w = .ok (.value v) w)
    (h : wpQuiet P ops C Q rest (a.put o.dst v)) : wpQuiet P ops C Q (o :: rest) a :=
  BigFrame.wpQuiet_want hw fun K hK => ⟨v, fun w hw => by
    unfold Oper.quietAt
    rw [hrun w hw]
    exact ⟨rfl, rfl⟩, hK _ h⟩

theorem wpList_alloc_zero {w : World} {ops : Array Oper} {rest : List Oper} {o : Oper} {a : Act} {Q : Exit → Act → World → Prop} (hgd : o.guard = none) (t : TypeId) (ho : o.op = .alloc t) (z : Array Value) (n b : Nat) (hi : (P.info? t).map (fun i => (i.zero, i.size, i.bytes)) = some (some (.agg z), n, b))
    (h : wpList P ops Q rest (a.put o.dst (.pointer (some ⟨w.heap.size, 0, none⟩))) (w.alloc (.cells z t))) : wpList P ops Q (o :: rest) a w := by
  refine wpList_run hgd _ _ ?_ h
  obtain ⟨i0, hi0, hz0, hz1, hz2⟩ := info_parts hi
  unfold execOp
  simp [ho, Instr.alloc, zeroValue, typeInfo, hi0, hz0, newVar, newRow, Value.cells]

theorem fold_put (off : Nat) : ∀ (cs : List Value) (n : Nat) (z : Array Value), off + n + cs.length ≤ z.size → ((cs.zipIdx n).foldl (fun a (x : Value × Nat) => a.setIfInBounds (off + x.2) x.1) z) = (put z.toList (off + n) cs).toArray
  | [], n, z, _ => by rw [put_nil]; rfl
  | c :: cs, n, z, h => by
    simp only [List.length_cons] at h
    rw [List.zipIdx_cons, List.foldl_cons, fold_put off cs (n + 1) _ (by simp; omega), put_cons _ _ _ _ (by rw [Array.length_toList]; omega)]
    simp [Nat.add_assoc]
theorem fold_put_arr (off : Nat) (cs z : Array Value) (h : off + cs.size ≤ z.size) : cs.zipIdx.foldl (fun a (x : Value × Nat) => a.setIfInBounds (off + x.2) x.1) z = (put z.toList off cs.toList).toArray := by
  have := fold_put off cs.toList 0 z (by simpa using h)
  rw [← Array.foldl_toList, Array.toList_zipIdx]
  exact this

theorem fill_step {place : Nat → Option (Nat × Nat)} {i off size : Nat} {v : Value} {rest : List (Nat × Value)} {cells : Array Value} (hp : place i = some (off, size)) (h1 : v.cells.size = size) (h2 : off + size ≤ cells.size) :
    Instr.fill place cells ((i, v) :: rest) = Instr.fill place (put cells.toList off v.cells.toList).toArray rest := by
  subst h1
  conv => lhs; unfold Instr.fill
  rw [hp]
  simp only
  rw [if_neg (by simp; omega), fold_put_arr off _ _ h2]

theorem run_buildOne (w : World) (t e : TypeId) (cs : Array Value) (z : Value) (b n : Nat) (hu : P.underlying t = some (.slice e)) (hi : (P.info? e).map (fun i => (i.zero, i.size, i.bytes)) = some (some z, n, b)) (hc : cs.size = n) (hn : 0 < n) (hs : n ≤ 1000) :
    (Instr.buildSlice t 1 #[(0, .agg cs)]).run P w = .ok (.slice (some ⟨w.heap.size, 0, none⟩) 1 1) (w.alloc (.cells cs e)) := by
  obtain ⟨i0, hi0, hz0, hz1, hz2⟩ := info_parts hi
  refine run_buildSlice w t e 1 _ cs i0 z hu hi0 hz0 (by rw [hz1]; omega) (by rw [hz1]; omega) ?_
  rw [hz1]
  have := Go.Great.fill_whole (s := n) hn [.agg cs] ((Array.range (1 * n)).map (z.cells[· % z.cells.size]!)) (by simp [Value.cells, hc]) (by simp)
  simpa [Value.cells] using this
theorem run_buildCell (w : World) (t e : TypeId) (v z : Value) (b : Nat) (hu : P.underlying t = some (.slice e)) (hi : (P.info? e).map (fun i => (i.zero, i.size, i.bytes)) = some (some z, 1, b)) (hc : v.cells = #[v]) :
    (Instr.buildSlice t 1 #[(0, v)]).run P w = .ok (.slice (some ⟨w.heap.size, 0, none⟩) 1 1) (w.alloc (.cells #[v] e)) := by
  obtain ⟨i0, hi0, hz0, hz1, hz2⟩ := info_parts hi
  refine run_buildSlice w t e 1 _ #[v] i0 z hu hi0 hz0 (by rw [hz1]; omega) (by rw [hz1]; omega) ?_
  rw [hz1]
  have := Go.Great.fill_whole (s := 1) (by decide) [v] ((Array.range (1 * 1)).map (z.cells[· % z.cells.size]!)) (by simp [hc]) (by simp)
  simpa [hc] using this
end

/-- Just this block may have changed. -/
structure But (g : Nat) (w w' : World) : Prop where
  os : w'.os = w.os
  tape : w'.tape = w.tape
  output : w'.output = w.output
  size : w'.heap.size = w.heap.size
  block : ∀ k, k ≠ g → w'.heap[k]? = w.heap[k]?
theorem But.new {g : Nat} {w0 w w' : World} (h : But g w w') (k : New w0 w) (hg : w0.heap.size ≤ g) : New w0 w' := ⟨h.os.trans k.os, h.tape.trans k.tape, h.output.trans k.output, by rw [h.size]; exact k.size, fun i hi => (h.block i (by omega)).trans (k.block i hi)⟩
theorem Row.but {w w' : World} {g b : Nat} {cs : Array Value} {t : TypeId} (h : Row w g cs t) (k : But b w w') (hg : g ≠ b) : Row w' g cs t := h.of (k.block g hg)
theorem Row.has {w : World} {g : Nat} {cs : Array Value} {t : TypeId} (h : Row w g cs t) (j : Nat) {v : Value} (hv : cs[j]? = some v) : w.cell? ⟨g, j, none⟩ = some v := (h.cell j).trans hv

theorem Row.setRow {w : World} {g : Nat} {cs : Array Value} {t : TypeId} (h : Row w g cs t) (cs' : Array Value) : Row (w.setRow g cs') g cs' t := setRow_heap w g cs cs' t _ h

section
variable {P : Program} {w : World} {ops : Array Oper} {rest : List Oper} {o : Oper} {a : Act} {Q : Exit → Act → World → Prop}
theorem wpList_box_at (hgd : o.guard = none) (d : Tmp) (hd : o.dst = some d) (t : TypeId) (x : Operand) (ho : o.op = .box t x) (cs : Array Value) (hx : a.eval x = .agg cs)
    (h : ∀ W', Row W' w.heap.size cs t → New w W' → wpList P ops Q rest (a.put (some d) (.pointer (some ⟨w.heap.size, 0, none⟩))) W') : wpList P ops Q (o :: rest) a w := by
  refine wpList_run hgd (.pointer (some ⟨w.heap.size, 0, none⟩)) (w.alloc (.cells cs t)) ?_ (by rw [hd]; exact h _ (Row.new w cs t) ((New.refl w).alloc _))
  unfold execOp
  simp [ho, hx, Instr.box, newVar, newRow, Value.cells]
theorem wpList_alloc_at (hgd : o.guard = none) (d : Tmp) (hd : o.dst = some d) (t : TypeId) (ho : o.op = .alloc t) (z : Array Value) (n b : Nat) (hi : (P.info? t).map (fun i => (i.zero, i.size, i.bytes)) = some (some (.agg z), n, b))
    (h : ∀ W', Row W' w.heap.size z t → New w W' → wpList P ops Q rest (a.put (some d) (.pointer (some ⟨w.heap.size, 0, none⟩))) W') : wpList P ops Q (o :: rest) a w :=
  wpList_alloc_zero hgd t ho z n b hi (by rw [hd]; exact h _ (Row.new w z t) ((New.refl w).alloc _))
theorem wpList_store_new (hgd : o.guard = none) (ty : TypeId) (x y : Operand) (ho : o.op = .store ty x y) (g : Nat) (cells : Array Value) (hx : a.eval x = .pointer (some ⟨g, 0, none⟩)) (hy : a.eval y = .agg cells)
    (t : TypeId) (cur : Array Value) (R : Row w g cur t) (hi : (P.info? ty).map (·.size) = some cells.size) (hs : cur.size = cells.size) (h1 : cells.all (·.oneCell') = true)
    (h : ∀ W', Row W' g cells t → But g w W' → wpList P ops Q rest (a.put o.dst undef) W') : wpList P ops Q (o :: rest) a w :=
  wpList_store_row hgd ty x y ho g cells hx hy t cur R hi hs h1 (h _ (R.setRow cells) ⟨rfl, rfl, rfl, by simp [World.setRow], fun k hk => setRow_other w g k cells hk⟩)
theorem wpList_build4 (hgd : o.guard = none) (t : TypeId) (x0 x1 x2 x3 : Operand) (ho : o.op = .build t #[(0, x0), (1, x1), (2, x2), (3, x3)]) (v0 v1 v2 v3 : Value) (h0 : a.eval x0 = v0) (h1 : a.eval x1 = v1) (h2 : a.eval x2 = v2) (h3 : a.eval x3 = v3) (cs : Array Value) (hb : P.built t [(0, v0), (1, v1), (2, v2), (3, v3)] = some cs)
    (h : wpList P ops Q rest (a.put o.dst (.agg cs)) w) : wpList P ops Q (o :: rest) a w := by
  have hv : ((#[(0, x0), (1, x1), (2, x2), (3, x3)] : Array (Nat × Operand)).map fun (i, x) => (i, a.eval x)).toList = [(0, v0), (1, v1), (2, v2), (3, v3)] := by simp [h0, h1, h2, h3]
  refine wpList_build hgd t _ ho (by rw [hv, hb]; rfl) ?_
  rw [hv, hb]
  exact h
theorem wpList_build3 (hgd : o.guard = none) (t : TypeId) (x0 x1 x2 : Operand) (ho : o.op = .build t #[(0, x0), (1, x1), (2, x2)]) (v0 v1 v2 : Value) (h0 : a.eval x0 = v0) (h1 : a.eval x1 = v1) (h2 : a.eval x2 = v2) (cs : Array Value) (hb : P.built t [(0, v0), (1, v1), (2, v2)] = some cs)
    (h : wpList P ops Q rest (a.put o.dst (.agg cs)) w) : wpList P ops Q (o :: rest) a w := by
  have hv : ((#[(0, x0), (1, x1), (2, x2)] : Array (Nat × Operand)).map fun (i, x) => (i, a.eval x)).toList = [(0, v0), (1, v1), (2, v2)] := by simp [h0, h1, h2]
  refine wpList_build hgd t _ ho (by rw [hv, hb]; rfl) ?_
  rw [hv, hb]
  exact h
theorem wpList_build2 (hgd : o.guard = none) (t : TypeId) (x0 x1 : Operand) (ho : o.op = .build t #[(0, x0), (1, x1)]) (v0 v1 : Value) (h0 : a.eval x0 = v0) (h1 : a.eval x1 = v1) (cs : Array Value) (hb : P.built t [(0, v0), (1, v1)] = some cs)
    (h : wpList P ops Q rest (a.put o.dst (.agg cs)) w) : wpList P ops Q (o :: rest) a w := by
  have hv : ((#[(0, x0), (1, x1)] : Array (Nat × Operand)).map fun (i, x) => (i, a.eval x)).toList = [(0, v0), (1, v1)] := by simp [h0, h1]
  refine wpList_build hgd t _ ho (by rw [hv, hb]; rfl) ?_
  rw [hv, hb]
  exact h
theorem wpList_build0 (hgd : o.guard = none) (t : TypeId) (ho : o.op = .build t #[]) (cs : Array Value) (hb : P.built t [] = some cs)
    (h : wpList P ops Q rest (a.put o.dst (.agg cs)) w) : wpList P ops Q (o :: rest) a w := by
  refine wpList_build hgd t _ ho (by simp [hb]) ?_
  simpa [hb] using h
theorem results_cell_tmp {fn : Func} {p q : Tmp} {ty : TypeId} (h : fn.results = #[.cell p ty, .tmp q]) (tmps : Array Value) (w : World) (g : Nat) (t : TypeId) (cs : Array Value) (fr : Nat × Nat) (d : TypeDesc) (v : Value)
    (hp : tmps.getD p undef = .pointer (some ⟨g, 0, none⟩)) (hq : tmps.getD q undef = v) (hg : w.heap[g]? = some (.cells cs t fr))
    (hu : P.underlying ty = some d) (hd : (match d with | .struct _ | .array _ _ => true | _ => false) = true) (hi : (P.info? ty).map (·.size) = some cs.size) :
    (results fn tmps).run P w = .ok (.tuple #[.agg cs, v]) w := by
  have hp' : tmps[p]?.getD undef = .pointer (some ⟨g, 0, none⟩) := by simpa using hp
  have hq' : tmps[q]?.getD undef = v := by simpa using hq
  simp [results, h, hp', hq', asAddr, run_loadVar_row w g t ty cs fr d hg hu hd hi]
end

theorem Calls.neww_same {P : Program} {f : FuncId} {args : Array Value} {W : World} {p : NewW W} {v : Value}
    (h : Calls P f args p.v fun e w' => e = .returned v ∧ w' = p.v) : Calls P f args p.v fun e w'' => e = .returned v ∧ ∃ q : NewW W, w'' = q.v :=
  h.mono fun _ _ ⟨he, hk⟩ => ⟨he, p, hk⟩

theorem pick_range (l : List Oper) : ∀ (m n : Nat), pick l (List.range' n m) = (l.drop n).take m
  | 0, n => by simp [pick]
  | m + 1, n => by
    rw [List.range'_succ, pick, pick_range l m (n + 1)]
    by_cases h : n < l.length
    · rw [List.getElem?_eq_getElem h, List.drop_eq_getElem_cons h]; rfl
    · rw [List.getElem?_eq_none (by omega), List.drop_eq_nil_of_le (by omega), List.drop_eq_nil_of_le (by omega)]; simp
theorem region_first {P : Program} {id : Nat} {Q : Exit → Act → World → Prop} {a : Act} {w : World} {l : List Oper} (n m : Nat) (W : World) (hW : New W w) (hm : P.follows .mixedOrders = true) (hB : partB .any l (List.range' 0 n) (List.range' n m) = true)
    (h : wpQuiet P l.toArray (fun w' => ∃ p : NewW W, w' = p.v) (fun a' => ∀ w', (∃ p : NewW W, w' = p.v) → wpList P l.toArray Q ((l.drop n).take m) a' w') (l.take n) a) : (Code.region id l.toArray true).wp P Q a w := by
  refine region_ord (List.range' 0 n) (List.range' n m) W hW hm hB ?_
  rw [pick_range, pick_range]
  exact h


theorem wpList_load_want {P : Program} {ops : Array Oper} {rest : List Oper} {o : Oper} {a : Act} {w : World} {Q : Exit → Act → World → Prop} (hw : Region.wanted o (yielded ops a.tmps) = true) (ty : TypeId) (x : Operand) (ho : o.op = .load ty x)
    (g : Nat) (hx : a.eval x = .pointer (some ⟨g, 0, none⟩)) (t : TypeId) (cs : Array Value) (d : TypeDesc) (hg : Row w g cs t)
    (hu : P.underlying ty = some d) (hd : (match d with | .struct _ | .array _ _ => true | _ => false) = true) (hi : (P.info? ty).map (·.size) = some cs.size)
    (h : wpList P ops Q rest (a.put o.dst (.agg cs)) w) : wpList P ops Q (o :: rest) a w :=
  BigFrame.wpList_want hw fun _ hK => wp_load_row ty x ho g hx t cs (0, 0) d hg hu hd hi (hK _ _ h)


theorem wpList_load_midw {P : Program} {ops : Array Oper} {rest : List Oper} {o : Oper} {a : Act} {w : World} {Q : Exit → Act → World → Prop} (hw : Region.wanted o (yielded ops a.tmps) = true) (ty : TypeId) (x : Operand) (ho : o.op = .load ty x)
    (b off : Nat) (hx : a.eval x = .pointer (some ⟨b, off, none⟩)) (cs : List Value) (d : TypeDesc) (hc : w.rangeAt b off cs)
    (hu : P.underlying ty = some d) (hd : d.isRow = true) (hi : (P.info? ty).map (·.size) = some cs.length)
    (h : wpList P ops Q rest (a.put o.dst (.agg cs.toArray)) w) : wpList P ops Q (o :: rest) a w :=
  BigFrame.wpList_want hw fun _ hK => wp_load_mid ty x ho b off hx cs d hc hu hd hi (hK _ _ h)


end Go.Proofs.YtecamiefpdkjoaaDoor
