/-
  Rows of pages in memory; a disk in memory; what a call may change.
-/
import Derived.Test.YtlbnikkpfhclgaaDoorRows
import Derived.Test.YtlbnikkpfhclgaaDoorPlain
import Derived.Test.YtlbnikkpfhclgaaDoorPart
import Derived.Deep.AppendLies
import Derived.OwnWalk
import Derived.Laws.BytesString
namespace Go.Proofs.YtlbnikkpfhclgaaDoor
open Go.RowKit

/-- The bytes as cells. -/
def cellsL (l : List UInt8) : List Value := l.map fun c => Value.int .u8 (c.toNat : Int)
theorem cellsL_length (l : List UInt8) : (cellsL l).length = l.length := by unfold cellsL; simp
theorem cellsL_append (l m : List UInt8) : cellsL (l ++ m) = cellsL l ++ cellsL m := by unfold cellsL; rw [List.map_append]
theorem cellsL_one (l : List UInt8) : ∀ v ∈ cellsL l, v.oneCell' = true := fun v hv => by
  unfold cellsL at hv; obtain ⟨c, _, rfl⟩ := List.mem_map.1 hv; rfl
theorem cellsL_put (l : List UInt8) (o : Nat) (s : List UInt8) : put (cellsL l) o (cellsL s) = cellsL (put l o s) := (put_map _ _ _ _).symm
theorem cellsL_size (l : List UInt8) : (cellsL l).toArray.size = l.length := by rw [List.size_toArray, cellsL_length]
theorem cellsL_all (l : List UInt8) : (cellsL l).toArray.all (·.oneCell') = true := all_oneCell_toArray (cellsL_one l)
theorem cellsL_get {l : List UInt8} {j : Nat} {c : UInt8} (h : l[j]? = some c) : (cellsL l)[j]? = some (.int .u8 (c.toNat : Int)) := by
  unfold cellsL; rw [List.getElem?_map, h]; rfl
theorem cellsL_inj : ∀ {l m : List UInt8}, cellsL l = cellsL m → l = m
  | [], [], _ => rfl
  | [], _ :: _, h => by simp [cellsL] at h
  | _ :: _, [], h => by simp [cellsL] at h
  | a :: l, b :: m, h => by
    simp only [cellsL, List.map_cons, List.cons.injEq] at h
    obtain ⟨h1, h2⟩ := h
    have h3 : a.toNat = b.toNat := by injection h1; omega
    rw [UInt8.toNat_inj.1 h3, cellsL_inj (l := l) (m := m) h2]

/-- A block that is known whole, and may be written. -/
def Row (w : World) (g : Nat) (cs : Array Value) (t : TypeId) : Prop := w.heap[g]? = some (.cells cs t (0, 0))
theorem Row.lt {w : World} {g : Nat} {cs : Array Value} {t : TypeId} (h : Row w g cs t) : g < w.heap.size := (Array.getElem?_eq_some_iff.1 h).1
theorem Row.cell {w : World} {g : Nat} {cs : Array Value} {t : TypeId} (h : Row w g cs t) (j : Nat) : w.cell? ⟨g, j, none⟩ = cs[j]? := cell_of_row w g j cs t (0, 0) h
theorem Row.frozen {w : World} {g : Nat} {cs : Array Value} {t : TypeId} (h : Row w g cs t) (j : Nat) : w.frozen? ⟨g, j, none⟩ = false := frozen_of_row w g j cs t h
theorem Row.alloc {w : World} {g : Nat} {cs : Array Value} {t : TypeId} (h : Row w g cs t) (o : Obj) : Row (w.alloc o) g cs t := (heap_alloc_old w o h.lt).trans h
theorem Row.new (w : World) (cs : Array Value) (t : TypeId) : Row (w.alloc (.cells cs t)) w.heap.size cs t := heap_alloc_new w _
theorem Row.set {w : World} {g : Nat} {cs : Array Value} {t : TypeId} (h : Row w g cs t) (i : Nat) (v : Value) : Row (w.setCell ⟨g, i, none⟩ v) g (cs.setIfInBounds i v) t := heap_setCell_same w g i cs t v h
theorem Row.of {w w' : World} {g : Nat} {cs : Array Value} {t : TypeId} (h : Row w g cs t) (e : w'.heap[g]? = w.heap[g]?) : Row w' g cs t := e.trans h
theorem Row.after {w w' : World} {g : Nat} {cs : Array Value} {t : TypeId} (h : Row w g cs t) (k : New w w') : Row w' g cs t := h.of (k.block g h.lt)

theorem setCells_other (b : Nat) : ∀ (vs : List Value) (o : Nat) (w : World) (k : Nat), k ≠ b → (w.setCells b o vs).heap[k]? = w.heap[k]?
  | [], _, _, _, _ => rfl
  | v :: r, o, w, k, h => by rw [World.setCells, setCells_other b r (o + 1) _ k h, Below.heap_setCell _ _ _ _ h]
theorem setCells_size (b : Nat) : ∀ (vs : List Value) (o : Nat) (w : World), (w.setCells b o vs).heap.size = w.heap.size
  | [], _, _ => rfl
  | v :: r, o, w => by rw [World.setCells, setCells_size b r (o + 1) _]; simp [World.setCell]
theorem setCells_rest (b : Nat) : ∀ (vs : List Value) (o : Nat) (w : World), (w.setCells b o vs).os = w.os ∧ (w.setCells b o vs).tape = w.tape ∧ (w.setCells b o vs).output = w.output
  | [], _, _ => ⟨rfl, rfl, rfl⟩
  | v :: r, o, w => by rw [World.setCells]; exact setCells_rest b r (o + 1) _
theorem Row.setCells {g : Nat} {t : TypeId} : ∀ (vs : List Value) (o : Nat) (w : World) (cs : Array Value), Row w g cs t → o + vs.length ≤ cs.size → Row (w.setCells g o vs) g (put cs.toList o vs).toArray t
  | [], o, w, cs, h, _ => by rw [put_nil]; exact h
  | v :: r, o, w, cs, h, hl => by
    simp only [List.length_cons] at hl
    rw [World.setCells, put_cons _ _ _ _ (by simp; omega)]
    have := Row.setCells r (o + 1) (w.setCell ⟨g, o, none⟩ v) _ (h.set o v) (by simp; omega)
    rw [Array.toList_setIfInBounds] at this
    exact this
theorem New.setCells {w w' : World} (h : New w w') {b : Nat} (hb : w.heap.size ≤ b) (o : Nat) (vs : List Value) : New w (w'.setCells b o vs) := by
  obtain ⟨h1, h2, h3⟩ := setCells_rest b vs o w'
  exact ⟨h1.trans h.os, h2.trans h.tape, h3.trans h.output, by rw [setCells_size]; exact h.size, fun k hk => (setCells_other b vs o w' k (by omega)).trans (h.block k hk)⟩
theorem New.setCell {w w' : World} (h : New w w') {a : Addr} (hb : w.heap.size ≤ a.block) (v : Value) : New w (w'.setCell a v) := Below.setCell h hb v
theorem New.grown {w w1 w2 : World} {row : Option Nat} (h : New w w1) (hg : w1.grownBy w2 row) (hr : ∀ k, row = some k → w.heap.size ≤ k) : New w w2 := Below.grown h hg h.size hr

section
variable {P : Program}
/-- An operation whose run is known. -/
theorem wpList_run {w : World} {ops : Array Oper} {rest : List Oper} {o : Oper} {a : Act} {Q : Exit → Act → World → Prop} (hgd : o.guard = none) (v : Value) (w' : World) (hrun : (execOp a.eval o).run P w = .ok (.value v) w')
    (h : wpList P ops Q rest (a.put o.dst v) w') : wpList P ops Q (o :: rest) a w :=
  wpList_plain hgd fun _ hK => by unfold Oper.wp; rw [hrun]; exact hK _ _ h
/-- One that only computes, inside a region that draws. -/
theorem wpQuiet_run {ops : Array Oper} {Q : Act → Prop} {a : Act} {o : Oper} {rest : List Oper} {C : World → Prop} (hw : Region.wanted o (yielded ops a.tmps) = true) (v : Value) (hrun : ∀ w, C w → (execOp a.eval o).run P w = .ok (.value v) w)
    (h : wpQuiet P ops C Q rest (a.put o.dst v)) : wpQuiet P ops C Q (o :: rest) a :=
  BigFrame.wpQuiet_want hw fun K hK => ⟨v, fun w hw => by
    unfold Oper.quietAt
    rw [hrun w hw]
    exact ⟨rfl, rfl⟩, hK _ h⟩

theorem wpList_alloc_zero {w : World} {ops : Array Oper} {rest : List Oper} {o : Oper} {a : Act} {Q : Exit → Act → World → Prop} (hgd : o.guard = none) (t : TypeId) (ho : o.op = .alloc t) (z : Array Value) (n b : Nat) (hi : (P.info? t).map (fun i => (i.zero, i.size, i.bytes)) = some (some (.agg z), n, b))
    (h : wpList P ops Q rest (a.put o.dst (.pointer (some ⟨w.heap.size, 0, none⟩))) (w.alloc (.cells z t))) : wpList P ops Q (o :: rest) a w := by
  refine wpList_run hgd _ _ ?_ h
  obtain ⟨i0, hi0, hz0, hz1, hz2⟩ := info_parts hi
  unfold execOp
  simp [ho, Instr.alloc, zeroValue, typeInfo, hi0, hz0, newVar, newRow, Value.cells]

theorem fold_put (off : Nat) : ∀ (cs : List Value) (n : Nat) (z : Array Value), off + n + cs.length ≤ z.size → ((cs.zipIdx n).foldl (fun a (x : Value × Nat) => a.setIfInBounds (off + x.2) x.1) z) = (put z.toList (off + n) cs).toArray
  | [], n, z, _ => by rw [put_nil]; rfl
  | c :: cs, n, z, h => by
    simp only [List.length_cons] at h
    rw [List.zipIdx_cons, List.foldl_cons, fold_put off cs (n + 1) _ (by simp; omega), put_cons _ _ _ _ (by rw [Array.length_toList]; omega)]
    simp [Nat.add_assoc]
theorem fold_put_arr (off : Nat) (cs z : Array Value) (h : off + cs.size ≤ z.size) : cs.zipIdx.foldl (fun a (x : Value × Nat) => a.setIfInBounds (off + x.2) x.1) z = (put z.toList off cs.toList).toArray := by
  have := fold_put off cs.toList 0 z (by simpa using h)
  rw [← Array.foldl_toList, Array.toList_zipIdx]
  exact this

theorem fill_step {place : Nat → Option (Nat × Nat)} {i off size : Nat} {v : Value} {rest : List (Nat × Value)} {cells : Array Value} (hp : place i = some (off, size)) (h1 : v.cells.size = size) (h2 : off + size ≤ cells.size) :
    Instr.fill place cells ((i, v) :: rest) = Instr.fill place (put cells.toList off v.cells.toList).toArray rest := by
  subst h1
  conv => lhs; unfold Instr.fill
  rw [hp]
  simp only
  rw [if_neg (by simp; omega), fold_put_arr off _ _ h2]

end

theorem Row.there {w : World} {g : Nat} {cs : Array Value} {t : TypeId} (h : Row w g cs t) (o n : Nat) (hn : o + n ≤ cs.size) : w.there g o n := fun j hj => by
  refine ⟨?_, h.frozen _⟩
  rw [h.cell, Array.getElem?_eq_getElem (by omega)]; rfl
theorem Row.range {w : World} {g : Nat} {cs : Array Value} {t : TypeId} (h : Row w g cs t) (o n : Nat) : w.rangeAt g o ((cs.toList.drop o).take n) := fun j v hv => by
  rw [List.getElem?_take] at hv
  split at hv
  · rw [List.getElem?_drop] at hv; rw [h.cell, ← hv, Array.getElem?_toList]
  · cases hv

theorem Row.setRow {w : World} {g : Nat} {cs : Array Value} {t : TypeId} (h : Row w g cs t) (cs' : Array Value) : Row (w.setRow g cs') g cs' t := setRow_heap w g cs cs' t _ h
theorem Row.setRowOther {w : World} {g : Nat} {cs : Array Value} {t : TypeId} (h : Row w g cs t) {k : Nat} (hk : g ≠ k) (cs' : Array Value) : Row (w.setRow k cs') g cs t := (setRow_other w k g cs' hk).trans h
theorem New.setRow {w w' : World} (h : New w w') {g : Nat} (hg : w.heap.size ≤ g) (cs : Array Value) : New w (w'.setRow g cs) :=
  ⟨h.os, h.tape, h.output, by have := h.size; simpa [World.setRow] using this, fun k hk => (setRow_other w' g k cs (by omega)).trans (h.block k hk)⟩

theorem info5 : (Tryd.prog.info? 5).map (fun i => (i.zero, i.size, i.bytes)) = some (some (.int .u8 0), 1, 1) := by kernel_rfl
theorem ret_int {a b : Int} (h : a = b) : Ending.returned (.int .i64 a) = .returned (.int .i64 b) := by rw [h]
theorem ret_bool {a b : Bool} (h : a = b) : Ending.returned (.bool a) = .returned (.bool b) := by rw [h]
theorem ret_str {a b : ByteArray} (h : a = b) : Ending.returned (.string a) = .returned (.string b) := by rw [h]
theorem ret_u32 {a b : Int} (h : a = b) : Ending.returned (.int .u32 a) = .returned (.int .u32 b) := by rw [h]

end Go.Proofs.YtlbnikkpfhclgaaDoor
