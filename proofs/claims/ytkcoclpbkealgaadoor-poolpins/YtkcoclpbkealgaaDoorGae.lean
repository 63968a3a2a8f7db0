/-
  Operations over many cells at once: a page made, boxed, built, laid into a row.
-/
import Derived.Test.YtkcoclpbkealgaaDoorGad
import Derived.Great.BuildSlice
namespace Go.Proofs.YtkcoclpbkealgaaDoor
open Go.RowKit
set_option maxRecDepth 20000

section
variable {P : Program}
/-- An operation whose run is known. -/
theorem wpList_run {w : World} {ops : Array Oper} {rest : List Oper} {o : Oper} {a : Act} {Q : Exit → Act → World → Prop} (hgd : o.guard = none) (v : Value) (w' : World) (hrun : (execOp a.eval o).run P w = .ok (.value v) w')
    (h : wpList P ops Q rest (a.put o.dst v) w') : wpList P ops Q (o :: rest) a w :=
  wpList_plain hgd fun _ hK => by unfold Oper.wp; rw [hrun]; exact hK _ _ h
/-- One that only computes, inside a region that draws. -/
theorem wpQuiet_run {ops : Array Oper} {Q : Act → Prop} {a : Act} {o : Oper} {rest : List Oper} {C : World → Prop} (hw : Region.wanted o (yielded ops a.tmps) = true) (v : Value) (hrun : ∀ w, C w → (execOp a.eval o).run P w = .ok (.value v) w)
    (h : wpQuiet P ops C Q rest (a.put o.dst v)) : wpQuiet P ops C Q (o :: rest) a :=
  BigFrame.wpQuiet_want hw fun K hK => ⟨v, fun w hw => by
    unfold Oper.quietAt
    rw [hrun w hw]
    exact ⟨rfl, rfl⟩, hK _ h⟩

theorem wpList_alloc_zero {w : World} {ops : Array Oper} {rest : List Oper} {o : Oper} {a : Act} {Q : Exit → Act → World → Prop} (hgd : o.guard = none) (t : TypeId) (ho : o.op = .alloc t) (z : Array Value) (n b : Nat) (hi : (P.info? t).map (fun i => (i.zero, i.size, i.bytes)) = some (some (.agg z), n, b))
    (h : wpList P ops Q rest (a.put o.dst (.pointer (some ⟨w.heap.size, 0, none⟩))) (w.alloc (.cells z t))) : wpList P ops Q (o :: rest) a w := by
  refine wpList_run hgd _ _ ?_ h
  obtain ⟨i0, hi0, hz0, hz1, hz2⟩ := info_parts hi
  unfold execOp
  simp [ho, Instr.alloc, zeroValue, typeInfo, hi0, hz0, newVar, newRow, Value.cells]

theorem fold_put (off : Nat) : ∀ (cs : List Value) (n : Nat) (z : Array Value), off + n + cs.length ≤ z.size → ((cs.zipIdx n).foldl (fun a (x : Value × Nat) => a.setIfInBounds (off + x.2) x.1) z) = (put z.toList (off + n) cs).toArray
  | [], n, z, _ => by rw [put_nil]; rfl
  | c :: cs, n, z, h => by
    simp only [List.length_cons] at h
    rw [List.zipIdx_cons, List.foldl_cons, fold_put off cs (n + 1) _ (by simp; omega), put_cons _ _ _ _ (by rw [Array.length_toList]; omega)]
    simp [Nat.add_assoc]
theorem fold_put_arr (off : Nat) (cs z : Array Value) (h : off + cs.size ≤ z.size) : cs.zipIdx.foldl (fun a (x : Value × Nat) => a.setIfInBounds (off + x.2) x.1) z = (put z.toList off cs.toList).toArray := by
  have := fold_put off cs.toList 0 z (by simpa using h)
  rw [← Array.foldl_toList, Array.toList_zipIdx]
  exact this

theorem fill_step {place : Nat → Option (Nat × Nat)} {i off size : Nat} {v : Value} {rest : List (Nat × Value)} {cells : Array Value} (hp : place i = some (off, size)) (h1 : v.cells.size = size) (h2 : off + size ≤ cells.size) :
    Instr.fill place cells ((i, v) :: rest) = Instr.fill place (put cells.toList off v.cells.toList).toArray rest := by
  subst h1
  conv => lhs; unfold Instr.fill
  rw [hp]
  simp only
  rw [if_neg (by simp; omega), fold_put_arr off _ _ h2]

theorem run_buildOne (w : World) (t e : TypeId) (cs : Array Value) (z : Value) (b n : Nat) (hu : P.underlying t = some (.slice e)) (hi : (P.info? e).map (fun i => (i.zero, i.size, i.bytes)) = some (some z, n, b)) (hc : cs.size = n) (hn : 0 < n) (hs : n ≤ 1000) :
    (Instr.buildSlice t 1 #[(0, .agg cs)]).run P w = .ok (.slice (some ⟨w.heap.size, 0, none⟩) 1 1) (w.alloc (.cells cs e)) := by
  obtain ⟨i0, hi0, hz0, hz1, hz2⟩ := info_parts hi
  refine run_buildSlice w t e 1 _ cs i0 z hu hi0 hz0 (by rw [hz1]; omega) (by rw [hz1]; omega) ?_
  rw [hz1]
  have := Go.Great.fill_whole (s := n) hn [.agg cs] ((Array.range (1 * n)).map (z.cells[· % z.cells.size]!)) (by simp [Value.cells, hc]) (by simp)
  simpa [Value.cells] using this
theorem run_buildCell (w : World) (t e : TypeId) (v z : Value) (b : Nat) (hu : P.underlying t = some (.slice e)) (hi : (P.info? e).map (fun i => (i.zero, i.size, i.bytes)) = some (some z, 1, b)) (hc : v.cells = #[v]) :
    (Instr.buildSlice t 1 #[(0, v)]).run P w = .ok (.slice (some ⟨w.heap.size, 0, none⟩) 1 1) (w.alloc (.cells #[v] e)) := by
  obtain ⟨i0, hi0, hz0, hz1, hz2⟩ := info_parts hi
  refine run_buildSlice w t e 1 _ #[v] i0 z hu hi0 hz0 (by rw [hz1]; omega) (by rw [hz1]; omega) ?_
  rw [hz1]
  have := Go.Great.fill_whole (s := 1) (by decide) [v] ((Array.range (1 * 1)).map (z.cells[· % z.cells.size]!)) (by simp [hc]) (by simp)
  simpa [hc] using this
end

theorem fields80 : (match Tryd.prog.underlying 113 with | some (.struct fields) => fields.toList.mapM (fun f => (Tryd.prog.info? f.type).map fun i => (f.offset, i.size)) | _ => none) = some [(0, 1), (1, 256)] := by kernel_rfl
theorem built80 (a : Int) (cs : Array Value) (hc : cs.size = 256) : Tryd.prog.built 113 [(0, .int .i64 a), (1, .agg cs)] = some (.int .i64 a :: cs.toList).toArray := by
  obtain ⟨i0, hi0, hz0, hz1, hz2⟩ := info_parts info80
  have hf := fields80
  cases hu : Tryd.prog.underlying 113 with
  | none => rw [hu] at hf; simp at hf
  | some d =>
    cases d with
    | struct fields =>
      rw [hu] at hf
      simp only at hf
      unfold Program.built
      simp only [hi0, hu, hz0, hf]
      have hzs : (waitL (0, zeros)).length = 257 := by unfold waitL; rw [List.length_cons, cellsL_length, zeros_length]
      have hz' : (Value.agg (waitL (0, zeros)).toArray).cells = (waitL (0, zeros)).toArray := rfl
      have hp1 : (put (waitL (0, zeros)).toArray.toList 0 (Value.int .i64 a).cells.toList).length = 257 := by
        rw [put_length _ _ _ (by show 0 + 1 ≤ (waitL (0, zeros)).length; rw [hzs]; decide)]; exact hzs
      rw [hz', fill_step (i := 0) (v := .int .i64 a) (off := 0) (size := 1) (by rfl) (by rfl) (by rw [List.size_toArray, hzs]; decide)]
      rw [fill_step (i := 1) (v := .agg cs) (off := 1) (size := 256) (by rfl) hc (by rw [List.size_toArray, hp1]; decide)]
      unfold Instr.fill
      congr 2
      show put (put (waitL (0, zeros)) 0 [Value.int .i64 a]) 1 cs.toList = _
      unfold waitL
      have h1 := put_append [] [Value.int .i64 ((0 : Nat) : Int)] (cellsL zeros) [Value.int .i64 a] rfl
      simp only [List.nil_append, List.length_nil, List.cons_append] at h1
      rw [h1]
      have h2 := put_append [Value.int .i64 a] (cellsL zeros) [] cs.toList (by rw [Array.length_toList, hc, cellsL_length, zeros_length])
      simp only [List.append_nil, List.length_singleton, List.cons_append, List.nil_append] at h2
      exact h2
    | _ => rw [hu] at hf; simp at hf

/-- A text over a piece of a row of bytes. -/
theorem run_copy_mid {w : World} {g o : Nat} (ht : w.there g o 64) (t : ByteArray) (h64 : 64 ≤ t.size) (ty : TypeId) :
    (Builtin.copy_ #[22, 9] ty #[.slice (some ⟨g, o, none⟩) 64 64, .string t]).run Tryd.prog w = .ok (goInt 64) (w.setCells g o (cellsL ((L t).take 64))) := by
  obtain ⟨i0, hi0, _, _, _⟩ := info_parts info5
  have hl : (cellsL ((L t).take 64)).length = 64 := by rw [cellsL_length, List.length_take, L_size]; omega
  have hs := run_storeCells_cells (P := Tryd.prog) g o (cellsL ((L t).take 64)) 0 w (fun j hj => (ht j (by omega)).1) (fun j hj => (ht j (by omega)).2) (cellsL_one _)
  have he : (List.map (fun b => Value.int .u8 (b.toNat : Int)) t.data.toList).take 64 = cellsL ((L t).take 64) := by
    unfold cellsL L
    rw [List.map_take]
  have hm : Nat.min t.size 64 = 64 := by show min t.size 64 = 64; omega
  simp [Builtin.copy_, run_underlying Tryd.underlying22, Builtin.lenOf, Builtin.firstCells, sizeOf, typeInfo, hi0, hm]
  rw [he, hs]
  rfl
theorem wpList_copy_mid {w : World} {ops : Array Oper} {rest : List Oper} {o : Oper} {a : Act} {Q : Exit → Act → World → Prop} (hgd : o.guard = none) (d s : Operand)
    (ho : o.op = .call { callee := .builtin .copy, args := #[d, s], argTypes := #[22, 9] }) (g off : Nat) (t : ByteArray) (hd : a.eval d = .slice (some ⟨g, off, none⟩) 64 64) (hs : a.eval s = .string t)
    (ht : w.there g off 64) (h64 : 64 ≤ t.size)
    (h : wpList Tryd.prog ops Q rest (a.put o.dst (goInt 64)) (w.setCells g off (cellsL ((L t).take 64)))) : wpList Tryd.prog ops Q (o :: rest) a w := by
  refine wpList_plain hgd fun K hK => ?_
  have hrun := run_copy_mid ht t h64 o.type
  unfold Oper.wp
  simp [execOp, ho, resolve, invoke, builtin, hd, hs, hrun, Result.andThen]
  exact hK _ _ h
theorem Row.there {w : World} {g : Nat} {cs : Array Value} {t : TypeId} (h : Row w g cs t) (o n : Nat) (hn : o + n ≤ cs.size) : w.there g o n := fun j hj => by
  refine ⟨?_, h.frozen _⟩
  rw [h.cell, Array.getElem?_eq_getElem (by omega)]; rfl
theorem Row.range {w : World} {g : Nat} {cs : Array Value} {t : TypeId} (h : Row w g cs t) (o n : Nat) : w.rangeAt g o ((cs.toList.drop o).take n) := fun j v hv => by
  rw [List.getElem?_take] at hv
  split at hv
  · rw [List.getElem?_drop] at hv; rw [h.cell, ← hv, Array.getElem?_toList]
  · cases hv

/-- The first k sectors are laid. -/
def fillN (s : List UInt8) (k : Nat) : List UInt8 := s.take (64 * k) ++ zeros.drop (64 * k)
theorem fillN_zero (s : List UInt8) : fillN s 0 = zeros := by unfold fillN; simp
theorem fillN_length {s : List UInt8} (h : s.length = 256) {k : Nat} (hk : k ≤ 4) : (fillN s k).length = 256 := by
  unfold fillN; rw [List.length_append, List.length_take, List.length_drop, zeros_length]; omega
theorem fillN_next {s : List UInt8} (h : s.length = 256) {k : Nat} (hk : k < 4) : put (fillN s k) (64 * k) ((s.drop (64 * k)).take 64) = fillN s (k + 1) := by
  unfold fillN
  have h1 : (s.take (64 * k)).length = 64 * k := by rw [List.length_take]; omega
  have h2 := put_append (s.take (64 * k)) ((zeros.drop (64 * k)).take 64) (zeros.drop (64 * (k + 1))) ((s.drop (64 * k)).take 64) (by simp only [List.length_take, List.length_drop, zeros_length]; omega)
  rw [h1, show 64 * (k + 1) = 64 * k + 64 by omega, ← List.drop_drop, List.take_append_drop] at h2
  rw [h2, show 64 * (k + 1) = 64 * k + 64 by omega, ← List.append_assoc, List.take_add, List.drop_drop]
theorem fillN_all {s : List UInt8} (h : s.length = 256) : fillN s 4 = s := by
  unfold fillN
  rw [List.take_of_length_le (by omega), List.drop_eq_nil_of_le (by rw [zeros_length]; decide), List.append_nil]

end Go.Proofs.YtkcoclpbkealgaaDoor
