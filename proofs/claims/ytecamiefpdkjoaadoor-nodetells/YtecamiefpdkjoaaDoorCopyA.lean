/-
  A copy of a list of texts onto an empty slice; a region that draws its order, its reads taken first.
-/
import Derived.Test.YtecamiefpdkjoaaDoorBackA
import Derived.Test.YtecamiefpdkjoaaDoorTake
import Derived.Test.YtecamiefpdkjoaaDoorNdItem
import Derived.Deep.Upon
import Derived.ArgAppend
namespace Go.Proofs.YtecamiefpdkjoaaDoor
open Go.RowKit
set_option maxRecDepth 20000
set_option linter.unusedVariables false

theorem run_buildNil (w : World) : (Instr.buildSlice 22 0 #[]).run Tryd.prog w = .ok (.slice (some ⟨w.heap.size, 0, none⟩) 0 0) (w.alloc (.cells #[] 9)) := by
  obtain ⟨i0, hi0, hz0, hz1, hz2⟩ := info_parts info9
  simp [Instr.buildSlice, run_underlying Tryd.underlying22, sizeOf, typeInfo, hi0, newRow, Instr.fill]
  exact congrArg (fun z => w.alloc (.cells z 9)) (Array.ext' (by simp))
theorem copy_app (W : World) (G : Nat) (R : Row W G #[] 9) (a : Option Addr) (c : Nat) (hs : List (List UInt8)) (hT : Tx W a hs) (hl : hs.length ≤ 3000) :
    ∃ g d W', (Builtin.append_ #[22, 22] 22 #[.slice (some ⟨G, 0, none⟩) 0 0, .slice a hs.length c]).run Tryd.prog W = .ok (.slice (some ⟨g, 0, none⟩) hs.length d) W' ∧ New W W' ∧ Tx W' (some ⟨g, 0, none⟩) hs ∧ (∃ cur, Row W' g cur 9) ∧ (g = G ∨ W.heap.size ≤ g) := by
  obtain ⟨i0, hi0, hz0, hz1, hz2⟩ := info_parts info9
  by_cases h0 : hs = []
  · subst h0
    refine ⟨G, 0, W, ?_, New.refl W, Tx.nil _ _, ⟨_, R⟩, .inl rfl⟩
    refine run_append_nothing W 22 22 22 9 i0 Tryd.underlying22 hi0 (some ⟨G, 0, none⟩) 0 0 (Nat.le_refl _) _ ⟨.inl ⟨9, Tryd.underlying22⟩, fun w' => ?_, ?_, ?_, by simp, fun u hu => by cases hu⟩
    · simp [Builtin.lenOf]
    · cases a <;> simp [Builtin.firstCells, loadCells, loadCellsFrom]
    · cases a <;> simp [Builtin.firstCells, loadCells, loadCellsFrom]
  · have hpos : 0 < hs.length := List.length_pos_iff.2 h0
    obtain ⟨x, rfl, hx⟩ := hT hpos
    obtain ⟨v', W', hr, hown, hgrow⟩ := run_append_arg_grows (P := Tryd.prog) W 22 22 9 i0 _ 1 16 Tryd.underlying22 hi0 hz0 hz1 hz2 rfl (by decide) ⟨G, 0, none⟩ 0 0 [] rfl (fun j u hj => by simp at hj) x hs.length c (hs.map fun h => Value.string (bs h)) (by rw [List.length_map]; omega)
      (fun j u hj => by
        rw [List.getElem?_map] at hj
        cases hy : hs[j]? with
        | none => rw [hy] at hj; cases hj
        | some y => rw [hy] at hj; cases hj; exact hx j y hy) (by omega) (by unfold maxLen; omega) (by omega)
    rw [Nat.zero_add] at hown
    obtain ⟨a', c', rfl, hT', hB⟩ := owns_tx rfl hown
    obtain ⟨x', rfl, _⟩ := hT' hpos
    rcases hown.2 with ⟨h1, _⟩ | ⟨g, cap, cur, hv, hb, hg, _⟩
    · cases h1
    · cases hv
      exact ⟨g, _, W', hr, ⟨hgrow.os, hgrow.tape, hgrow.output, hgrow.size, fun k hk => hgrow.block k hk (by simp)⟩, hT', ⟨cur, hg⟩, .inr hb⟩

section
variable {P : Program} {Q : Exit → Act → World → Prop}
def readsFirstB (md : Region.Mode) (l : List Oper) (rs : List Nat) (m z : Nat) : Bool :=
  Region.noSelect l.toArray && insideB l.length rs && readsB md l.toArray z rs (Array.replicate l.toArray.size false) && (rs.length + m == l.length)
theorem region_reads {id : Nat} {a : Act} {w : World} {l : List Oper} (rs : List Nat) (m z : Nat) (S : World → Prop) (hS : S w.drew) (hm : P.follows .mixedOrders = true) (hB : readsFirstB .any l rs m z = true) (hQ : ∀ d v c a w, Q (.panic c) (a.put d v) w → Q (.panic c) a w)
    (h : wpQuiet P l.toArray S (fun a' => wpG P .any l.toArray Q S z m (fullAt rs (Array.replicate l.toArray.size false)) a' w.drew) (pick l rs) a) : (Code.region id l.toArray true).wp P Q a w := by
  simp only [readsFirstB, Bool.and_eq_true, beq_iff_eq] at hB
  obtain ⟨⟨⟨h1, h2⟩, h4⟩, h6⟩ := hB
  refine wpG.region z S hm ?_
  have := wpG.reads (P := P) (Q := Q) (S := S) (z := z) (md := .any) h1 hQ rs m (Array.replicate l.toArray.size false) a w.drew hS h2 h4 h
  rw [h6] at this
  exact this
theorem exec_buildNil {o : Oper} {a : Act} {T : TypeId} {v : Value} {w w' : World} (ho : o.op = .buildSlice T 0 #[]) (hr : (Instr.buildSlice T 0 #[]).run P w = .ok v w') : (execOp a.eval o).run P w = .ok (.value v) w' := by
  unfold execOp
  simp only [ho, List.map_toArray, List.map_nil, Sem.run_bind, hr, Result.andThen_ok, Sem.run_pure]
theorem exec_build6 {o : Oper} {a : Act} {w : World} {T : TypeId} {x0 x1 x2 x3 x4 x5 : Operand} {v0 v1 v2 v3 v4 v5 r : Value} (ho : o.op = .build T #[(0, x0), (1, x1), (2, x2), (3, x3), (4, x4), (5, x5)]) (h0 : a.eval x0 = v0) (h1 : a.eval x1 = v1) (h2 : a.eval x2 = v2) (h3 : a.eval x3 = v3) (h4 : a.eval x4 = v4) (h5 : a.eval x5 = v5) (hr : (Instr.build T #[(0, v0), (1, v1), (2, v2), (3, v3), (4, v4), (5, v5)]).run P w = .ok r w) : (execOp a.eval o).run P w = .ok (.value r) w := by
  unfold execOp
  simp only [ho, List.map_toArray, List.map_cons, List.map_nil, h0, h1, h2, h3, h4, h5, Sem.run_bind, hr, Result.andThen_ok, Sem.run_pure]
theorem exec_alloc {o : Oper} {a : Act} {w : World} {T : TypeId} {z : Array Value} {n b : Nat} (ho : o.op = .alloc T) (hi : (P.info? T).map (fun i => (i.zero, i.size, i.bytes)) = some (some (.agg z), n, b)) : (execOp a.eval o).run P w = .ok (.value (.pointer (some ⟨w.heap.size, 0, none⟩))) (w.alloc (.cells z T)) := by
  obtain ⟨i0, hi0, hz0, hz1, hz2⟩ := info_parts hi
  unfold execOp
  simp [ho, Instr.alloc, newVar, newRow, zeroValue, typeInfo, hi0, hz0, Value.cells]
end
theorem built24_six (k : Int) (p : ByteArray) (has : Bool) (v : ByteArray) (m : Int) (a : Option Addr) (n c : Nat) : Tryd.prog.built 24 [(0, .int .i64 k), (1, .string p), (2, .bool has), (3, .string v), (4, .int .i64 m), (5, .slice a n c)] = some #[.int .i64 k, .string p, .bool has, .string v, .int .i64 m, .slice a n c] := by kernel_rfl
theorem run_build24 (w : World) (I : It) (a : Option Addr) (c : Nat) : (Instr.build 24 #[(0, .int .i64 I.k), (1, .string (bs I.p)), (2, .bool I.has), (3, .string (bs I.v)), (4, .int .i64 I.m), (5, .slice a I.hs.length c)]).run Tryd.prog w = .ok (.agg (itC I a c)) w :=
  run_build w 24 _ _ (built24_six _ _ _ _ _ _ _ _)
end Go.Proofs.YtecamiefpdkjoaaDoor
