/-
  The document's own maker in memory: what its calls leave as it was; cells that are known, however many; stores as one operation of a region.
-/
import Derived.Test.YtelaiblhnhbgiaaDoorAddM
import Derived.Test.YtelaiblhnhbgiaaDoorPreA
import Derived.Test.YtelaiblhnhbgiaaDoorRefH
namespace Go.Proofs.YtelaiblhnhbgiaaDoor
open Go.RowKit
set_option maxRecDepth 20000

/-- Whatever lies below B, but for M, is as it was. -/
structure Thru (B M : Nat) (w w' : World) : Prop where
  os : w'.os = w.os
  tape : w'.tape = w.tape
  output : w'.output = w.output
  size : w.heap.size ≤ w'.heap.size
  block : ∀ k, k < B → k ≠ M → w'.heap[k]? = w.heap[k]?
section
variable {B M : Nat} {w w' w'' : World}
theorem Thru.refl (w : World) : Thru B M w w := ⟨rfl, rfl, rfl, Nat.le_refl _, fun _ _ _ => rfl⟩
theorem Thru.trans (h : Thru B M w w') (k : Thru B M w' w'') : Thru B M w w'' := ⟨k.os.trans h.os, k.tape.trans h.tape, k.output.trans h.output, Nat.le_trans h.size k.size, fun i hi hn => (k.block i hi hn).trans (h.block i hi hn)⟩
theorem Thru.new (n : New w w') (hB : B ≤ w.heap.size) : Thru B M w w' := ⟨n.os, n.tape, n.output, n.size, fun k hk _ => n.block k (by omega)⟩
theorem Thru.setM (w : World) (o : Nat) (v : Value) : Thru B M w (w.setCell ⟨M, o, none⟩ v) := ⟨rfl, rfl, rfl, by simp [World.setCell], fun k _ hn => Below.heap_setCell _ _ _ _ hn⟩
theorem Thru.setCell (w : World) {a : Addr} (hb : B ≤ a.block) (v : Value) : Thru B M w (w.setCell a v) := ⟨rfl, rfl, rfl, by simp [World.setCell], fun k hk _ => Below.heap_setCell _ _ _ _ (by omega)⟩
theorem Thru.setCells (w : World) {b : Nat} (hb : B ≤ b) (o : Nat) (vs : List Value) : Thru B M w (w.setCells b o vs) := by
  obtain ⟨h1, h2, h3⟩ := setCells_rest b vs o w
  exact ⟨h1, h2, h3, by rw [setCells_size]; exact Nat.le_refl _, fun k hk _ => setCells_other b vs o w k (by omega)⟩
theorem Thru.but {g : Nat} (h : But g w w') (hb : B ≤ g) : Thru B M w w' := ⟨h.os, h.tape, h.output, by rw [h.size]; exact Nat.le_refl _, fun k hk _ => h.block k (by omega)⟩
theorem Thru.grown {row : Option Nat} (hg : w.grownBy w' row) (hB : B ≤ w.heap.size) (hr : ∀ k, row = some k → B ≤ k) : Thru B M w w' := ⟨hg.os, hg.tape, hg.output, hg.size, fun k hk _ => hg.block k (by omega) (fun e => by have := hr k e.symm; omega)⟩
theorem Thru.cell (h : Thru B M w w') {g o : Nat} (hb : g < B) (hn : g ≠ M) : w'.cell? ⟨g, o, none⟩ = w.cell? ⟨g, o, none⟩ := by
  unfold World.cell?
  rw [h.block g hb hn]
/-- For what is behind it. -/
theorem Thru.toNew {w0 : World} (h : Thru B M w w') (k : New w0 w) (hB : w0.heap.size ≤ B) (hM : w0.heap.size ≤ M) : New w0 w' := ⟨h.os.trans k.os, h.tape.trans k.tape, h.output.trans k.output, Nat.le_trans k.size h.size, fun i hi => (h.block i (by omega) (by omega)).trans (k.block i hi)⟩
end

/-- The worlds in which cells have these values. -/
structure CsW (cs : List (Nat × Nat × Value)) where
  v : World
  h : ∀ x ∈ cs, v.cell? ⟨x.1, x.2.1, none⟩ = some x.2.2
def HasL (cs : List (Nat × Nat × Value)) (w : World) : Prop := ∃ q : CsW cs, w = q.v
theorem HasL.of {cs : List (Nat × Nat × Value)} {w : World} (h : ∀ x ∈ cs, w.cell? ⟨x.1, x.2.1, none⟩ = some x.2.2) : HasL cs w := ⟨⟨w, h⟩, rfl⟩
theorem HasL.tell {cs : List (Nat × Nat × Value)} {w : World} (h : HasL cs w) : ∀ x ∈ cs, w.cell? ⟨x.1, x.2.1, none⟩ = some x.2.2 := by
  obtain ⟨q, rfl⟩ := h; exact q.h
theorem HasL.new {cs : List (Nat × Nat × Value)} {w w' : World} (h : HasL cs w) (n : New w w') : HasL cs w' := HasL.of fun x hx => (n.cell (World.block_lt_of_cell? w _ (h.tell x hx))).trans (h.tell x hx)
theorem HasL.grown {cs : List (Nat × Nat × Value)} {w w' : World} {row : Option Nat} (h : HasL cs w) (G : w.grownBy w' row) (hne : ∀ x ∈ cs, some x.1 ≠ row) : HasL cs w' := HasL.of fun x hx => G.cell (h.tell x hx) (hne x hx)
theorem HasL.set {cs : List (Nat × Nat × Value)} {w : World} (h : HasL cs w) {a : Addr} (v : Value) (hne : ∀ x ∈ cs, x.1 ≠ a.block) : HasL cs (w.setCell a v) := HasL.of fun x hx => by
  have := h.tell x hx
  unfold World.cell? at this ⊢
  rw [Below.heap_setCell _ _ _ _ (hne x hx)]; exact this

theorem exec_store_bool {o : Oper} {a : Act} {w : World} {x y : Operand} {g off : Nat} {b : Bool} {u : Value} (ho : o.op = .store 4 x y) (hx : a.eval x = .pointer (some ⟨g, off, none⟩)) (hy : a.eval y = .bool b) (hc : w.cell? ⟨g, off, none⟩ = some u) (hf : w.frozen? ⟨g, off, none⟩ = false) :
    (execOp a.eval o).run Tryd.prog w = .ok .skip (w.setCell ⟨g, off, none⟩ (.bool b)) := by
  unfold execOp
  simp only [ho, hx, hy]
  simp [hc, hf, go_sem]
section
variable {P : Program} {ops : Array Oper} {Q : Exit → Act → World → Prop} {S : World → Prop} {rest : List Oper} {ks : List Nat} {k : Nat} {o : Oper} {a : Act} {w : World}
theorem wpPre_skip (d : Option Tmp) (w' : World) (ho : ops[k]? = some o) (hd : o.dst = d) (hw : Region.wanted o (yielded ops a.tmps) = true) (hrun : (execOp a.eval o).run P w = .ok .skip w') (hS : S w')
    (h : wpPre P ops Q S rest ks (a.put d undef) w') : wpPre P ops Q S rest (k :: ks) a w := by
  refine wpOp_wp ho hw ?_
  subst hd
  unfold Oper.wp
  rw [hrun]
  exact ⟨hS, h⟩
end
end Go.Proofs.YtelaiblhnhbgiaaDoor
