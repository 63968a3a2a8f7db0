/-
  What the document's own disk leaves behind Sync and Grow.
-/
import Derived.Test.YtkcoclpbkealgaaDoorRefB
namespace Go.Proofs.YtkcoclpbkealgaaDoor
open Go.RowKit
set_option maxRecDepth 20000

theorem But.setCell (w : World) (g i : Nat) (v : Value) : But g w (w.setCell ⟨g, i, none⟩ v) := ⟨rfl, rfl, rfl, by simp [World.setCell], fun k hk => Below.heap_setCell _ _ _ _ hk⟩
theorem Pl.setOne {w : World} {F : Nat → Prop} {t : TypeId} {g n c : Nat} {es : List (List Value)} (h : Pl w F t 1 (.slice (some ⟨g, 0, none⟩) n c) es) {i : Nat} (hi : i < es.length) (v : Value) :
    Pl (w.setCell ⟨g, i, none⟩ v) F t 1 (.slice (some ⟨g, 0, none⟩) n c) (es.set i [v]) := by
  have := h.set hi (e := [v]) rfl
  rw [Nat.mul_one] at this
  exact this
theorem Pl.frozen {w : World} {F : Nat → Prop} {t : TypeId} {k g n c : Nat} {es : List (List Value)} (h : Pl w F t k (.slice (some ⟨g, 0, none⟩) n c) es) (i : Nat) : w.frozen? ⟨g, i, none⟩ = false := by
  obtain ⟨cur, R, _⟩ := h.row
  exact R.frozen i
theorem exec_make {P : Program} {o : Oper} {a : Act} {w w' : World} {T : TypeId} {x y : Operand} {u v r : Value} (ho : o.op = .makeSlice T x y) (hx : a.eval x = u) (hy : a.eval y = v) (hr : (Instr.makeSlice T u v).run P w = .ok r w') : (execOp a.eval o).run P w = .ok (.value r) w' := by
  unfold execOp
  simp only [ho, hx, hy, Sem.run_bind, hr, Result.andThen_ok, Sem.run_pure]
theorem exec_convert {P : Program} {o : Oper} {a : Act} {w w' : World} {S T : TypeId} {x : Operand} {u r : Value} (ho : o.op = .convert S T x) (hx : a.eval x = u) (hr : (convert S T u).run P w = .ok r w') : (execOp a.eval o).run P w = .ok (.value r) w' := by
  unfold execOp
  simp only [ho, hx, Sem.run_bind, hr, Result.andThen_ok, Sem.run_pure]

end Go.Proofs.YtkcoclpbkealgaaDoor
