/-
  What the document's Block tells: the same as Block.
-/
import Derived.Test.YtecamiefpdkjoaaDoorDgRefStep
import Derived.Test.YtecamiefpdkjoaaDoorDgConst
namespace Go.Proofs.YtecamiefpdkjoaaDoor.Dg
open Go.RowKit
set_option maxRecDepth 20000

/-- A whole row read inside a region that draws its order. -/
theorem wpQuiet_load_row {P : Program} {ops : Array Oper} {Q : Act → Prop} {a : Act} {o : Oper} {rest : List Oper} {W : World} (hw : Region.wanted o (yielded ops a.tmps) = true) (ty : TypeId) (x : Operand) (ho : o.op = .load ty x)
    (g : Nat) (hx : a.eval x = .pointer (some ⟨g, 0, none⟩)) (t : TypeId) (cs : Array Value) (R : Row W g cs t) (d : TypeDesc)
    (hu : P.underlying ty = some d) (hd : (match d with | .struct _ | .array _ _ => true | _ => false) = true) (hi : (P.info? ty).map (·.size) = some cs.size)
    (h : wpQuiet P ops (fun w' => ∃ p : KeptW W, w' = p.v) Q rest (a.put o.dst (.agg cs))) : wpQuiet P ops (fun w' => ∃ p : KeptW W, w' = p.v) Q (o :: rest) a :=
  BigFrame.wpQuiet_want hw fun K hK => ⟨.agg cs, fun w ⟨p, e⟩ => by
    subst e
    have hr := run_loadVar_row p.v g t ty cs (0, 0) d (R.kept p.h) hu hd hi
    unfold Oper.quietAt execOp
    simp only [ho, hx, Instr.loadAt, Instr.sureAddr, Sem.run_bind, Sem.run_pure, Result.andThen_ok, hr]
    exact ⟨rfl, rfl⟩, hK _ h⟩

end Go.Proofs.YtecamiefpdkjoaaDoor.Dg
