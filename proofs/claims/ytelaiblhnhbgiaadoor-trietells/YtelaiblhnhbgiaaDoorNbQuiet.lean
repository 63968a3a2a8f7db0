/-
  A region that draws its order, whose operations only read and whose callees keep all that lay in memory, walked once, in the order of the text.
-/
import Derived.Test.YtelaiblhnhbgiaaDoorNbLeaf
import Derived.BigQuiet
namespace Go.Proofs.YtelaiblhnhbgiaaDoor
open Go.RowKit
set_option maxRecDepth 20000

/-- A world in which all that lay in w is as it was. -/
structure KeptW (w : World) where
  v : World
  h : Kept w v

theorem region_kept {P : Program} {id : Nat} {Q : Exit → Act → World → Prop} {a : Act} {w : World} {l : List Oper} (W : World) (hW : Kept W w) (hm : P.follows .mixedOrders = true) (hB : Region.lexB .any l.toArray = true)
    (h : wpQuiet P l.toArray (fun w' => ∃ p : KeptW W, w' = p.v) (fun a' => ∀ w', (∃ p : KeptW W, w' = p.v) → Q .normal a' w') l a) : (Code.region id l.toArray true).wp P Q a w :=
  wp_region_quiet (C := fun w' => ∃ p : KeptW W, w' = p.v) hm hB ⟨⟨w.drew, hW.drewR⟩, rfl⟩ (by simpa using h)

theorem Calls.keptw {P : Program} {f : FuncId} {args : Array Value} {W : World} {p : KeptW W} {v : Value}
    (h : Calls P f args p.v fun e w' => e = .returned v ∧ Kept p.v w') : Calls P f args p.v fun e w'' => e = .returned v ∧ ∃ q : KeptW W, w'' = q.v :=
  h.mono fun _ _ ⟨he, hk⟩ => ⟨he, ⟨_, p.h.trans hk⟩, rfl⟩
theorem Calls.keptw_same {P : Program} {f : FuncId} {args : Array Value} {W : World} {p : KeptW W} {v : Value}
    (h : Calls P f args p.v fun e w' => e = .returned v ∧ w' = p.v) : Calls P f args p.v fun e w'' => e = .returned v ∧ ∃ q : KeptW W, w'' = q.v :=
  h.mono fun _ _ ⟨he, hk⟩ => ⟨he, p, hk⟩

end Go.Proofs.YtelaiblhnhbgiaaDoor
