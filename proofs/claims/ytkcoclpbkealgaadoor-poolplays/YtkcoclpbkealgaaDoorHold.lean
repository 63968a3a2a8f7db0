/-
  What a disk's calls leave, above a place; a region whose first operations read.
-/
import Derived.Test.YtkcoclpbkealgaaDoorTell
namespace Go.Proofs.YtkcoclpbkealgaaDoor
open Go.RowKit
set_option maxRecDepth 20000

/-- What a disk's calls leave, all of it above B. -/
structure Above (B : Nat) (w0 : World) (w : World) (F : Nat → Prop) : Prop where
  below : Below B w0 w
  foot : ∀ b, F b → B ≤ b
  size : B ≤ w.heap.size
theorem Above.step {B : Nat} {w0 w w' : World} {F F' : Nat → Prop} (h : Above B w0 w F) (s : Step F F' w w') : Above B w0 w' F' := let ⟨h1, h2, h3⟩ := s.below h.below h.size h.foot; ⟨h1, h2, h3⟩
theorem Above.new {B : Nat} {w0 w w' : World} {F : Nat → Prop} (h : Above B w0 w F) (s : New w w') : Above B w0 w' F := h.step (Step.new s)

theorem Calls.neww_same {P : Program} {f : FuncId} {args : Array Value} {W : World} {p : NewW W} {v : Value}
    (h : Calls P f args p.v fun e w' => e = .returned v ∧ w' = p.v) : Calls P f args p.v fun e w'' => e = .returned v ∧ ∃ q : NewW W, w'' = q.v :=
  h.mono fun _ _ ⟨he, hk⟩ => ⟨he, p, hk⟩

theorem pick_range (l : List Oper) : ∀ (m n : Nat), pick l (List.range' n m) = (l.drop n).take m
  | 0, n => by simp [pick]
  | m + 1, n => by
    rw [List.range'_succ, pick, pick_range l m (n + 1)]
    by_cases h : n < l.length
    · rw [List.getElem?_eq_getElem h, List.drop_eq_getElem_cons h]; rfl
    · rw [List.getElem?_eq_none (by omega), List.drop_eq_nil_of_le (by omega), List.drop_eq_nil_of_le (by omega)]; simp
theorem region_first {P : Program} {id : Nat} {Q : Exit → Act → World → Prop} {a : Act} {w : World} {l : List Oper} (n m : Nat) (W : World) (hW : New W w) (hm : P.follows .mixedOrders = true) (hB : partB .any l (List.range' 0 n) (List.range' n m) = true)
    (h : wpQuiet P l.toArray (fun w' => ∃ p : NewW W, w' = p.v) (fun a' => ∀ w', (∃ p : NewW W, w' = p.v) → wpList P l.toArray Q ((l.drop n).take m) a' w') (l.take n) a) : (Code.region id l.toArray true).wp P Q a w := by
  refine region_ord (List.range' 0 n) (List.range' n m) W hW hm hB ?_
  rw [pick_range, pick_range]
  exact h

end Go.Proofs.YtkcoclpbkealgaaDoor
