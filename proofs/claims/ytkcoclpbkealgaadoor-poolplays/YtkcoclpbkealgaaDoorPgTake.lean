/-
  A region that draws its order and ends in a store: what reads is taken first, all of it in one walk, while the cells that it reads are held; then one operation behind the other; behind the store, which waits for all, nothing need be held.
-/
import Derived.OrdersHeld
import Derived.Deep.RegionHeld
import Derived.Test.YtkcoclpbkealgaaDoorHold
namespace Go.Proofs.YtkcoclpbkealgaaDoor
open Go
set_option maxRecDepth 20000

section
variable {P : Program} {ops : Array Oper} {Q : Exit → Act → World → Prop} {md : Region.Mode} {S : World → Prop} {z : Nat}

variable {rest : List Oper} {ks : List Nat} {k : Nat} {o : Oper} {a : Act} {w : World}
/-- What an operation does hangs on neither of two states. -/
def Same (ops : Array Oper) (o : Oper) (a a' : Act) : Prop := execOp a'.eval o = execOp a.eval o ∧ Region.wanted o (yielded ops a'.tmps) = Region.wanted o (yielded ops a.tmps)
theorem wpOp_same {j : Nat} {oi oj : Oper} (hj : ops[j]? = some oj) (hsi : ∀ cs b, oi.op ≠ .select cs b) (h3 : ∀ d, oj.dst = some d → d ∉ oi.looksAt ops) {K : Act → World → Prop} {a : Act} {w : World} (h : wpOp P ops Q j K a w) :
    wpOp P ops Q j (fun a' w' => Same ops oi a a' ∧ K a' w') a w := by
  have keep : ∀ (b : Act) (u : Value), Same ops oi b (b.put oj.dst u) := fun b u => ⟨execOp_put oi hsi b oj.dst u h3, wanted_put oi b oj.dst u h3⟩
  unfold Go.wpOp at *
  simp only [hj] at *
  by_cases hw : Region.wanted oj (yielded ops a.tmps) = true
  · rw [if_pos hw] at h ⊢
    rcases h with h | h
    · refine .inl ?_
      unfold Oper.wp at *
      revert h
      cases (execOp a.eval oj).run P w with
      | ok n w' =>
        cases n
        all_goals simp only [Oper.upon]
        all_goals intro h
        all_goals first
          | exact ⟨keep _ _, h⟩
          | exact h
          | (refine Rows.mono h fun u w'' he => ⟨keep _ _, he⟩)
          | (refine Calls.mono h fun e w'' he => ?_
             cases e
             all_goals first
               | exact ⟨keep _ _, he⟩
               | exact he)
      | halt x w' =>
        cases x
        all_goals simp only [Oper.upon]
        all_goals exact fun h => h
    · exact .inr h
  · rw [if_neg hw] at h ⊢
    exact ⟨keep _ _, h⟩

/-- A call that tells v and leaves the world as it was. -/
def Still (P : Program) (ops : Array Oper) (S : World → Prop) (o : Oper) (v : Value) (a : Act) : Prop :=
  Region.wanted o (yielded ops a.tmps) = true ∧ ∃ f args, (∀ w, S w → (execOp a.eval o).run P w = .ok (.enter f args) w) ∧ ∀ w, S w → Calls P f args w fun e w' => e = .returned v ∧ w' = w
theorem Still.same {oi : Oper} {v : Value} {a a' : Act} (h : Still P ops S oi v a) (k : Same ops oi a a') : Still P ops S oi v a' := by
  obtain ⟨h1, f, args, h2, h3⟩ := h
  exact ⟨by rw [k.2]; exact h1, f, args, fun w hw => by rw [k.1]; exact h2 w hw, h3⟩
theorem Still.wpOp {i : Nat} {oi : Oper} {v : Value} {a : Act} {w : World} (h : Still P ops S oi v a) (hi : ops[i]? = some oi) (hS : S w) {K : Act → World → Prop} (hK : K (a.put oi.dst v) w) : Go.wpOp P ops Q i K a w := by
  obtain ⟨h1, f, args, h2, h3⟩ := h
  refine wpOp_call oi.dst f args hi rfl h1 (h2 w hS) ((h3 w hS).mono ?_)
  rintro _ w' ⟨rfl, rfl⟩
  exact ⟨v, rfl, hK⟩
theorem wpG.putStill {i : Nat} {oi : Oper} {v : Value} (hi : ops[i]? = some oi) (hsel : ∀ (j : Nat) (o : Oper) cs b, ops[j]? = some o → o.op ≠ .select cs b) (hQ : ∀ c a w, Q (.panic c) (a.put oi.dst v) w → Q (.panic c) a w)
    (hz : waitsFor md ops z i = true) : ∀ (n : Nat) (li : Array Bool) (a : Act) (w : World), Free md ops oi i li → i ∈ Region.ready md ops li → Still P ops S oi v a → S w →
      wpG P md ops Q S z n (li.setIfInBounds i true) (a.put oi.dst v) w → wpG P md ops Q S z (n + 1) li a w := by
  intro n
  induction n with
  | zero =>
    intro li a w _ hr hy hS H
    refine ⟨fun h => absurd (h ▸ hr) (List.not_mem_nil), fun j hj => ?_⟩
    by_cases e : j = i
    · exact e ▸ hy.wpOp hi hS ⟨fun _ => hS, H⟩
    · exact absurd (H.1 ▸ ready_mono hj e) (List.not_mem_nil)
  | succ n ih =>
    intro li a w hf hr hy hS H
    refine ⟨fun h => absurd (h ▸ hr) (List.not_mem_nil), fun j hj => ?_⟩
    by_cases e : j = i
    · exact e ▸ hy.wpOp hi hS ⟨fun _ => hS, H⟩
    · obtain ⟨hun, oj, hoj, _⟩ := mem_ready.1 hj
      have hjz : j ≠ z := fun h => waitsFor.not hz hr (h ▸ hj)
      have hap := hf j oj hoj e hun (ready_apart hr hj hoj)
      have h1 := wpOp_putIf (S := fun _ => False) hoj hap (fun cs b => hsel i oi cs b hi) (fun cs b => hsel j oj cs b hoj) hQ (.inl ⟨hy.1, fun _ h => h.elim⟩) (H.2 j (ready_mono hj e))
      refine wpOp_mono (fun a' w' k => ?_) (wpOp_same (oi := oi) hoj (fun cs b => hsel i oi cs b hi) (Oper.apart_spec hap).2.2 h1)
      obtain ⟨hsame, _, hS', H'⟩ := k
      rw [Array.setIfInBounds_comm _ _ (Ne.symm e)] at H'
      exact ⟨hS', ih _ a' w' (hf.set hj) (ready_mono hr (Ne.symm e)) (hy.same hsame) (hS' hjz) H'⟩
theorem wpG.takeCall (i : Nat) {oi : Oper} {n : Nat} (d : Option Tmp) (f : FuncId) (args : Array Value) (v : Value) {li : Array Bool} {a : Act} {w : World} (hi : ops[i]? = some oi)
    (hB : (Region.noSelect ops && Region.free md ops li i && (Region.ready md ops li).contains i && waitsFor md ops z i) = true)
    (hQ : ∀ c a w, Q (.panic c) (a.put oi.dst v) w → Q (.panic c) a w) (hd : oi.dst = d) (hw : Region.wanted oi (yielded ops a.tmps) = true) (hS : S w) (hrun : ∀ w, S w → (execOp a.eval oi).run P w = .ok (.enter f args) w)
    (hc : ∀ w, S w → Calls P f args w fun e w' => e = .returned v ∧ w' = w)
    (h : wpG P md ops Q S z n (li.setIfInBounds i true) (a.put d v) w) : wpG P md ops Q S z (n + 1) li a w := by
  simp only [Bool.and_eq_true] at hB
  subst hd
  exact wpG.putStill hi (Region.noSelect_spec hB.1.1.1) hQ hB.2 n li a w (Region.free_spec hi hB.1.1.2) (by simpa using hB.1.2) ⟨hw, f, args, hrun, hc⟩ hS h

end
end Go.Proofs.YtkcoclpbkealgaaDoor
