/-
  A region that draws its order and ends in a store: what reads may be taken first while the cells that it reads are held; behind the store, which waits for all, nothing need be held.
-/
import Derived.OrdersHeld
import Derived.Deep.RegionHeld
namespace Go.Proofs.Ytmpignlciicaeaa
open Go

section
variable {P : Program} {ops : Array Oper} {Q : Exit → Act → World → Prop} {md : Region.Mode} {S : World → Prop} {z : Nat}

/-- Whatever order is picked; behind each operation but number z S is held. -/
def wpG (P : Program) (md : Region.Mode) (ops : Array Oper) (Q : Exit → Act → World → Prop) (S : World → Prop) (z : Nat) : Nat → Array Bool → Act → World → Prop
  | 0, li, a, w => Region.ready md ops li = [] ∧ Q .normal a w
  | n + 1, li, a, w => (Region.ready md ops li = [] → Q .normal a w) ∧
      ∀ i ∈ Region.ready md ops li, wpOp P ops Q i (fun a' w' => (i ≠ z → S w') ∧ wpG P md ops Q S z n (li.setIfInBounds i true) a' w') a w

theorem wpG.any : ∀ (n : Nat) (li : Array Bool) (a : Act) (w : World), wpG P md ops Q S z n li a w → wpAny P md ops Q n li a w
  | 0, _, _, _, h => h
  | n + 1, _, _, _, h => ⟨h.1, fun i hi => wpOp_mono (fun a' w' k => wpG.any n _ a' w' k.2) (h.2 i hi)⟩

/-- Number z waits for number i. -/
def waitsFor (md : Region.Mode) (ops : Array Oper) (z i : Nat) : Bool := ((ops[z]?).map (·.after.any fun e => Region.binds md e && e.on == i)).getD false
theorem waitsFor.not {li : Array Bool} {i : Nat} (h : waitsFor md ops z i = true) (hr : i ∈ Region.ready md ops li) : z ∉ Region.ready md ops li := fun hz => by
  obtain ⟨_, o, ho, hall⟩ := mem_ready.1 hz
  unfold waitsFor at h
  rw [ho] at h
  simp only [Option.map_some, Option.getD_some, Array.any_eq_true'] at h
  obtain ⟨e, he, h2⟩ := h
  simp only [Bool.and_eq_true, beq_iff_eq] at h2
  have h3 := hall e he h2.1
  have h0 := (mem_ready.1 hr).1
  rw [h2.2] at h3
  rcases Nat.lt_or_ge i li.size with h' | h'
  · simp [h'] at h0 h3; rw [h0] at h3; cases h3
  · simp [Array.getElem?_eq_none h'] at h3

theorem wpG.put {i : Nat} {oi : Oper} {v : Value} (hi : ops[i]? = some oi) (hsel : ∀ (j : Nat) (o : Oper) cs b, ops[j]? = some o → o.op ≠ .select cs b) (hQ : ∀ c a w, Q (.panic c) (a.put oi.dst v) w → Q (.panic c) a w)
    (hz : waitsFor md ops z i = true) (n : Nat) :
    ∀ (li : Array Bool) (a : Act) (w : World),
      (∀ j oj, ops[j]? = some oj → j ≠ i → li.getD j true = false → (∀ e ∈ oj.after, Region.binds md e = true → e.on ≠ i) → oi.apart ops oj = true) →
      i ∈ Region.ready md ops li → YieldsIf P ops S oi v a → S w → wpG P md ops Q S z n (li.setIfInBounds i true) (a.put oi.dst v) w → wpG P md ops Q S z (n + 1) li a w := by
  induction n with
  | zero =>
    intro li a w _ hr hy hS H
    refine ⟨fun h => (by rw [h] at hr; cases hr), fun j hj => ?_⟩
    by_cases e : j = i
    · subst e
      exact hy.wpOp hi hS ⟨fun _ => hS, H⟩
    · have k := ready_mono hj e
      rw [H.1] at k
      cases k
  | succ n ih =>
    intro li a w hfree hr hy hS H
    refine ⟨fun h => (by rw [h] at hr; cases hr), fun j hj => ?_⟩
    by_cases e : j = i
    · subst e
      exact hy.wpOp hi hS ⟨fun _ => hS, H⟩
    · obtain ⟨hjun, oj, hoj, hall⟩ := mem_ready.1 hj
      have hjz : j ≠ z := fun h => waitsFor.not hz hr (h ▸ hj)
      have hnot : ∀ x ∈ oj.after, Region.binds md x = true → x.on ≠ i := fun x hx hb he => by
        have h1 := hall x hx hb
        have h0 := (mem_ready.1 hr).1
        rw [he] at h1
        rcases Nat.lt_or_ge i li.size with h' | h'
        · simp [h'] at h0 h1; rw [h0] at h1; cases h1
        · simp [Array.getElem?_eq_none h'] at h1
      have h2 := wpOp_putIf hoj (hfree j oj hoj e hjun hnot) (fun cs b => hsel i oi cs b hi) (fun cs b => hsel j oj cs b hoj) hQ hy (H.2 j (ready_mono hj e))
      have hfree' : ∀ k ok, ops[k]? = some ok → k ≠ i → (li.setIfInBounds j true).getD k true = false → (∀ e ∈ ok.after, Region.binds md e = true → e.on ≠ i) → oi.apart ops ok = true := fun k ok hk hki hun hno => by
        refine hfree k ok hk hki ?_ hno
        by_cases hjk : j = k
        · subst hjk; exact hjun
        · rw [getD_set_ne true hjk] at hun; exact hun
      refine wpOp_mono (fun a' w' h3 => ⟨fun _ => h3.2.1 hjz, ih (li.setIfInBounds j true) a' w' hfree' (ready_mono hr (Ne.symm e)) h3.1 (h3.2.1 hjz) ?_⟩) h2
      rw [Array.setIfInBounds_comm _ _ e]
      exact h3.2.2

/-- Number i reads: it is taken first. -/
theorem wpG.take {i : Nat} {oi : Oper} {v : Value} {n : Nat} (d : Option Tmp) {li : Array Bool} {a : Act} {w : World} (hi : ops[i]? = some oi)
    (hB : (Region.noSelect ops && Region.free md ops li i && (Region.ready md ops li).contains i && waitsFor md ops z i) = true)
    (hQ : ∀ c a w, Q (.panic c) (a.put oi.dst v) w → Q (.panic c) a w) (hd : oi.dst = d) (hw : Region.wanted oi (yielded ops a.tmps) = true) (hS : S w) (hy : ∀ w, S w → (execOp a.eval oi).run P w = .ok (.value v) w)
    (h : wpG P md ops Q S z n (li.setIfInBounds i true) (a.put d v) w) : wpG P md ops Q S z (n + 1) li a w := by
  simp only [Bool.and_eq_true] at hB
  subst hd
  exact wpG.put hi (Region.noSelect_spec hB.1.1.1) hQ hB.2 n li a w (Region.free_spec hi hB.1.1.2) (by simpa using hB.1.2) (.inl ⟨hw, hy⟩) hS h

/-- Just one may come up. -/
theorem wpG.one (i : Nat) {n : Nat} {li : Array Bool} {a : Act} {w : World} (hr : Region.ready md ops li = [i])
    (h : wpOp P ops Q i (fun a' w' => (i ≠ z → S w') ∧ wpG P md ops Q S z n (li.setIfInBounds i true) a' w') a w) : wpG P md ops Q S z (n + 1) li a w := by
  refine ⟨fun h0 => (by rw [hr] at h0; cases h0), fun j hj => ?_⟩
  rw [hr] at hj
  obtain rfl : j = i := by simpa using hj
  exact h
/-- One of two may come up. -/
theorem wpG.two (i j : Nat) {n : Nat} {li : Array Bool} {a : Act} {w : World} (hr : Region.ready md ops li = [i, j])
    (h : wpOp P ops Q i (fun a' w' => (i ≠ z → S w') ∧ wpG P md ops Q S z n (li.setIfInBounds i true) a' w') a w)
    (k : wpOp P ops Q j (fun a' w' => (j ≠ z → S w') ∧ wpG P md ops Q S z n (li.setIfInBounds j true) a' w') a w) : wpG P md ops Q S z (n + 1) li a w := by
  refine ⟨fun h0 => (by rw [hr] at h0; cases h0), fun x hx => ?_⟩
  rw [hr] at hx
  rcases List.mem_cons.1 hx with rfl | hx
  · exact h
  · obtain rfl : x = j := by simpa using hx
    exact k
theorem wpOp_wp {i : Nat} {o : Oper} {K : Act → World → Prop} {a : Act} {w : World} (ho : ops[i]? = some o) (hw : Region.wanted o (yielded ops a.tmps) = true) (h : o.wp P a w K Q) : wpOp P ops Q i K a w := by
  unfold Go.wpOp
  simp only [ho]
  rw [if_pos hw]
  exact .inl h
/-- An operation whose run is known. -/
theorem wpOp_run {i : Nat} {o : Oper} {K : Act → World → Prop} {a : Act} {w : World} (d : Option Tmp) (v : Value) (w' : World) (ho : ops[i]? = some o) (hd : o.dst = d) (hw : Region.wanted o (yielded ops a.tmps) = true)
    (hrun : (execOp a.eval o).run P w = .ok (.value v) w') (h : K (a.put d v) w') : wpOp P ops Q i K a w := by
  refine wpOp_wp ho hw ?_
  subst hd
  unfold Oper.wp
  rw [hrun]
  exact h
theorem wpG.done {li : Array Bool} {a : Act} {w : World} (hr : Region.ready md ops li = []) (h : Q .normal a w) : ∀ n, wpG P md ops Q S z n li a w
  | 0 => ⟨hr, h⟩
  | _ + 1 => ⟨fun _ => h, by rw [hr]; simp⟩
theorem wpG.region {id : Nat} {a : Act} {w : World} (z : Nat) (S : World → Prop) (hm : P.follows .mixedOrders = true) (h : wpG P .any ops Q S z ops.size (Array.replicate ops.size false) a w.drew) : (Code.region id ops true).wp P Q a w :=
  wp_region_any hm (wpG.any _ _ _ _ h)

end
end Go.Proofs.Ytmpignlciicaeaa
