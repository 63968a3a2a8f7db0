/-
  A region that draws its order and ends in a store: what reads may be taken first while the cells that it reads are held; behind the store, which waits for all, nothing need be held.
-/
import Derived.OrdersHeld
import Derived.Deep.RegionHeld
namespace Go.Proofs.Ytmpignlciicaeaa
open Go

section
variable {P : Program} {ops : Array Oper} {Q : Exit → Act → World → Prop} {md : Region.Mode} {S : World → Prop} {z : Nat}

/-- Whatever order is picked; behind each operation but number z S is held. -/
def wpG (P : Program) (md : Region.Mode) (ops : Array Oper) (Q : Exit → Act → World → Prop) (S : World → Prop) (z : Nat) : Nat → Array Bool → Act → World → Prop
  | 0, li, a, w => Region.ready md ops li = [] ∧ Q .normal a w
  | n + 1, li, a, w => (Region.ready md ops li = [] → Q .normal a w) ∧
      ∀ i ∈ Region.ready md ops li, wpOp P ops Q i (fun a' w' => (i ≠ z → S w') ∧ wpG P md ops Q S z n (li.setIfInBounds i true) a' w') a w

theorem wpG.any : ∀ (n : Nat) (li : Array Bool) (a : Act) (w : World), wpG P md ops Q S z n li a w → wpAny P md ops Q n li a w
  | 0, _, _, _, h => h
  | n + 1, _, _, _, h => ⟨h.1, fun i hi => wpOp_mono (fun a' w' k => wpG.any n _ a' w' k.2) (h.2 i hi)⟩

/-- Of two that may come up neither waits for the other. -/
theorem ready_apart {li : Array Bool} {i j : Nat} {o : Oper} (hi : i ∈ Region.ready md ops li) (hj : j ∈ Region.ready md ops li) (ho : ops[j]? = some o) (e : Edge) (he : e ∈ o.after) (hb : Region.binds md e = true) : e.on ≠ i := by
  rintro rfl
  obtain ⟨hun, _⟩ := mem_ready.1 hi
  obtain ⟨_, o', ho', hall⟩ := mem_ready.1 hj
  obtain rfl : o' = o := Option.some.inj (ho'.symm.trans ho)
  have hli := hall e he hb
  by_cases hs : e.on < li.size
  · simp only [Array.getD_eq_getD_getElem?, Array.getElem?_eq_getElem hs, Option.getD_some] at hun hli
    rw [hun] at hli
    cases hli
  · simp [Array.getElem?_eq_none (Nat.le_of_not_lt hs)] at hli

/-- Number z waits for number i. -/
def waitsFor (md : Region.Mode) (ops : Array Oper) (z i : Nat) : Bool := ((ops[z]?).map (·.after.any fun e => Region.binds md e && e.on == i)).getD false
theorem waitsFor.not {li : Array Bool} {i : Nat} (h : waitsFor md ops z i = true) (hr : i ∈ Region.ready md ops li) : z ∉ Region.ready md ops li := fun hz => by
  unfold waitsFor at h
  cases ho : ops[z]? with
  | none => rw [ho] at h; simp at h
  | some o =>
    rw [ho] at h
    simp only [Option.map_some, Option.getD_some, Array.any_eq_true'] at h
    obtain ⟨e, he, h2⟩ := h
    simp only [Bool.and_eq_true, beq_iff_eq] at h2
    exact ready_apart hr hz ho e he h2.1 h2.2

/-- Whoever may still come ahead of number i leaves its temporaries alone. -/
def Free (md : Region.Mode) (ops : Array Oper) (oi : Oper) (i : Nat) (li : Array Bool) : Prop :=
  ∀ j oj, ops[j]? = some oj → j ≠ i → li.getD j true = false → (∀ e ∈ oj.after, Region.binds md e = true → e.on ≠ i) → oi.apart ops oj = true
theorem Free.set {oi : Oper} {i j : Nat} {li : Array Bool} (h : Free md ops oi i li) (hj : j ∈ Region.ready md ops li) : Free md ops oi i (li.setIfInBounds j true) := by
  intro k ok hk hki hun hno
  by_cases e : j = k
  · exact h k ok hk hki (e ▸ (mem_ready.1 hj).1) hno
  · exact h k ok hk hki (getD_set_ne true e ▸ hun) hno

/-- Number i, which reads, carried to the front past whoever came ahead of it. -/
theorem wpG.put {i : Nat} {oi : Oper} {v : Value} (hi : ops[i]? = some oi) (hsel : ∀ (j : Nat) (o : Oper) cs b, ops[j]? = some o → o.op ≠ .select cs b) (hQ : ∀ c a w, Q (.panic c) (a.put oi.dst v) w → Q (.panic c) a w)
    (hz : waitsFor md ops z i = true) : ∀ (n : Nat) (li : Array Bool) (a : Act) (w : World), Free md ops oi i li → i ∈ Region.ready md ops li → YieldsIf P ops S oi v a → S w →
      wpG P md ops Q S z n (li.setIfInBounds i true) (a.put oi.dst v) w → wpG P md ops Q S z (n + 1) li a w := by
  intro n
  induction n with
  | zero =>
    intro li a w _ hr hy hS H
    refine ⟨fun h => absurd (h ▸ hr) (List.not_mem_nil), fun j hj => ?_⟩
    by_cases e : j = i
    · exact e ▸ hy.wpOp hi hS ⟨fun _ => hS, H⟩
    · exact absurd (H.1 ▸ ready_mono hj e) (List.not_mem_nil)
  | succ n ih =>
    intro li a w hf hr hy hS H
    refine ⟨fun h => absurd (h ▸ hr) (List.not_mem_nil), fun j hj => ?_⟩
    by_cases e : j = i
    · exact e ▸ hy.wpOp hi hS ⟨fun _ => hS, H⟩
    · obtain ⟨hun, oj, hoj, _⟩ := mem_ready.1 hj
      have hjz : j ≠ z := fun h => waitsFor.not hz hr (h ▸ hj)
      refine wpOp_mono (fun a' w' k => ?_) (wpOp_putIf hoj (hf j oj hoj e hun (ready_apart hr hj hoj)) (fun cs b => hsel i oi cs b hi) (fun cs b => hsel j oj cs b hoj) hQ hy (H.2 j (ready_mono hj e)))
      obtain ⟨hy', hS', H'⟩ := k
      rw [Array.setIfInBounds_comm _ _ (Ne.symm e)] at H'
      exact ⟨hS', ih _ a' w' (hf.set hj) (ready_mono hr (Ne.symm e)) hy' (hS' hjz) H'⟩

/-- Number i reads: it is taken first. -/
theorem wpG.take {i : Nat} {oi : Oper} {v : Value} {n : Nat} (d : Option Tmp) {li : Array Bool} {a : Act} {w : World} (hi : ops[i]? = some oi)
    (hB : (Region.noSelect ops && Region.free md ops li i && (Region.ready md ops li).contains i && waitsFor md ops z i) = true)
    (hQ : ∀ c a w, Q (.panic c) (a.put oi.dst v) w → Q (.panic c) a w) (hd : oi.dst = d) (hw : Region.wanted oi (yielded ops a.tmps) = true) (hS : S w) (hy : ∀ w, S w → (execOp a.eval oi).run P w = .ok (.value v) w)
    (h : wpG P md ops Q S z n (li.setIfInBounds i true) (a.put d v) w) : wpG P md ops Q S z (n + 1) li a w := by
  simp only [Bool.and_eq_true] at hB
  subst hd
  exact wpG.put hi (Region.noSelect_spec hB.1.1.1) hQ hB.2 n li a w (Region.free_spec hi hB.1.1.2) (by simpa using hB.1.2) (.inl ⟨hw, hy⟩) hS h

/-- Just one may come up. -/
theorem wpG.one (i : Nat) {n : Nat} {li : Array Bool} {a : Act} {w : World} (hr : Region.ready md ops li = [i])
    (h : wpOp P ops Q i (fun a' w' => (i ≠ z → S w') ∧ wpG P md ops Q S z n (li.setIfInBounds i true) a' w') a w) : wpG P md ops Q S z (n + 1) li a w := by
  refine ⟨fun h0 => (by rw [hr] at h0; cases h0), fun j hj => ?_⟩
  rw [hr] at hj
  obtain rfl : j = i := by simpa using hj
  exact h
/-- One of two may come up. -/
theorem wpG.two (i j : Nat) {n : Nat} {li : Array Bool} {a : Act} {w : World} (hr : Region.ready md ops li = [i, j])
    (h : wpOp P ops Q i (fun a' w' => (i ≠ z → S w') ∧ wpG P md ops Q S z n (li.setIfInBounds i true) a' w') a w)
    (k : wpOp P ops Q j (fun a' w' => (j ≠ z → S w') ∧ wpG P md ops Q S z n (li.setIfInBounds j true) a' w') a w) : wpG P md ops Q S z (n + 1) li a w := by
  refine ⟨fun h0 => (by rw [hr] at h0; cases h0), fun x hx => ?_⟩
  rw [hr] at hx
  rcases List.mem_cons.1 hx with rfl | hx
  · exact h
  · obtain rfl : x = j := by simpa using hx
    exact k
theorem wpOp_wp {i : Nat} {o : Oper} {K : Act → World → Prop} {a : Act} {w : World} (ho : ops[i]? = some o) (hw : Region.wanted o (yielded ops a.tmps) = true) (h : o.wp P a w K Q) : wpOp P ops Q i K a w := by
  unfold Go.wpOp
  simp only [ho]
  rw [if_pos hw]
  exact .inl h
/-- An operation whose run is known. -/
theorem wpOp_run {i : Nat} {o : Oper} {K : Act → World → Prop} {a : Act} {w : World} (d : Option Tmp) (v : Value) (w' : World) (ho : ops[i]? = some o) (hd : o.dst = d) (hw : Region.wanted o (yielded ops a.tmps) = true)
    (hrun : (execOp a.eval o).run P w = .ok (.value v) w') (h : K (a.put d v) w') : wpOp P ops Q i K a w := by
  refine wpOp_wp ho hw ?_
  subst hd
  unfold Oper.wp
  rw [hrun]
  exact h
theorem wpG.done {li : Array Bool} {a : Act} {w : World} (hr : Region.ready md ops li = []) (h : Q .normal a w) : ∀ n, wpG P md ops Q S z n li a w
  | 0 => ⟨hr, h⟩
  | _ + 1 => ⟨fun _ => h, by rw [hr]; simp⟩
theorem wpG.region {id : Nat} {a : Act} {w : World} (z : Nat) (S : World → Prop) (hm : P.follows .mixedOrders = true) (h : wpG P .any ops Q S z ops.size (Array.replicate ops.size false) a w.drew) : (Code.region id ops true).wp P Q a w :=
  wp_region_any hm (wpG.any _ _ _ _ h)

end
end Go.Proofs.Ytmpignlciicaeaa
