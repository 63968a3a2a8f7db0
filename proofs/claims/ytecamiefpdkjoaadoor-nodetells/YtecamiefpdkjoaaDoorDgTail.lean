/-
  A region that draws its order, whose first operations only read (their callees keep all that lay in memory) and whose last ones wait for all of them: walked once, in the order of the text.
-/
import Derived.Test.YtecamiefpdkjoaaDoorDgLeaf
import Derived.BigQuiet
namespace Go.Proofs.YtecamiefpdkjoaaDoor.Dg
open Go.RowKit
set_option maxRecDepth 20000

section
variable {P : Program} {ops : Array Oper} {md : Region.Mode} {C : World → Prop}

/-- The first so many operations, in whatever order; behind them Q. -/
def wpAnyN (P : Program) (md : Region.Mode) (ops : Array Oper) (C : World → Prop) (Q : Array Bool → Act → Prop) : Nat → Array Bool → Act → Prop
  | 0, listed, a => Q listed a
  | fuel + 1, listed, a => Region.ready md ops listed ≠ [] ∧ ∀ i ∈ Region.ready md ops listed, qOp P ops C i (wpAnyN P md ops C Q fuel (listed.setIfInBounds i true)) a

theorem wpAny_of_N {Q : Array Bool → Act → Prop} {Q' : Exit → Act → World → Prop} {m : Nat} (hQ : ∀ listed a w, C w → Q listed a → wpAny P md ops Q' m listed a w) :
    ∀ (fuel : Nat) (listed : Array Bool) (a : Act) (w : World), C w → wpAnyN P md ops C Q fuel listed a → wpAny P md ops Q' (fuel + m) listed a w
  | 0, listed, a, w, hw, h => by rw [Nat.zero_add]; exact hQ listed a w hw h
  | fuel + 1, listed, a, w, hw, h => by
    rw [show fuel + 1 + m = fuel + m + 1 by omega]
    exact ⟨fun h0 => absurd h0 h.1, fun i hi => wpOp_of_qOp hw (fun a' w' hw' => wpAny_of_N hQ fuel _ a' w' hw') (h.2 i hi)⟩

/-- What has come up has come up behind all that it waits for. -/
def Closed (md : Region.Mode) (ops : Array Oper) (listed : Array Bool) : Prop := ∀ (k : Nat) (o : Oper), ops[k]? = some o → listed.getD k true = true → ∀ e ∈ o.after, Region.binds md e = true → listed.getD e.on false = true
theorem Closed.set {listed : Array Bool} (h : Closed md ops listed) {j : Nat} (hj : j ∈ Region.ready md ops listed) : Closed md ops (listed.setIfInBounds j true) := fun k o hk hl e he hb => by
  by_cases hjk : j = k
  · subst hjk
    obtain ⟨_, o', ho', hall⟩ := mem_ready.1 hj
    rw [hk] at ho'
    cases ho'
    exact getD_set_true (hall e he hb)
  · rw [getD_set_ne true hjk] at hl
    exact getD_set_true (h k o hk hl e he hb)
theorem Closed.start : Closed md ops (Array.replicate ops.size false) := fun k o hk hl => by
  have hlt := (Array.getElem?_eq_some_iff.1 hk).1
  simp [hlt] at hl
/-- Each of the first n is waited for, by another of them or by all that may come up at 'full'. -/
def waitsB (md : Region.Mode) (ops : Array Oper) (full : Array Bool) (n : Nat) : Bool :=
  (List.range n).all fun i =>
    ((List.range n).any fun k => (k != i) && full.getD k false && ((ops[k]?).map (·.after.any fun e => Region.binds md e && e.on == i)).getD false) ||
    (Region.ready md ops full).all fun j => ((ops[j]?).map (·.after.any fun e => Region.binds md e && e.on == i)).getD false
theorem after_spec {i j : Nat} (h : ((ops[j]?).map (·.after.any fun e => Region.binds md e && e.on == i)).getD false = true) : ∃ o, ops[j]? = some o ∧ ∃ e ∈ o.after, Region.binds md e = true ∧ e.on = i := by
  cases ho : ops[j]? with
  | none => rw [ho] at h; simp at h
  | some o =>
    rw [ho] at h
    simp only [Option.map_some, Option.getD_some, Array.any_eq_true'] at h
    obtain ⟨e, he, h2⟩ := h
    simp only [Bool.and_eq_true, beq_iff_eq] at h2
    exact ⟨o, rfl, e, he, h2.1, h2.2⟩
theorem waits_spec {full : Array Bool} {n : Nat} (h : waitsB md ops full n = true) {i : Nat} (hi : i < n) :
    (∃ k, k ≠ i ∧ full.getD k false = true ∧ ∃ o, ops[k]? = some o ∧ ∃ e ∈ o.after, Region.binds md e = true ∧ e.on = i) ∨ (∀ j ∈ Region.ready md ops full, ∃ o, ops[j]? = some o ∧ ∃ e ∈ o.after, Region.binds md e = true ∧ e.on = i) := by
  have h1 := List.all_eq_true.1 h i (List.mem_range.2 hi)
  rw [Bool.or_eq_true] at h1
  rcases h1 with h1 | h1
  · obtain ⟨k, _, h2⟩ := List.any_eq_true.1 h1
    simp only [Bool.and_eq_true, bne_iff_ne] at h2
    exact .inl ⟨k, h2.1.1, h2.1.2, after_spec h2.2⟩
  · exact .inr fun j hj => after_spec (List.all_eq_true.1 h1 j hj)
theorem not_listed {i : Nat} {listed : Array Bool} (h : i ∈ Region.ready md ops listed) : listed.getD i false = false := by
  have h0 := (mem_ready.1 h).1
  rcases Nat.lt_or_ge i listed.size with h' | h'
  · simp [h'] at h0 ⊢; exact h0
  · simp [Array.getElem?_eq_none h']

theorem wpAnyN_first {Q : Act → Prop} {full : Array Bool} {n : Nat} (hwait : waitsB md ops full n = true) {i : Nat} {oi : Oper} {v : Value} (hin : i < n) (hi : ops[i]? = some oi) (hsel : ∀ (j : Nat) (o : Oper) cs b, ops[j]? = some o → o.op ≠ .select cs b) :
    ∀ (fuel : Nat) (listed : Array Bool) (a : Act), Closed md ops listed →
      (∀ j oj, ops[j]? = some oj → j ≠ i → listed.getD j true = false → (∀ e ∈ oj.after, Region.binds md e = true → e.on ≠ i) → oi.apart ops oj = true) →
      i ∈ Region.ready md ops listed → YieldsIn P ops C oi v a →
      wpAnyN P md ops C (fun li a => li = full ∧ Q a) fuel (listed.setIfInBounds i true) (a.put oi.dst v) → wpAnyN P md ops C (fun li a => li = full ∧ Q a) (fuel + 1) listed a := by
  intro fuel
  induction fuel with
  | zero =>
    intro listed a hcl _ hr hy H
    refine ⟨fun h => (by rw [h] at hr; cases hr), fun j hj => ?_⟩
    by_cases hji : j = i
    · subst hji; exact hy.qOp hi H
    · have h1 := ready_mono hj hji
      have h2 : listed.setIfInBounds i true = full := H.1
      rw [h2] at h1
      rcases waits_spec hwait hin with ⟨k, hki, hkf, o, ho, e, he, hb, heq⟩ | h4
      · rw [← h2] at hkf
        have hk2 : listed.getD k true = true := by
          rw [getD_set_ne false (Ne.symm hki)] at hkf
          rcases Nat.lt_or_ge k listed.size with h' | h'
          · simp [h'] at hkf ⊢; exact hkf
          · simp [Array.getElem?_eq_none h']
        have h3 := hcl k o ho hk2 e he hb
        rw [heq, not_listed hr] at h3
        cases h3
      · obtain ⟨o, ho, e, he, hb, heq⟩ := h4 j h1
        obtain ⟨_, o', ho', hall⟩ := mem_ready.1 hj
        rw [ho] at ho'
        cases ho'
        have h3 := hall e he hb
        rw [heq, not_listed hr] at h3
        cases h3
  | succ fuel ih =>
    intro listed a hcl hfree hr hy H
    refine ⟨fun h => (by rw [h] at hr; cases hr), fun j hj => ?_⟩
    by_cases hji : j = i
    · subst hji; exact hy.qOp hi H
    · have h1 := H.2 j (ready_mono hj hji)
      obtain ⟨hjun, oj, hoj, hall⟩ := mem_ready.1 hj
      have hnot : ∀ e ∈ oj.after, Region.binds md e = true → e.on ≠ i := fun e he hb heq => by
        have h1 := hall e he hb
        rw [heq, not_listed hr] at h1
        cases h1
      have h2 := qOp_put hoj (hfree j oj hoj hji hjun hnot) (fun cs b => hsel i oi cs b hi) (fun cs b => hsel j oj cs b hoj) hy h1
      have hfree' : ∀ k ok, ops[k]? = some ok → k ≠ i → (listed.setIfInBounds j true).getD k true = false →
          (∀ e ∈ ok.after, Region.binds md e = true → e.on ≠ i) → oi.apart ops ok = true := fun k ok hk hki hun hno => by
        refine hfree k ok hk hki ?_ hno
        by_cases hjk : j = k
        · subst hjk; exact hjun
        · rw [getD_set_ne true hjk] at hun; exact hun
      refine qOp_mono (fun a' h3 => ih (listed.setIfInBounds j true) a' (hcl.set hj) hfree' (ready_mono hr (Ne.symm hji)) h3.1 ?_) h2
      rw [Array.setIfInBounds_comm _ _ hji]
      exact h3.2

def lexPart (md : Region.Mode) (ops : Array Oper) : Nat → Nat → Array Bool → Bool
  | 0, _, _ => true
  | fuel + 1, k, listed => (Region.ready md ops listed).contains k && Region.free md ops listed k && lexPart md ops fuel (k + 1) (listed.setIfInBounds k true)
def fullAt : Nat → Nat → Array Bool → Array Bool
  | 0, _, listed => listed
  | fuel + 1, k, listed => fullAt fuel (k + 1) (listed.setIfInBounds k true)
def tailB (md : Region.Mode) (ops : Array Oper) : Nat → Nat → Array Bool → Bool
  | 0, _, listed => (Region.ready md ops listed).isEmpty
  | fuel + 1, k, listed => (Region.ready md ops listed == [k]) && tailB md ops fuel (k + 1) (listed.setIfInBounds k true)

theorem wpAnyN_lex {Q : Act → Prop} {full : Array Bool} {n : Nat} (hs : Region.noSelect ops = true) (hwait : waitsB md ops full n = true) : ∀ (l : List Oper) (k : Nat) (listed : Array Bool) (a : Act), Closed md ops listed → (∀ j, j < l.length → l[j]? = ops[k + j]?) →
    k + l.length = n → lexPart md ops l.length k listed = true → fullAt l.length k listed = full → wpQuiet P ops C Q l a → wpAnyN P md ops C (fun li a => li = full ∧ Q a) l.length listed a
  | [], _, _, _, _, _, _, _, hf, h => ⟨hf, h⟩
  | o :: l, k, listed, a, hcl, hl, hn, hB, hfu, h => by
    have h0 : ops[k]? = some o := by simpa using (hl 0 (by simp)).symm
    simp only [List.length_cons] at hn
    simp only [List.length_cons, lexPart, Bool.and_eq_true] at hB
    obtain ⟨⟨hr, hf⟩, hB'⟩ := hB
    have hst : qOp P ops C k (wpQuiet P ops C Q l) a := by unfold qOp; simp only [h0]; exact h
    obtain ⟨v, hy, hK⟩ := yieldsIn_of_qOp h0 hst
    exact wpAnyN_first hwait (by omega) h0 (Region.noSelect_spec hs) l.length listed a hcl (Region.free_spec h0 hf) (by simpa using hr) hy
      (wpAnyN_lex hs hwait l (k + 1) _ _ (hcl.set (by simpa using hr)) (fun j hj => by have := hl (j + 1) (by simpa using hj); simpa [Nat.add_assoc, Nat.add_comm 1 j] using this) (by omega) hB' hfu hK)

theorem wpAny_tail {Q : Exit → Act → World → Prop} : ∀ (l : List Oper) (k : Nat) (listed : Array Bool) (a : Act) (w : World), (∀ j, l[j]? = ops[k + j]?) →
    tailB md ops l.length k listed = true → wpList P ops Q l a w → wpAny P md ops Q l.length listed a w
  | [], _, _, _, _, _, hB, h => ⟨by simpa [tailB] using hB, h⟩
  | o :: l, k, listed, a, w, hl, hB, h => by
    have h0 : ops[k]? = some o := by simpa using (hl 0).symm
    simp only [List.length_cons, tailB, Bool.and_eq_true, beq_iff_eq] at hB
    obtain ⟨hr, hB'⟩ := hB
    refine ⟨fun h1 => (by rw [hr] at h1; cases h1), fun i hi => ?_⟩
    rw [hr] at hi
    obtain rfl : i = k := by simpa using hi
    have hop : wpOp P ops Q i (wpList P ops Q l) a w := by unfold wpOp; simp only [h0]; exact h
    exact wpOp_mono (fun a' w' h' => wpAny_tail l (i + 1) _ a' w' (fun j => by have := hl (j + 1); simpa [Nat.add_assoc, Nat.add_comm 1 j] using this) hB' h') hop

def partB (md : Region.Mode) (ops : Array Oper) (n : Nat) : Bool :=
  Region.noSelect ops && lexPart md ops n 0 (Array.replicate ops.size false) && waitsB md ops (fullAt n 0 (Array.replicate ops.size false)) n && tailB md ops (ops.size - n) n (fullAt n 0 (Array.replicate ops.size false))

theorem wp_region_part {id : Nat} {Q : Exit → Act → World → Prop} {a : Act} {w : World} {l1 l2 : List Oper} (hm : P.follows .mixedOrders = true) (hB : partB .any (l1 ++ l2).toArray l1.length = true) (hC : C { w with drawn := w.drawn + 1 })
    (h : wpQuiet P (l1 ++ l2).toArray C (fun a' => ∀ w', C w' → wpList P (l1 ++ l2).toArray Q l2 a' w') l1 a) : (Code.region id (l1 ++ l2).toArray true).wp P Q a w := by
  simp only [partB, Bool.and_eq_true] at hB
  obtain ⟨⟨⟨hs, hl⟩, hw⟩, ht⟩ := hB
  refine wp_region_any hm ?_
  have hsz : (l1 ++ l2).toArray.size = l1.length + l2.length := by simp
  rw [hsz, show l1.length + l2.length - l1.length = l2.length by omega] at ht
  have h1 := wpAnyN_lex (C := C) (md := .any) hs hw l1 0 (Array.replicate (l1 ++ l2).toArray.size false) a Closed.start (fun j hj => by rw [Nat.zero_add, List.getElem?_toArray, List.getElem?_append_left hj]) (by omega) hl rfl h
  have h2 := wpAny_of_N (m := l2.length) (Q' := Q) (fun listed a w hw hq => by
    obtain ⟨rfl, hq⟩ := hq
    refine wpAny_tail l2 l1.length _ a w (fun j => ?_) (by rw [hsz]; exact ht) (hq w hw)
    rw [List.getElem?_toArray, List.getElem?_append_right (by omega), show l1.length + j - l1.length = j by omega]) _ _ _ _ hC h1
  rw [hsz] at h2 ⊢
  exact h2

end

/-- A world in which all that lay in w is as it was. -/
structure KeptW (w : World) where
  v : World
  h : Kept w v

theorem region_kept {P : Program} {id : Nat} {Q : Exit → Act → World → Prop} {a : Act} {w : World} {l : List Oper} (W : World) (hW : Kept W w) (hm : P.follows .mixedOrders = true) (hB : Region.lexB .any l.toArray = true)
    (h : wpQuiet P l.toArray (fun w' => ∃ p : KeptW W, w' = p.v) (fun a' => ∀ w', (∃ p : KeptW W, w' = p.v) → Q .normal a' w') l a) : (Code.region id l.toArray true).wp P Q a w :=
  wp_region_quiet (C := fun w' => ∃ p : KeptW W, w' = p.v) hm hB ⟨⟨w.drew, hW.drewR⟩, rfl⟩ (by simpa using h)

/-- The first n only read; the others wait for them. -/
theorem region_part {P : Program} {id : Nat} {Q : Exit → Act → World → Prop} {a : Act} {w : World} {l : List Oper} (n : Nat) (W : World) (hW : Kept W w) (hm : P.follows .mixedOrders = true) (hB : partB .any l.toArray n = true) (hn : (l.take n).length = n)
    (h : wpQuiet P l.toArray (fun w' => ∃ p : KeptW W, w' = p.v) (fun a' => ∀ w', (∃ p : KeptW W, w' = p.v) → wpList P l.toArray Q (l.drop n) a' w') (l.take n) a) : (Code.region id l.toArray true).wp P Q a w := by
  have e : l = l.take n ++ l.drop n := (List.take_append_drop n l).symm
  have h3 := wp_region_part (P := P) (id := id) (Q := Q) (a := a) (w := w) (C := fun w' => ∃ p : KeptW W, w' = p.v) (l1 := l.take n) (l2 := l.drop n) hm (by rw [← e, hn]; exact hB) ⟨⟨w.drew, hW.drewR⟩, rfl⟩ (by rw [← e]; exact h)
  rw [← e] at h3
  exact h3

theorem Calls.keptw {P : Program} {f : FuncId} {args : Array Value} {W : World} {p : KeptW W} {v : Value}
    (h : Calls P f args p.v fun e w' => e = .returned v ∧ Kept p.v w') : Calls P f args p.v fun e w'' => e = .returned v ∧ ∃ q : KeptW W, w'' = q.v :=
  h.mono fun _ _ ⟨he, hk⟩ => ⟨he, ⟨_, p.h.trans hk⟩, rfl⟩
theorem Calls.keptw_same {P : Program} {f : FuncId} {args : Array Value} {W : World} {p : KeptW W} {v : Value}
    (h : Calls P f args p.v fun e w' => e = .returned v ∧ w' = p.v) : Calls P f args p.v fun e w'' => e = .returned v ∧ ∃ q : KeptW W, w'' = q.v :=
  h.mono fun _ _ ⟨he, hk⟩ => ⟨he, p, hk⟩

end Go.Proofs.YtecamiefpdkjoaaDoor.Dg
