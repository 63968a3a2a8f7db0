/-
  A region that draws its order: some of its operations, in an order of ours, only read (their callees keep all that lay in memory); the others wait for them, one behind the other: walked once.
-/
import Derived.WalkKit
import Derived.WalkSpells
import Derived.WalkLawsBesides
import Derived.RowKit3
import Derived.Below
import Derived.BigQuiet
import Derived.Deep.MidRow
namespace Go.Proofs.YtjpjcojabjkaaaaDoor
open Go.RowKit
set_option maxRecDepth 20000

section
variable {P : Program} {ops : Array Oper} {md : Region.Mode} {C : World → Prop}

/-- The first so many operations, in whatever order; behind them Q. -/
def wpAnyN (P : Program) (md : Region.Mode) (ops : Array Oper) (C : World → Prop) (Q : Array Bool → Act → Prop) : Nat → Array Bool → Act → Prop
  | 0, listed, a => Q listed a
  | fuel + 1, listed, a => Region.ready md ops listed ≠ [] ∧ ∀ i ∈ Region.ready md ops listed, qOp P ops C i (wpAnyN P md ops C Q fuel (listed.setIfInBounds i true)) a

theorem wpAny_of_N {Q : Array Bool → Act → Prop} {Q' : Exit → Act → World → Prop} {m : Nat} (hQ : ∀ listed a w, C w → Q listed a → wpAny P md ops Q' m listed a w) :
    ∀ (fuel : Nat) (listed : Array Bool) (a : Act) (w : World), C w → wpAnyN P md ops C Q fuel listed a → wpAny P md ops Q' (fuel + m) listed a w
  | 0, listed, a, w, hw, h => by rw [Nat.zero_add]; exact hQ listed a w hw h
  | fuel + 1, listed, a, w, hw, h => by
    rw [show fuel + 1 + m = fuel + m + 1 by omega]
    exact ⟨fun h0 => absurd h0 h.1, fun i hi => wpOp_of_qOp hw (fun a' w' hw' => wpAny_of_N hQ fuel _ a' w' hw') (h.2 i hi)⟩

/-- What has come up has come up behind all that it waits for. -/
def Closed (md : Region.Mode) (ops : Array Oper) (listed : Array Bool) : Prop := ∀ (k : Nat) (o : Oper), ops[k]? = some o → listed.getD k true = true → ∀ e ∈ o.after, Region.binds md e = true → listed.getD e.on false = true
theorem Closed.set {listed : Array Bool} (h : Closed md ops listed) {j : Nat} (hj : j ∈ Region.ready md ops listed) : Closed md ops (listed.setIfInBounds j true) := fun k o hk hl e he hb => by
  by_cases hjk : j = k
  · subst hjk
    obtain ⟨_, o', ho', hall⟩ := mem_ready.1 hj
    rw [hk] at ho'
    cases ho'
    exact getD_set_true (hall e he hb)
  · rw [getD_set_ne true hjk] at hl
    exact getD_set_true (h k o hk hl e he hb)
theorem Closed.start : Closed md ops (Array.replicate ops.size false) := fun k o hk hl => by
  have hlt := (Array.getElem?_eq_some_iff.1 hk).1
  simp [hlt] at hl
/-- Each of ks is waited for, by another of them or by all that may come up at 'full'. -/
def waitsB (md : Region.Mode) (ops : Array Oper) (full : Array Bool) (ks : List Nat) : Bool :=
  ks.all fun i =>
    (ks.any fun k => (k != i) && full.getD k false && ((ops[k]?).map (·.after.any fun e => Region.binds md e && e.on == i)).getD false) ||
    (Region.ready md ops full).all fun j => ((ops[j]?).map (·.after.any fun e => Region.binds md e && e.on == i)).getD false
theorem after_spec {i j : Nat} (h : ((ops[j]?).map (·.after.any fun e => Region.binds md e && e.on == i)).getD false = true) : ∃ o, ops[j]? = some o ∧ ∃ e ∈ o.after, Region.binds md e = true ∧ e.on = i := by
  cases ho : ops[j]? with
  | none => rw [ho] at h; simp at h
  | some o =>
    rw [ho] at h
    simp only [Option.map_some, Option.getD_some, Array.any_eq_true'] at h
    obtain ⟨e, he, h2⟩ := h
    simp only [Bool.and_eq_true, beq_iff_eq] at h2
    exact ⟨o, rfl, e, he, h2.1, h2.2⟩
theorem waits_spec {full : Array Bool} {ks : List Nat} (h : waitsB md ops full ks = true) {i : Nat} (hi : i ∈ ks) :
    (∃ k, k ≠ i ∧ full.getD k false = true ∧ ∃ o, ops[k]? = some o ∧ ∃ e ∈ o.after, Region.binds md e = true ∧ e.on = i) ∨ (∀ j ∈ Region.ready md ops full, ∃ o, ops[j]? = some o ∧ ∃ e ∈ o.after, Region.binds md e = true ∧ e.on = i) := by
  have h1 := List.all_eq_true.1 h i hi
  rw [Bool.or_eq_true] at h1
  rcases h1 with h1 | h1
  · obtain ⟨k, _, h2⟩ := List.any_eq_true.1 h1
    simp only [Bool.and_eq_true, bne_iff_ne] at h2
    exact .inl ⟨k, h2.1.1, h2.1.2, after_spec h2.2⟩
  · exact .inr fun j hj => after_spec (List.all_eq_true.1 h1 j hj)
theorem not_listed {i : Nat} {listed : Array Bool} (h : i ∈ Region.ready md ops listed) : listed.getD i false = false := by
  have h0 := (mem_ready.1 h).1
  rcases Nat.lt_or_ge i listed.size with h' | h'
  · simp [h'] at h0 ⊢; exact h0
  · simp [Array.getElem?_eq_none h']

theorem wpAnyN_first {Q : Act → Prop} {full : Array Bool} {ks : List Nat} (hwait : waitsB md ops full ks = true) {i : Nat} {oi : Oper} {v : Value} (hin : i ∈ ks) (hi : ops[i]? = some oi) (hsel : ∀ (j : Nat) (o : Oper) cs b, ops[j]? = some o → o.op ≠ .select cs b) :
    ∀ (fuel : Nat) (listed : Array Bool) (a : Act), Closed md ops listed →
      (∀ j oj, ops[j]? = some oj → j ≠ i → listed.getD j true = false → (∀ e ∈ oj.after, Region.binds md e = true → e.on ≠ i) → oi.apart ops oj = true) →
      i ∈ Region.ready md ops listed → YieldsIn P ops C oi v a →
      wpAnyN P md ops C (fun li a => li = full ∧ Q a) fuel (listed.setIfInBounds i true) (a.put oi.dst v) → wpAnyN P md ops C (fun li a => li = full ∧ Q a) (fuel + 1) listed a := by
  intro fuel
  induction fuel with
  | zero =>
    intro listed a hcl _ hr hy H
    refine ⟨fun h => (by rw [h] at hr; cases hr), fun j hj => ?_⟩
    by_cases hji : j = i
    · subst hji; exact hy.qOp hi H
    · have h1 := ready_mono hj hji
      have h2 : listed.setIfInBounds i true = full := H.1
      rw [h2] at h1
      rcases waits_spec hwait hin with ⟨k, hki, hkf, o, ho, e, he, hb, heq⟩ | h4
      · rw [← h2] at hkf
        have hk2 : listed.getD k true = true := by
          rw [getD_set_ne false (Ne.symm hki)] at hkf
          rcases Nat.lt_or_ge k listed.size with h' | h'
          · simp [h'] at hkf ⊢; exact hkf
          · simp [Array.getElem?_eq_none h']
        have h3 := hcl k o ho hk2 e he hb
        rw [heq, not_listed hr] at h3
        cases h3
      · obtain ⟨o, ho, e, he, hb, heq⟩ := h4 j h1
        obtain ⟨_, o', ho', hall⟩ := mem_ready.1 hj
        rw [ho] at ho'
        cases ho'
        have h3 := hall e he hb
        rw [heq, not_listed hr] at h3
        cases h3
  | succ fuel ih =>
    intro listed a hcl hfree hr hy H
    refine ⟨fun h => (by rw [h] at hr; cases hr), fun j hj => ?_⟩
    by_cases hji : j = i
    · subst hji; exact hy.qOp hi H
    · have h1 := H.2 j (ready_mono hj hji)
      obtain ⟨hjun, oj, hoj, hall⟩ := mem_ready.1 hj
      have hnot : ∀ e ∈ oj.after, Region.binds md e = true → e.on ≠ i := fun e he hb heq => by
        have h1 := hall e he hb
        rw [heq, not_listed hr] at h1
        cases h1
      have h2 := qOp_put hoj (hfree j oj hoj hji hjun hnot) (fun cs b => hsel i oi cs b hi) (fun cs b => hsel j oj cs b hoj) hy h1
      have hfree' : ∀ k ok, ops[k]? = some ok → k ≠ i → (listed.setIfInBounds j true).getD k true = false →
          (∀ e ∈ ok.after, Region.binds md e = true → e.on ≠ i) → oi.apart ops ok = true := fun k ok hk hki hun hno => by
        refine hfree k ok hk hki ?_ hno
        by_cases hjk : j = k
        · subst hjk; exact hjun
        · rw [getD_set_ne true hjk] at hun; exact hun
      refine qOp_mono (fun a' h3 => ih (listed.setIfInBounds j true) a' (hcl.set hj) hfree' (ready_mono hr (Ne.symm hji)) h3.1 ?_) h2
      rw [Array.setIfInBounds_comm _ _ hji]
      exact h3.2

def lexPart (md : Region.Mode) (ops : Array Oper) : List Nat → Array Bool → Bool
  | [], _ => true
  | k :: ks, listed => (Region.ready md ops listed).contains k && Region.free md ops listed k && lexPart md ops ks (listed.setIfInBounds k true)
def fullAt : List Nat → Array Bool → Array Bool
  | [], listed => listed
  | k :: ks, listed => fullAt ks (listed.setIfInBounds k true)
def tailB (md : Region.Mode) (ops : Array Oper) : List Nat → Array Bool → Bool
  | [], listed => (Region.ready md ops listed).isEmpty
  | k :: ks, listed => (Region.ready md ops listed == [k]) && tailB md ops ks (listed.setIfInBounds k true)
/-- The operations of these numbers. -/
def pick (l : List Oper) : List Nat → List Oper
  | [] => []
  | k :: ks => (l[k]?).toList ++ pick l ks
def insideB (n : Nat) (ks : List Nat) : Bool := ks.all fun k => decide (k < n)

theorem wpAnyN_ord {Q : Act → Prop} {full : Array Bool} {l0 : List Oper} {all : List Nat} (hs : Region.noSelect l0.toArray = true) (hwait : waitsB md l0.toArray full all = true) : ∀ (ks : List Nat) (listed : Array Bool) (a : Act), Closed md l0.toArray listed → (∀ k ∈ ks, k ∈ all) → insideB l0.length ks = true →
    lexPart md l0.toArray ks listed = true → fullAt ks listed = full → wpQuiet P l0.toArray C Q (pick l0 ks) a → wpAnyN P md l0.toArray C (fun li a => li = full ∧ Q a) ks.length listed a
  | [], _, _, _, _, _, _, hf, h => ⟨hf, h⟩
  | k :: ks, listed, a, hcl, hall, hin, hB, hfu, h => by
    simp only [insideB, List.all_cons, Bool.and_eq_true, decide_eq_true_eq] at hin
    obtain ⟨o, h0⟩ : ∃ o, l0.toArray[k]? = some o := ⟨l0[k]'hin.1, by rw [List.getElem?_toArray, List.getElem?_eq_getElem hin.1]⟩
    have h0' : l0[k]? = some o := by rw [← List.getElem?_toArray]; exact h0
    simp only [lexPart, Bool.and_eq_true] at hB
    obtain ⟨⟨hr, hf⟩, hB'⟩ := hB
    rw [pick, h0'] at h
    have hst : qOp P l0.toArray C k (wpQuiet P l0.toArray C Q (pick l0 ks)) a := by unfold qOp; simp only [h0]; exact h
    obtain ⟨v, hy, hK⟩ := yieldsIn_of_qOp h0 hst
    exact wpAnyN_first hwait (hall k (by simp)) h0 (Region.noSelect_spec hs) ks.length listed a hcl (Region.free_spec h0 hf) (by simpa using hr) hy
      (wpAnyN_ord hs hwait ks _ _ (hcl.set (by simpa using hr)) (fun x hx => hall x (by simp [hx])) hin.2 hB' hfu hK)

theorem wpAny_tail {Q : Exit → Act → World → Prop} {l0 : List Oper} : ∀ (ks : List Nat) (listed : Array Bool) (a : Act) (w : World), insideB l0.length ks = true →
    tailB md l0.toArray ks listed = true → wpList P l0.toArray Q (pick l0 ks) a w → wpAny P md l0.toArray Q ks.length listed a w
  | [], _, _, _, _, hB, h => ⟨by simpa [tailB] using hB, h⟩
  | k :: ks, listed, a, w, hin, hB, h => by
    simp only [insideB, List.all_cons, Bool.and_eq_true, decide_eq_true_eq] at hin
    obtain ⟨o, h0⟩ : ∃ o, l0.toArray[k]? = some o := ⟨l0[k]'hin.1, by rw [List.getElem?_toArray, List.getElem?_eq_getElem hin.1]⟩
    have h0' : l0[k]? = some o := by rw [← List.getElem?_toArray]; exact h0
    rw [pick, h0'] at h
    simp only [tailB, Bool.and_eq_true, beq_iff_eq] at hB
    obtain ⟨hr, hB'⟩ := hB
    refine ⟨fun h1 => (by rw [hr] at h1; cases h1), fun i hi => ?_⟩
    rw [hr] at hi
    obtain rfl : i = k := by simpa using hi
    have hop : wpOp P l0.toArray Q i (wpList P l0.toArray Q (pick l0 ks)) a w := by unfold wpOp; simp only [h0]; exact h
    exact wpOp_mono (fun a' w' h' => wpAny_tail ks _ a' w' hin.2 hB' h') hop

def partB (md : Region.Mode) (l : List Oper) (ks ms : List Nat) : Bool :=
  Region.noSelect l.toArray && lexPart md l.toArray ks (Array.replicate l.toArray.size false) && waitsB md l.toArray (fullAt ks (Array.replicate l.toArray.size false)) ks && tailB md l.toArray ms (fullAt ks (Array.replicate l.toArray.size false)) && insideB l.length ks && insideB l.length ms && (ks.length + ms.length == l.length)

theorem wp_region_ord {id : Nat} {Q : Exit → Act → World → Prop} {a : Act} {w : World} {l : List Oper} (ks ms : List Nat) (hm : P.follows .mixedOrders = true) (hB : partB .any l ks ms = true) (hC : C { w with drawn := w.drawn + 1 })
    (h : wpQuiet P l.toArray C (fun a' => ∀ w', C w' → wpList P l.toArray Q (pick l ms) a' w') (pick l ks) a) : (Code.region id l.toArray true).wp P Q a w := by
  simp only [partB, Bool.and_eq_true, beq_iff_eq] at hB
  obtain ⟨⟨⟨⟨⟨⟨hs, hl⟩, hw⟩, ht⟩, hi1⟩, hi2⟩, hlen⟩ := hB
  refine wp_region_any hm ?_
  have h1 := wpAnyN_ord (C := C) (md := .any) hs hw ks (Array.replicate l.toArray.size false) a Closed.start (fun _ h => h) hi1 hl rfl h
  have h2 := wpAny_of_N (m := ms.length) (Q' := Q) (fun listed a w hw hq => by
    obtain ⟨rfl, hq⟩ := hq
    exact wpAny_tail ms _ a w hi2 ht (hq w hw)) _ _ _ _ hC h1
  rw [hlen] at h2
  exact h2

end

/-- Just new memory has come. -/
def New (w w' : World) : Prop := Below w.heap.size w w'
theorem New.refl (w : World) : New w w := Below.refl _ _
theorem New.trans {a b c : World} (h : New a b) (k : New b c) : New a c := ⟨k.os.trans h.os, k.tape.trans h.tape, k.output.trans h.output, Nat.le_trans h.size k.size, fun i hi => (k.block i (Nat.lt_of_lt_of_le hi h.size)).trans (h.block i hi)⟩
theorem New.drew (w : World) : New w w.drew := ⟨rfl, rfl, rfl, Nat.le_refl _, fun _ _ => rfl⟩
theorem New.drewR {w w' : World} (h : New w w') : New w w'.drew := ⟨h.os, h.tape, h.output, h.size, h.block⟩
theorem New.alloc {w w' : World} (h : New w w') (o : Obj) : New w (w'.alloc o) := Below.alloc h h.size o
theorem New.cell {w w' : World} (h : New w w') {p : Addr} (hp : p.block < w.heap.size) : w'.cell? p = w.cell? p := Below.cell h hp
theorem New.below {w w1 w2 : World} {B : Nat} (h : Below B w w1) (hB : B ≤ w1.heap.size) (k : New w1 w2) : Below B w w2 := h.trans (k.mono hB)

/-- A world in which all that lay in w is as it was. -/
structure NewW (w : World) where
  v : World
  h : New w v
theorem NewW.ne (w : World) : Nonempty (NewW w) := ⟨⟨w, New.refl w⟩⟩
theorem NewW.cell {W : World} {g o : Nat} {v : Value} (h : W.cell? ⟨g, o, none⟩ = some v) (p : NewW W) : p.v.cell? ⟨g, o, none⟩ = some v := (p.h.cell (World.block_lt_of_cell? W _ h)).trans h

theorem region_ord {P : Program} {id : Nat} {Q : Exit → Act → World → Prop} {a : Act} {w : World} {l : List Oper} (ks ms : List Nat) (W : World) (hW : New W w) (hm : P.follows .mixedOrders = true) (hB : partB .any l ks ms = true)
    (h : wpQuiet P l.toArray (fun w' => ∃ p : NewW W, w' = p.v) (fun a' => ∀ w', (∃ p : NewW W, w' = p.v) → wpList P l.toArray Q (pick l ms) a' w') (pick l ks) a) : (Code.region id l.toArray true).wp P Q a w :=
  wp_region_ord (C := fun w' => ∃ p : NewW W, w' = p.v) ks ms hm hB ⟨⟨w.drew, hW.drewR⟩, rfl⟩ h

theorem Calls.neww {P : Program} {f : FuncId} {args : Array Value} {W : World} {p : NewW W} {v : Value}
    (h : Calls P f args p.v fun e w' => e = .returned v ∧ New p.v w') : Calls P f args p.v fun e w'' => e = .returned v ∧ ∃ q : NewW W, w'' = q.v :=
  h.mono fun _ _ ⟨he, hk⟩ => ⟨he, ⟨_, p.h.trans hk⟩, rfl⟩

/-- A range of cells read inside a region that draws its order. -/
theorem wpQuiet_load_mid {P : Program} {ops : Array Oper} {Q : Act → Prop} {a : Act} {o : Oper} {rest : List Oper} {W : World} (hw : Region.wanted o (yielded ops a.tmps) = true) (ty : TypeId) (x : Operand) (ho : o.op = .load ty x)
    (g off : Nat) (hx : a.eval x = .pointer (some ⟨g, off, none⟩)) (cs : List Value) (hr : ∀ p : NewW W, p.v.rangeAt g off cs) (d : TypeDesc)
    (hu : P.underlying ty = some d) (hd : d.isRow = true) (hi : (P.info? ty).map (·.size) = some cs.length)
    (h : wpQuiet P ops (fun w' => ∃ p : NewW W, w' = p.v) Q rest (a.put o.dst (.agg cs.toArray))) : wpQuiet P ops (fun w' => ∃ p : NewW W, w' = p.v) Q (o :: rest) a :=
  BigFrame.wpQuiet_want hw fun K hK => ⟨.agg cs.toArray, fun w ⟨p, e⟩ => by
    subst e
    have h1 := run_loadVar_mid p.v g off ty cs d (hr p) hu hd hi
    unfold Oper.quietAt execOp
    simp only [ho, hx, Instr.loadAt, Instr.sureAddr, Sem.run_bind, Sem.run_pure, Result.andThen_ok, h1]
    exact ⟨rfl, rfl⟩, hK _ h⟩

end Go.Proofs.YtjpjcojabjkaaaaDoor
