/-
  A region that draws its order and ends in a store: what reads is taken first, all of it in one walk, while the cells that it reads are held; then one operation behind the other; behind the store, which waits for all, nothing need be held. A region that draws its order, with two stores: what reads memory is held until the first store, and only so long; what computes alone may come whenever.
-/
import Derived.OrdersHeld
import Derived.Deep.RegionHeld
import Derived.Test.YtjpjcojabjkaaaaDoorGac
namespace Go.Proofs.YtjpjcojabjkaaaaDoor
open Go
set_option maxRecDepth 20000

section
variable {P : Program} {ops : Array Oper} {Q : Exit → Act → World → Prop} {md : Region.Mode} {S : World → Prop} {z : Nat}

/-- Whatever order is picked; behind each operation but number z S is held. -/
def wpG (P : Program) (md : Region.Mode) (ops : Array Oper) (Q : Exit → Act → World → Prop) (S : World → Prop) (z : Nat) : Nat → Array Bool → Act → World → Prop
  | 0, li, a, w => Region.ready md ops li = [] ∧ Q .normal a w
  | n + 1, li, a, w => (Region.ready md ops li = [] → Q .normal a w) ∧
      ∀ i ∈ Region.ready md ops li, wpOp P ops Q i (fun a' w' => (i ≠ z → S w') ∧ wpG P md ops Q S z n (li.setIfInBounds i true) a' w') a w

theorem wpG.any : ∀ (n : Nat) (li : Array Bool) (a : Act) (w : World), wpG P md ops Q S z n li a w → wpAny P md ops Q n li a w
  | 0, _, _, _, h => h
  | n + 1, _, _, _, h => ⟨h.1, fun i hi => wpOp_mono (fun a' w' k => wpG.any n _ a' w' k.2) (h.2 i hi)⟩

/-- Of two that may come up neither waits for the other. -/
theorem ready_apart {li : Array Bool} {i j : Nat} {o : Oper} (hi : i ∈ Region.ready md ops li) (hj : j ∈ Region.ready md ops li) (ho : ops[j]? = some o) (e : Edge) (he : e ∈ o.after) (hb : Region.binds md e = true) : e.on ≠ i := by
  rintro rfl
  obtain ⟨hun, _⟩ := mem_ready.1 hi
  obtain ⟨_, o', ho', hall⟩ := mem_ready.1 hj
  obtain rfl : o' = o := Option.some.inj (ho'.symm.trans ho)
  have hli := hall e he hb
  by_cases hs : e.on < li.size
  · simp only [Array.getD_eq_getD_getElem?, Array.getElem?_eq_getElem hs, Option.getD_some] at hun hli
    rw [hun] at hli
    cases hli
  · simp [Array.getElem?_eq_none (Nat.le_of_not_lt hs)] at hli

/-- Number z waits for number i. -/
def waitsFor (md : Region.Mode) (ops : Array Oper) (z i : Nat) : Bool := ((ops[z]?).map (·.after.any fun e => Region.binds md e && e.on == i)).getD false
theorem waitsFor.not {li : Array Bool} {i : Nat} (h : waitsFor md ops z i = true) (hr : i ∈ Region.ready md ops li) : z ∉ Region.ready md ops li := fun hz => by
  unfold waitsFor at h
  cases ho : ops[z]? with
  | none => rw [ho] at h; simp at h
  | some o =>
    rw [ho] at h
    simp only [Option.map_some, Option.getD_some, Array.any_eq_true'] at h
    obtain ⟨e, he, h2⟩ := h
    simp only [Bool.and_eq_true, beq_iff_eq] at h2
    exact ready_apart hr hz ho e he h2.1 h2.2

/-- Whoever may still come ahead of number i leaves its temporaries alone. -/
def Free (md : Region.Mode) (ops : Array Oper) (oi : Oper) (i : Nat) (li : Array Bool) : Prop :=
  ∀ j oj, ops[j]? = some oj → j ≠ i → li.getD j true = false → (∀ e ∈ oj.after, Region.binds md e = true → e.on ≠ i) → oi.apart ops oj = true
theorem Free.set {oi : Oper} {i j : Nat} {li : Array Bool} (h : Free md ops oi i li) (hj : j ∈ Region.ready md ops li) : Free md ops oi i (li.setIfInBounds j true) := by
  intro k ok hk hki hun hno
  by_cases e : j = k
  · exact h k ok hk hki (e ▸ (mem_ready.1 hj).1) hno
  · exact h k ok hk hki (getD_set_ne true e ▸ hun) hno

/-- Number i, which reads, carried to the front past whoever came ahead of it. -/
theorem wpG.put {i : Nat} {oi : Oper} {v : Value} (hi : ops[i]? = some oi) (hsel : ∀ (j : Nat) (o : Oper) cs b, ops[j]? = some o → o.op ≠ .select cs b) (hQ : ∀ c a w, Q (.panic c) (a.put oi.dst v) w → Q (.panic c) a w)
    (hz : waitsFor md ops z i = true) : ∀ (n : Nat) (li : Array Bool) (a : Act) (w : World), Free md ops oi i li → i ∈ Region.ready md ops li → YieldsIf P ops S oi v a → S w →
      wpG P md ops Q S z n (li.setIfInBounds i true) (a.put oi.dst v) w → wpG P md ops Q S z (n + 1) li a w := by
  intro n
  induction n with
  | zero =>
    intro li a w _ hr hy hS H
    refine ⟨fun h => absurd (h ▸ hr) (List.not_mem_nil), fun j hj => ?_⟩
    by_cases e : j = i
    · exact e ▸ hy.wpOp hi hS ⟨fun _ => hS, H⟩
    · exact absurd (H.1 ▸ ready_mono hj e) (List.not_mem_nil)
  | succ n ih =>
    intro li a w hf hr hy hS H
    refine ⟨fun h => absurd (h ▸ hr) (List.not_mem_nil), fun j hj => ?_⟩
    by_cases e : j = i
    · exact e ▸ hy.wpOp hi hS ⟨fun _ => hS, H⟩
    · obtain ⟨hun, oj, hoj, _⟩ := mem_ready.1 hj
      have hjz : j ≠ z := fun h => waitsFor.not hz hr (h ▸ hj)
      refine wpOp_mono (fun a' w' k => ?_) (wpOp_putIf hoj (hf j oj hoj e hun (ready_apart hr hj hoj)) (fun cs b => hsel i oi cs b hi) (fun cs b => hsel j oj cs b hoj) hQ hy (H.2 j (ready_mono hj e)))
      obtain ⟨hy', hS', H'⟩ := k
      rw [Array.setIfInBounds_comm _ _ (Ne.symm e)] at H'
      exact ⟨hS', ih _ a' w' (hf.set hj) (ready_mono hr (Ne.symm e)) hy' (hS' hjz) H'⟩

/-- Number i reads: it is taken first. -/
theorem wpG.take {i : Nat} {oi : Oper} {v : Value} {n : Nat} (d : Option Tmp) {li : Array Bool} {a : Act} {w : World} (hi : ops[i]? = some oi)
    (hB : (Region.noSelect ops && Region.free md ops li i && (Region.ready md ops li).contains i && waitsFor md ops z i) = true)
    (hQ : ∀ c a w, Q (.panic c) (a.put oi.dst v) w → Q (.panic c) a w) (hd : oi.dst = d) (hw : Region.wanted oi (yielded ops a.tmps) = true) (hS : S w) (hy : ∀ w, S w → (execOp a.eval oi).run P w = .ok (.value v) w)
    (h : wpG P md ops Q S z n (li.setIfInBounds i true) (a.put d v) w) : wpG P md ops Q S z (n + 1) li a w := by
  simp only [Bool.and_eq_true] at hB
  subst hd
  exact wpG.put hi (Region.noSelect_spec hB.1.1.1) hQ hB.2 n li a w (Region.free_spec hi hB.1.1.2) (by simpa using hB.1.2) (.inl ⟨hw, hy⟩) hS h

/-- Just one may come up. -/
theorem wpG.one (i : Nat) {n : Nat} {li : Array Bool} {a : Act} {w : World} (hr : Region.ready md ops li = [i])
    (h : wpOp P ops Q i (fun a' w' => (i ≠ z → S w') ∧ wpG P md ops Q S z n (li.setIfInBounds i true) a' w') a w) : wpG P md ops Q S z (n + 1) li a w := by
  refine ⟨fun h0 => (by rw [hr] at h0; cases h0), fun j hj => ?_⟩
  rw [hr] at hj
  obtain rfl : j = i := by simpa using hj
  exact h
/-- One of two may come up. -/
theorem wpG.two (i j : Nat) {n : Nat} {li : Array Bool} {a : Act} {w : World} (hr : Region.ready md ops li = [i, j])
    (h : wpOp P ops Q i (fun a' w' => (i ≠ z → S w') ∧ wpG P md ops Q S z n (li.setIfInBounds i true) a' w') a w)
    (k : wpOp P ops Q j (fun a' w' => (j ≠ z → S w') ∧ wpG P md ops Q S z n (li.setIfInBounds j true) a' w') a w) : wpG P md ops Q S z (n + 1) li a w := by
  refine ⟨fun h0 => (by rw [hr] at h0; cases h0), fun x hx => ?_⟩
  rw [hr] at hx
  rcases List.mem_cons.1 hx with rfl | hx
  · exact h
  · obtain rfl : x = j := by simpa using hx
    exact k
theorem wpOp_wp {i : Nat} {o : Oper} {K : Act → World → Prop} {a : Act} {w : World} (ho : ops[i]? = some o) (hw : Region.wanted o (yielded ops a.tmps) = true) (h : o.wp P a w K Q) : wpOp P ops Q i K a w := by
  unfold Go.wpOp
  simp only [ho]
  rw [if_pos hw]
  exact .inl h
/-- An operation whose run is known. -/
theorem wpOp_run {i : Nat} {o : Oper} {K : Act → World → Prop} {a : Act} {w : World} (d : Option Tmp) (v : Value) (w' : World) (ho : ops[i]? = some o) (hd : o.dst = d) (hw : Region.wanted o (yielded ops a.tmps) = true)
    (hrun : (execOp a.eval o).run P w = .ok (.value v) w') (h : K (a.put d v) w') : wpOp P ops Q i K a w := by
  refine wpOp_wp ho hw ?_
  subst hd
  unfold Oper.wp
  rw [hrun]
  exact h
theorem wpG.done {li : Array Bool} {a : Act} {w : World} (hr : Region.ready md ops li = []) (h : Q .normal a w) : ∀ n, wpG P md ops Q S z n li a w
  | 0 => ⟨hr, h⟩
  | _ + 1 => ⟨fun _ => h, by rw [hr]; simp⟩
theorem wpG.region {id : Nat} {a : Act} {w : World} (z : Nat) (S : World → Prop) (hm : P.follows .mixedOrders = true) (h : wpG P .any ops Q S z ops.size (Array.replicate ops.size false) a w.drew) : (Code.region id ops true).wp P Q a w :=
  wp_region_any hm (wpG.any _ _ _ _ h)

/-- Operations that tell a value, or do not end. -/
def readB (o : Oper) : Bool := match o.op with
  | .move _ | .assign _ | .load .. | .fieldAddr .. | .indexAddr .. | .slice .. | .binOp .. | .build .. | .nilCheck _ => true
  | _ => false
theorem quiet_value {C : World → Prop} {w : World} {v : Value} {s : Sem Value} (h : Oper.quietUpon P C w v ((s.run P w).andThen fun x w' => .ok (.value x) w')) : (s.run P w).andThen (fun x w' => .ok (Next.value x) w') = .ok (.value v) w := by
  cases hs : s.run P w with
  | ok x w' =>
    rw [hs] at h
    simp only [Result.andThen, Oper.quietUpon] at h ⊢
    rw [h.1, h.2]
  | _ => rw [hs] at h; simp [Result.andThen, Oper.quietUpon] at h
theorem quiet_bind {C : World → Prop} {w : World} {v : Value} {s : Sem Value} (h : Oper.quietUpon P C w v ((do pure (Next.value (← s)) : Sem Next).run P w)) : (do pure (Next.value (← s)) : Sem Next).run P w = .ok (.value v) w := by
  rw [Sem.run_bind] at h ⊢
  simp only [Sem.run_pure] at h ⊢
  exact quiet_value h
theorem quiet_pure {C : World → Prop} {w : World} {v x : Value} (h : Oper.quietUpon P C w v ((pure (Next.value x) : Sem Next).run P w)) : (pure (Next.value x) : Sem Next).run P w = .ok (.value v) w := by
  simp only [Sem.run_pure, Oper.quietUpon] at h ⊢
  rw [h.2]
theorem read_run {o : Oper} {a : Act} {w : World} {v : Value} (hr : readB o = true) (h : o.quietAt P a S w v) : (execOp a.eval o).run P w = .ok (.value v) w := by
  unfold Oper.quietAt at h
  unfold readB at hr
  unfold execOp at h ⊢
  split at hr
  all_goals first
    | cases hr; done
    | skip
  all_goals
    rename_i heq
    simp only [heq] at h ⊢
  all_goals first
    | exact quiet_bind h
    | exact quiet_pure h
    | skip
  revert h
  split
  all_goals intro h
  all_goals first
    | exact quiet_pure h
    | (exfalso; simp [runtimePanic, Oper.quietUpon] at h; done)
    | skip
  revert h
  split
  all_goals intro h
  · exfalso; simp [runtimePanic, Oper.quietUpon] at h
  · rename_i t' w' _
    simp only [Sem.run_bind] at h ⊢
    revert h
    cases h1 : Sem.run P program w with
    | ok a1 w1 =>
      simp only [Result.andThen]
      cases h2 : Sem.run P (nilAhead (a1.types.size + Made.depth) t' w' _) w1 with
      | ok a2 w2 =>
        simp only
        split
        · intro h; exfalso; simp [unsupported, Oper.quietUpon] at h
        · intro h
          simp only [Sem.run_pure, Oper.quietUpon] at h ⊢
          rw [h.1, h.2]
      | _ => intro h; simp [Oper.quietUpon] at h
    | _ => intro h; simp [Result.andThen, Oper.quietUpon] at h
  · exact quiet_pure h

/-- What reads, one behind the other. -/
def readsB (md : Region.Mode) (ops : Array Oper) (z : Nat) : List Nat → Array Bool → Bool
  | [], _ => true
  | k :: ks, li => (Region.ready md ops li).contains k && Region.free md ops li k && waitsFor md ops z k && ((ops[k]?).map readB).getD false && readsB md ops z ks (li.setIfInBounds k true)
theorem wpG.reads {l : List Oper} (hs : Region.noSelect l.toArray = true) (hQ : ∀ d v c a w, Q (.panic c) (a.put d v) w → Q (.panic c) a w) : ∀ (rs : List Nat) (n : Nat) (li : Array Bool) (a : Act) (w : World), S w → insideB l.length rs = true → readsB md l.toArray z rs li = true →
    wpQuiet P l.toArray S (fun a' => wpG P md l.toArray Q S z n (fullAt rs li) a' w) (pick l rs) a → wpG P md l.toArray Q S z (rs.length + n) li a w
  | [], n, li, a, w, hS, _, _, h => by rw [List.length_nil, Nat.zero_add]; exact h
  | k :: rs, n, li, a, w, hS, hin, hB, h => by
    simp only [insideB, List.all_cons, Bool.and_eq_true, decide_eq_true_eq] at hin
    obtain ⟨o, h0⟩ : ∃ o, l.toArray[k]? = some o := ⟨l[k]'hin.1, by rw [List.getElem?_toArray, List.getElem?_eq_getElem hin.1]⟩
    have h0' : l[k]? = some o := by rw [← List.getElem?_toArray]; exact h0
    simp only [readsB, Bool.and_eq_true, h0, Option.map_some, Option.getD_some] at hB
    obtain ⟨⟨⟨⟨hr, hf⟩, hw⟩, hrd⟩, hB'⟩ := hB
    rw [pick, h0'] at h
    rw [show (k :: rs).length + n = (rs.length + n) + 1 by simp only [List.length_cons]; omega]
    have hgo : ∀ v, YieldsIf P l.toArray S o v a → wpQuiet P l.toArray S (fun a' => wpG P md l.toArray Q S z n (fullAt (k :: rs) li) a' w) (pick l rs) (a.put o.dst v) → wpG P md l.toArray Q S z (rs.length + n + 1) li a w := fun v hy hK =>
      wpG.put h0 (Region.noSelect_spec hs) (hQ _ _) hw _ li a w (Region.free_spec h0 hf) (by simpa using hr) hy hS (wpG.reads hs hQ rs n _ _ w hS hin.2 hB' hK)
    change (if Region.wanted o (yielded l.toArray a.tmps) then o.quiet P a S _ else _) at h
    split at h
    · rename_i hwt
      obtain ⟨v, hv, hK⟩ := h
      exact hgo v (.inl ⟨hwt, fun w' hw' => read_run hrd (hv w' hw')⟩) hK
    · rename_i hwt
      exact hgo undef (.inr ⟨by simpa using hwt, rfl⟩) h

theorem wpQuiet_mono' {C : World → Prop} {Q Q' : Act → Prop} (h : ∀ a, Q a → Q' a) : ∀ (l : List Oper) (a : Act), wpQuiet P ops C Q l a → wpQuiet P ops C Q' l a
  | [], a, hh => h a hh
  | o :: l, a, hh => by
    change (if Region.wanted o (yielded ops a.tmps) then o.quiet P a C (wpQuiet P ops C Q' l) else wpQuiet P ops C Q' l (a.put o.dst undef))
    change (if Region.wanted o (yielded ops a.tmps) then o.quiet P a C (wpQuiet P ops C Q l) else wpQuiet P ops C Q l (a.put o.dst undef)) at hh
    split
    · rename_i hw
      rw [if_pos hw] at hh
      exact Oper.quiet_mono (wpQuiet_mono' h l) hh
    · rename_i hw
      rw [if_neg hw] at hh
      exact wpQuiet_mono' h l _ hh
/-- One behind the other, S behind each; then the last. -/
def wpPre (P : Program) (ops : Array Oper) (Q : Exit → Act → World → Prop) (S : World → Prop) (rest : List Oper) : List Nat → Act → World → Prop
  | [], a, w => wpList P ops Q rest a w
  | k :: ks, a, w => wpOp P ops Q k (fun a' w' => S w' ∧ wpPre P ops Q S rest ks a' w') a w
def preB (md : Region.Mode) (ops : Array Oper) (z : Nat) : List Nat → Array Bool → Bool
  | [], li => (Region.ready md ops li == [z]) && (Region.ready md ops (li.setIfInBounds z true)).isEmpty
  | k :: ks, li => (Region.ready md ops li == [k]) && preB md ops z ks (li.setIfInBounds k true)
theorem wpG.pre {l : List Oper} (hz : insideB l.length [z] = true) : ∀ (ks : List Nat) (li : Array Bool) (a : Act) (w : World), preB md l.toArray z ks li = true → wpPre P l.toArray Q S (pick l [z]) ks a w → wpG P md l.toArray Q S z (ks.length + 1) li a w
  | [], li, a, w, hB, h => by
    simp only [insideB, List.all_cons, Bool.and_eq_true, decide_eq_true_eq] at hz
    obtain ⟨o, h0⟩ : ∃ o, l.toArray[z]? = some o := ⟨l[z]'hz.1, by rw [List.getElem?_toArray, List.getElem?_eq_getElem hz.1]⟩
    have h0' : l[z]? = some o := by rw [← List.getElem?_toArray]; exact h0
    simp only [preB, Bool.and_eq_true, beq_iff_eq] at hB
    refine wpG.one z hB.1 ?_
    have h' : wpList P l.toArray Q [o] a w := by
      have := h
      unfold wpPre at this
      rw [pick, h0'] at this
      exact this
    have hop : wpOp P l.toArray Q z (wpList P l.toArray Q []) a w := by unfold wpOp; simp only [h0]; exact h'
    exact wpOp_mono (fun a' w' hq => ⟨fun h => absurd rfl h, wpG.done (by simpa using hB.2) hq _⟩) hop
  | k :: ks, li, a, w, hB, h => by
    simp only [preB, Bool.and_eq_true, beq_iff_eq] at hB
    exact wpG.one k hB.1 (wpOp_mono (fun a' w' hq => ⟨fun _ => hq.1, wpG.pre hz ks _ a' w' hB.2 hq.2⟩) h)

def takeB (md : Region.Mode) (l : List Oper) (rs ks : List Nat) (z : Nat) : Bool :=
  Region.noSelect l.toArray && insideB l.length rs && insideB l.length [z] && readsB md l.toArray z rs (Array.replicate l.toArray.size false) && preB md l.toArray z ks (fullAt rs (Array.replicate l.toArray.size false)) && (rs.length + (ks.length + 1) == l.length)
theorem region_take {id : Nat} {a : Act} {w : World} {l : List Oper} (rs ks : List Nat) (z : Nat) (S : World → Prop) (hS : S w.drew) (hm : P.follows .mixedOrders = true) (hB : takeB .any l rs ks z = true) (hQ : ∀ d v c a w, Q (.panic c) (a.put d v) w → Q (.panic c) a w)
    (h : wpQuiet P l.toArray S (fun a' => wpPre P l.toArray Q S (pick l [z]) ks a' w.drew) (pick l rs) a) : (Code.region id l.toArray true).wp P Q a w := by
  simp only [takeB, Bool.and_eq_true, beq_iff_eq] at hB
  obtain ⟨⟨⟨⟨⟨h1, h2⟩, h3⟩, h4⟩, h5⟩, h6⟩ := hB
  refine wpG.region z S hm ?_
  have := wpG.reads (P := P) (Q := Q) (S := S) (z := z) (md := .any) h1 hQ rs (ks.length + 1) (Array.replicate l.toArray.size false) a w.drew hS h2 h4 ?_
  · rw [h6] at this
    exact this
  · refine wpQuiet_mono' ?_ _ _ h
    exact fun a' hq => wpG.pre h3 ks _ a' w.drew h5 hq

/-- The worlds in which that cell has that value. -/
structure CellW (a : Addr) (u : Value) where
  v : World
  h : v.cell? a = some u
def HasCell (a : Addr) (u : Value) (w : World) : Prop := ∃ q : CellW a u, w = q.v
theorem HasCell.of {a : Addr} {u : Value} {w : World} (h : w.cell? a = some u) : HasCell a u w := ⟨⟨w, h⟩, rfl⟩

theorem wpOp_call {i : Nat} {o : Oper} {K : Act → World → Prop} {a : Act} {w : World} (d : Option Tmp) (f : FuncId) (args : Array Value) (ho : ops[i]? = some o) (hd : o.dst = d) (hw : Region.wanted o (yielded ops a.tmps) = true)
    (hrun : (execOp a.eval o).run P w = .ok (.enter f args) w) (h : Calls P f args w fun e w' => ∃ v, e = .returned v ∧ K (a.put d v) w') : wpOp P ops Q i K a w := by
  refine wpOp_wp ho hw ?_
  subst hd
  unfold Oper.wp
  rw [hrun]
  refine h.mono ?_
  rintro _ w' ⟨v, rfl, hk⟩
  exact hk

variable {rest : List Oper} {ks : List Nat} {k : Nat} {o : Oper} {a : Act} {w : World}
theorem wpPre_run (d : Option Tmp) (v : Value) (w' : World) (ho : ops[k]? = some o) (hd : o.dst = d) (hw : Region.wanted o (yielded ops a.tmps) = true) (hrun : (execOp a.eval o).run P w = .ok (.value v) w') (hS : S w')
    (h : wpPre P ops Q S rest ks (a.put d v) w') : wpPre P ops Q S rest (k :: ks) a w := wpOp_run d v w' ho hd hw hrun ⟨hS, h⟩
theorem wpPre_call (d : Option Tmp) (f : FuncId) (args : Array Value) (ho : ops[k]? = some o) (hd : o.dst = d) (hw : Region.wanted o (yielded ops a.tmps) = true) (hrun : (execOp a.eval o).run P w = .ok (.enter f args) w)
    (h : Calls P f args w fun e w' => ∃ v, e = .returned v ∧ S w' ∧ wpPre P ops Q S rest ks (a.put d v) w') : wpPre P ops Q S rest (k :: ks) a w := wpOp_call d f args ho hd hw hrun h
theorem wpPre_nil (h : wpList P ops Q rest a w) : wpPre P ops Q S rest [] a w := h
theorem exec_append {s x : Operand} {T : TypeId} {v1 v2 v : Value} {w' : World} (ho : o.op = .call { callee := .builtin .append, args := #[s, x], argTypes := #[T, T] }) (h1 : a.eval s = v1) (h2 : a.eval x = v2) (hr : (Builtin.append_ #[T, T] o.type #[v1, v2]).run P w = .ok v w') : (execOp a.eval o).run P w = .ok (.value v) w' := by
  unfold execOp
  simp only [ho, resolve, invoke, builtin, Sem.run_bind, Sem.run_pure, Result.andThen_ok, List.map_toArray, List.map_cons, List.map_nil, h1, h2, hr]
theorem exec_buildSlice {T : TypeId} {x : Operand} {u v : Value} {w' : World} (ho : o.op = .buildSlice T 1 #[(0, x)]) (hx : a.eval x = u) (hr : (Instr.buildSlice T 1 #[(0, u)]).run P w = .ok v w') : (execOp a.eval o).run P w = .ok (.value v) w' := by
  unfold execOp
  simp only [ho, List.map_toArray, List.map_cons, List.map_nil, hx, Sem.run_bind, hr, Result.andThen_ok, Sem.run_pure]
theorem exec_build2 {T : TypeId} {x y : Operand} {u v r : Value} (ho : o.op = .build T #[(0, x), (1, y)]) (hx : a.eval x = u) (hy : a.eval y = v) (hr : (Instr.build T #[(0, u), (1, v)]).run P w = .ok r w) : (execOp a.eval o).run P w = .ok (.value r) w := by
  unfold execOp
  simp only [ho, List.map_toArray, List.map_cons, List.map_nil, hx, hy, Sem.run_bind, hr, Result.andThen_ok, Sem.run_pure]

end
end Go.Proofs.YtjpjcojabjkaaaaDoor
namespace Go.Proofs.YtjpjcojabjkaaaaDoor
open Go
set_option maxRecDepth 20000

section
variable {P : Program} {ops : Array Oper} {Q : Exit → Act → World → Prop} {md : Region.Mode} {S T : World → Prop} {z : Nat}

/-- Whatever order is picked; until number z S is held. -/
def wpH (P : Program) (md : Region.Mode) (ops : Array Oper) (Q : Exit → Act → World → Prop) (S : World → Prop) (z : Nat) : Nat → Array Bool → Act → World → Prop
  | 0, li, a, w => Region.ready md ops li = [] ∧ Q .normal a w
  | n + 1, li, a, w => (Region.ready md ops li = [] → Q .normal a w) ∧
      ∀ i ∈ Region.ready md ops li, wpOp P ops Q i (fun a' w' => (i ≠ z → li.getD z false = false → S w') ∧ wpH P md ops Q S z n (li.setIfInBounds i true) a' w') a w

theorem wpH.any : ∀ (n : Nat) (li : Array Bool) (a : Act) (w : World), wpH P md ops Q S z n li a w → wpAny P md ops Q n li a w
  | 0, _, _, _, h => h
  | n + 1, _, _, _, h => ⟨h.1, fun i hi => wpOp_mono (fun a' w' k => wpH.any n _ a' w' k.2) (h.2 i hi)⟩

theorem getD_set_self {li : Array Bool} {i : Nat} (h : li.getD i true = false) : (li.setIfInBounds i true).getD i false = true := by
  by_cases hs : i < li.size
  · simp [hs]
  · simp [Array.getElem?_eq_none (Nat.le_of_not_lt hs)] at h

/-- Number i, which tells a value in every world in which T is held, carried to the front. -/
theorem wpH.put {i : Nat} {oi : Oper} {v : Value} (hi : ops[i]? = some oi) (hsel : ∀ (j : Nat) (o : Oper) cs b, ops[j]? = some o → o.op ≠ .select cs b) (hQ : ∀ c a w, Q (.panic c) (a.put oi.dst v) w → Q (.panic c) a w) (hiz : i ≠ z) :
    ∀ (n : Nat) (li : Array Bool) (a : Act) (w : World), ((∀ w, T w) ∨ (waitsFor md ops z i = true ∧ (∀ w, S w → T w) ∧ li.getD z false = false)) → (li.getD z false = false → S w) → Free md ops oi i li → i ∈ Region.ready md ops li → YieldsIf P ops T oi v a →
      wpH P md ops Q S z n (li.setIfInBounds i true) (a.put oi.dst v) w → wpH P md ops Q S z (n + 1) li a w := by
  have tell : ∀ {li : Array Bool} {w : World}, ((∀ w, T w) ∨ (waitsFor md ops z i = true ∧ (∀ w, S w → T w) ∧ li.getD z false = false)) → (li.getD z false = false → S w) → T w := fun hT hS => by
    rcases hT with h | ⟨_, h, h0⟩
    · exact h _
    · exact h _ (hS h0)
  intro n
  induction n with
  | zero =>
    intro li a w hT hS _ hr hy H
    refine ⟨fun h => absurd (h ▸ hr) (List.not_mem_nil), fun j hj => ?_⟩
    by_cases e : j = i
    · exact e ▸ hy.wpOp hi (tell hT hS) ⟨fun _ => hS, H⟩
    · exact absurd (H.1 ▸ ready_mono hj e) (List.not_mem_nil)
  | succ n ih =>
    intro li a w hT hS hf hr hy H
    refine ⟨fun h => absurd (h ▸ hr) (List.not_mem_nil), fun j hj => ?_⟩
    by_cases e : j = i
    · exact e ▸ hy.wpOp hi (tell hT hS) ⟨fun _ => hS, H⟩
    · obtain ⟨hun, oj, hoj, _⟩ := mem_ready.1 hj
      have hset : (li.setIfInBounds i true).getD z false = li.getD z false := getD_set_ne false hiz
      refine wpOp_mono (fun a' w' k => ?_) (wpOp_putIf hoj (hf j oj hoj e hun (ready_apart hr hj hoj)) (fun cs b => hsel i oi cs b hi) (fun cs b => hsel j oj cs b hoj) hQ hy (H.2 j (ready_mono hj e)))
      obtain ⟨hy', hS', H'⟩ := k
      rw [hset] at hS'
      rw [Array.setIfInBounds_comm _ _ (Ne.symm e)] at H'
      refine ⟨hS', ih _ a' w' ?_ ?_ (hf.set hj) (ready_mono hr (Ne.symm e)) hy' H'⟩
      · rcases hT with h | ⟨h1, h2, h3⟩
        · exact .inl h
        · refine .inr ⟨h1, h2, ?_⟩
          have hjz : j ≠ z := fun h => waitsFor.not h1 hr (h ▸ hj)
          rw [getD_set_ne false hjz]; exact h3
      · intro hz
        by_cases hjz : j = z
        · subst hjz
          rw [getD_set_self hun] at hz; cases hz
        · rw [getD_set_ne false hjz] at hz
          exact hS' hjz hz

/-- What reads memory, one behind the other. -/
def heldB (md : Region.Mode) (ops : Array Oper) (z : Nat) : List Nat → Array Bool → Bool
  | [], _ => true
  | k :: ks, li => (Region.ready md ops li).contains k && Region.free md ops li k && waitsFor md ops z k && (k != z) && !(li.getD z false) && ((ops[k]?).map readB).getD false && heldB md ops z ks (li.setIfInBounds k true)
theorem wpH.reads {l : List Oper} (hs : Region.noSelect l.toArray = true) (hQ : ∀ d v c a w, Q (.panic c) (a.put d v) w → Q (.panic c) a w) : ∀ (rs : List Nat) (n : Nat) (li : Array Bool) (a : Act) (w : World), S w → insideB l.length rs = true → heldB md l.toArray z rs li = true →
    wpQuiet P l.toArray S (fun a' => wpH P md l.toArray Q S z n (fullAt rs li) a' w) (pick l rs) a → wpH P md l.toArray Q S z (rs.length + n) li a w
  | [], n, li, a, w, hS, _, _, h => by rw [List.length_nil, Nat.zero_add]; exact h
  | k :: rs, n, li, a, w, hS, hin, hB, h => by
    simp only [insideB, List.all_cons, Bool.and_eq_true, decide_eq_true_eq] at hin
    obtain ⟨o, h0⟩ : ∃ o, l.toArray[k]? = some o := ⟨l[k]'hin.1, by rw [List.getElem?_toArray, List.getElem?_eq_getElem hin.1]⟩
    have h0' : l[k]? = some o := by rw [← List.getElem?_toArray]; exact h0
    simp only [heldB, Bool.and_eq_true, h0, Option.map_some, Option.getD_some, Bool.not_eq_true', bne_iff_ne] at hB
    obtain ⟨⟨⟨⟨⟨⟨hr, hf⟩, hw⟩, hkz⟩, hlz⟩, hrd⟩, hB'⟩ := hB
    rw [pick, h0'] at h
    rw [show (k :: rs).length + n = (rs.length + n) + 1 by simp only [List.length_cons]; omega]
    have hgo : ∀ v, YieldsIf P l.toArray S o v a → wpQuiet P l.toArray S (fun a' => wpH P md l.toArray Q S z n (fullAt (k :: rs) li) a' w) (pick l rs) (a.put o.dst v) → wpH P md l.toArray Q S z (rs.length + n + 1) li a w := fun v hy hK =>
      wpH.put (T := S) h0 (Region.noSelect_spec hs) (hQ _ _) hkz _ li a w (.inr ⟨hw, fun _ h => h, hlz⟩) (fun _ => hS) (Region.free_spec h0 hf) (by simpa using hr) hy (wpH.reads hs hQ rs n _ _ w hS hin.2 hB' hK)
    change (if Region.wanted o (yielded l.toArray a.tmps) then o.quiet P a S _ else _) at h
    split at h
    · rename_i hwt
      obtain ⟨v, hv, hK⟩ := h
      exact hgo v (.inl ⟨hwt, fun w' hw' => read_run hrd (hv w' hw')⟩) hK
    · rename_i hwt
      exact hgo undef (.inr ⟨by simpa using hwt, rfl⟩) h
/-- What computes alone. -/
theorem wpH.plain {i : Nat} {oi : Oper} {v : Value} {n : Nat} (d : Option Tmp) {li : Array Bool} {a : Act} {w : World} (hi : ops[i]? = some oi)
    (hB : (Region.noSelect ops && Region.free md ops li i && (Region.ready md ops li).contains i && (i != z)) = true)
    (hQ : ∀ c a w, Q (.panic c) (a.put oi.dst v) w → Q (.panic c) a w) (hd : oi.dst = d) (hw : Region.wanted oi (yielded ops a.tmps) = true) (hS : S w) (hy : ∀ w, (execOp a.eval oi).run P w = .ok (.value v) w)
    (h : wpH P md ops Q S z n (li.setIfInBounds i true) (a.put d v) w) : wpH P md ops Q S z (n + 1) li a w := by
  simp only [Bool.and_eq_true, bne_iff_ne] at hB
  subst hd
  exact wpH.put (T := fun _ => True) hi (Region.noSelect_spec hB.1.1.1) hQ hB.2 n li a w (.inl fun _ => trivial) (fun _ => hS) (Region.free_spec hi hB.1.1.2) (by simpa using hB.1.2) (.inl ⟨hw, fun w _ => hy w⟩) h
/-- What reads memory. -/
theorem wpH.held {i : Nat} {oi : Oper} {v : Value} {n : Nat} (d : Option Tmp) {li : Array Bool} {a : Act} {w : World} (hi : ops[i]? = some oi)
    (hB : (Region.noSelect ops && Region.free md ops li i && (Region.ready md ops li).contains i && (i != z) && waitsFor md ops z i && !(li.getD z false)) = true)
    (hQ : ∀ c a w, Q (.panic c) (a.put oi.dst v) w → Q (.panic c) a w) (hd : oi.dst = d) (hw : Region.wanted oi (yielded ops a.tmps) = true) (hS : S w) (hy : ∀ w, S w → (execOp a.eval oi).run P w = .ok (.value v) w)
    (h : wpH P md ops Q S z n (li.setIfInBounds i true) (a.put d v) w) : wpH P md ops Q S z (n + 1) li a w := by
  simp only [Bool.and_eq_true, bne_iff_ne, Bool.not_eq_true'] at hB
  subst hd
  exact wpH.put (T := S) hi (Region.noSelect_spec hB.1.1.1.1.1) hQ hB.1.1.2 n li a w (.inr ⟨hB.1.2, fun _ h => h, hB.2⟩) (fun _ => hS) (Region.free_spec hi hB.1.1.1.1.2) (by simpa using hB.1.1.1.2) (.inl ⟨hw, hy⟩) h
theorem wpH.one (i : Nat) {n : Nat} {li : Array Bool} {a : Act} {w : World} (hr : Region.ready md ops li = [i])
    (h : wpOp P ops Q i (fun a' w' => (i ≠ z → li.getD z false = false → S w') ∧ wpH P md ops Q S z n (li.setIfInBounds i true) a' w') a w) : wpH P md ops Q S z (n + 1) li a w := by
  refine ⟨fun h0 => (by rw [hr] at h0; cases h0), fun j hj => ?_⟩
  rw [hr] at hj
  obtain rfl : j = i := by simpa using hj
  exact h
/-- One of two may come up. -/
theorem wpH.two (i j : Nat) {n : Nat} {li : Array Bool} {a : Act} {w : World} (hr : Region.ready md ops li = [i, j])
    (h : wpOp P ops Q i (fun a' w' => (i ≠ z → li.getD z false = false → S w') ∧ wpH P md ops Q S z n (li.setIfInBounds i true) a' w') a w)
    (k : wpOp P ops Q j (fun a' w' => (j ≠ z → li.getD z false = false → S w') ∧ wpH P md ops Q S z n (li.setIfInBounds j true) a' w') a w) : wpH P md ops Q S z (n + 1) li a w := by
  refine ⟨fun h0 => (by rw [hr] at h0; cases h0), fun x hx => ?_⟩
  rw [hr] at hx
  rcases List.mem_cons.1 hx with rfl | hx
  · exact h
  · obtain rfl : x = j := by simpa using hx
    exact k
/-- The rest, one behind the other, z the first of them. -/
theorem wpH.tail {l : List Oper} : ∀ (ks : List Nat) (li : Array Bool) (a : Act) (w : World), insideB l.length ks = true → tailB md l.toArray ks li = true → (li.getD z false = true ∨ ks.head? = some z) →
    wpList P l.toArray Q (pick l ks) a w → wpH P md l.toArray Q S z ks.length li a w
  | [], _, _, _, _, hB, _, h => ⟨by simpa [tailB] using hB, h⟩
  | k :: ks, li, a, w, hin, hB, hz, h => by
    simp only [insideB, List.all_cons, Bool.and_eq_true, decide_eq_true_eq] at hin
    obtain ⟨o, h0⟩ : ∃ o, l.toArray[k]? = some o := ⟨l[k]'hin.1, by rw [List.getElem?_toArray, List.getElem?_eq_getElem hin.1]⟩
    have h0' : l[k]? = some o := by rw [← List.getElem?_toArray]; exact h0
    rw [pick, h0'] at h
    simp only [tailB, Bool.and_eq_true, beq_iff_eq] at hB
    obtain ⟨hr, hB'⟩ := hB
    refine wpH.one k hr ?_
    have hop : wpOp P l.toArray Q k (wpList P l.toArray Q (pick l ks)) a w := by unfold wpOp; simp only [h0]; exact h
    have hk : k ∈ Region.ready md l.toArray li := by rw [hr]; simp
    refine wpOp_mono (fun a' w' h' => ⟨fun hkz h0 => ?_, wpH.tail ks _ a' w' hin.2 hB' ?_ h'⟩) hop
    · rcases hz with h1 | h1
      · rw [h1] at h0; cases h0
      · exact absurd (by simpa using h1) hkz
    · left
      rcases hz with h1 | h1
      · exact getD_set_true h1
      · obtain rfl : k = z := by simpa using h1
        exact getD_set_self (mem_ready.1 hk).1
theorem region_held {id : Nat} {a : Act} {w : World} {l : List Oper} (z : Nat) (S : World → Prop) (rs : List Nat) (n : Nat) (hS : S w.drew) (hm : P.follows .mixedOrders = true)
    (hB : (Region.noSelect l.toArray && insideB l.length rs && heldB .any l.toArray z rs (Array.replicate l.toArray.size false) && (rs.length + n == l.length)) = true) (hQ : ∀ d v c a w, Q (.panic c) (a.put d v) w → Q (.panic c) a w)
    (h : wpQuiet P l.toArray S (fun a' => wpH P .any l.toArray Q S z n (fullAt rs (Array.replicate l.toArray.size false)) a' w.drew) (pick l rs) a) : (Code.region id l.toArray true).wp P Q a w := by
  simp only [Bool.and_eq_true, beq_iff_eq] at hB
  obtain ⟨⟨⟨h1, h2⟩, h3⟩, h4⟩ := hB
  have := wpH.reads (P := P) (Q := Q) (S := S) (z := z) (md := .any) h1 hQ rs n (Array.replicate l.toArray.size false) a w.drew hS h2 h3 h
  rw [h4] at this
  exact wp_region_any hm (wpH.any _ _ _ _ this)
theorem wpH.region {id : Nat} {a : Act} {w : World} (z : Nat) (S : World → Prop) (hm : P.follows .mixedOrders = true) (h : wpH P .any ops Q S z ops.size (Array.replicate ops.size false) a w.drew) : (Code.region id ops true).wp P Q a w :=
  wp_region_any hm (wpH.any _ _ _ _ h)
end
end Go.Proofs.YtjpjcojabjkaaaaDoor
