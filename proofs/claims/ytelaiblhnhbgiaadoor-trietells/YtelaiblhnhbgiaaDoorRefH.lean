/-
  A region that draws its order, with two stores: what reads memory is held until the first store, and only so long; what computes alone may come whenever.
-/
import Derived.Test.YtelaiblhnhbgiaaDoorTake
namespace Go.Proofs.YtelaiblhnhbgiaaDoor
open Go
set_option maxRecDepth 20000

section
variable {P : Program} {ops : Array Oper} {Q : Exit → Act → World → Prop} {md : Region.Mode} {S T : World → Prop} {z : Nat}

/-- Whatever order is picked; until number z S is held. -/
def wpH (P : Program) (md : Region.Mode) (ops : Array Oper) (Q : Exit → Act → World → Prop) (S : World → Prop) (z : Nat) : Nat → Array Bool → Act → World → Prop
  | 0, li, a, w => Region.ready md ops li = [] ∧ Q .normal a w
  | n + 1, li, a, w => (Region.ready md ops li = [] → Q .normal a w) ∧
      ∀ i ∈ Region.ready md ops li, wpOp P ops Q i (fun a' w' => (i ≠ z → li.getD z false = false → S w') ∧ wpH P md ops Q S z n (li.setIfInBounds i true) a' w') a w

theorem wpH.any : ∀ (n : Nat) (li : Array Bool) (a : Act) (w : World), wpH P md ops Q S z n li a w → wpAny P md ops Q n li a w
  | 0, _, _, _, h => h
  | n + 1, _, _, _, h => ⟨h.1, fun i hi => wpOp_mono (fun a' w' k => wpH.any n _ a' w' k.2) (h.2 i hi)⟩

theorem getD_set_self {li : Array Bool} {i : Nat} (h : li.getD i true = false) : (li.setIfInBounds i true).getD i false = true := by
  by_cases hs : i < li.size
  · simp [hs]
  · simp [Array.getElem?_eq_none (Nat.le_of_not_lt hs)] at h

/-- Number i, which tells a value in every world in which T is held, carried to the front. -/
theorem wpH.put {i : Nat} {oi : Oper} {v : Value} (hi : ops[i]? = some oi) (hsel : ∀ (j : Nat) (o : Oper) cs b, ops[j]? = some o → o.op ≠ .select cs b) (hQ : ∀ c a w, Q (.panic c) (a.put oi.dst v) w → Q (.panic c) a w) (hiz : i ≠ z) :
    ∀ (n : Nat) (li : Array Bool) (a : Act) (w : World), ((∀ w, T w) ∨ (waitsFor md ops z i = true ∧ (∀ w, S w → T w) ∧ li.getD z false = false)) → (li.getD z false = false → S w) → Free md ops oi i li → i ∈ Region.ready md ops li → YieldsIf P ops T oi v a →
      wpH P md ops Q S z n (li.setIfInBounds i true) (a.put oi.dst v) w → wpH P md ops Q S z (n + 1) li a w := by
  have tell : ∀ {li : Array Bool} {w : World}, ((∀ w, T w) ∨ (waitsFor md ops z i = true ∧ (∀ w, S w → T w) ∧ li.getD z false = false)) → (li.getD z false = false → S w) → T w := fun hT hS => by
    rcases hT with h | ⟨_, h, h0⟩
    · exact h _
    · exact h _ (hS h0)
  intro n
  induction n with
  | zero =>
    intro li a w hT hS _ hr hy H
    refine ⟨fun h => absurd (h ▸ hr) (List.not_mem_nil), fun j hj => ?_⟩
    by_cases e : j = i
    · exact e ▸ hy.wpOp hi (tell hT hS) ⟨fun _ => hS, H⟩
    · exact absurd (H.1 ▸ ready_mono hj e) (List.not_mem_nil)
  | succ n ih =>
    intro li a w hT hS hf hr hy H
    refine ⟨fun h => absurd (h ▸ hr) (List.not_mem_nil), fun j hj => ?_⟩
    by_cases e : j = i
    · exact e ▸ hy.wpOp hi (tell hT hS) ⟨fun _ => hS, H⟩
    · obtain ⟨hun, oj, hoj, _⟩ := mem_ready.1 hj
      have hset : (li.setIfInBounds i true).getD z false = li.getD z false := getD_set_ne false hiz
      refine wpOp_mono (fun a' w' k => ?_) (wpOp_putIf hoj (hf j oj hoj e hun (ready_apart hr hj hoj)) (fun cs b => hsel i oi cs b hi) (fun cs b => hsel j oj cs b hoj) hQ hy (H.2 j (ready_mono hj e)))
      obtain ⟨hy', hS', H'⟩ := k
      rw [hset] at hS'
      rw [Array.setIfInBounds_comm _ _ (Ne.symm e)] at H'
      refine ⟨hS', ih _ a' w' ?_ ?_ (hf.set hj) (ready_mono hr (Ne.symm e)) hy' H'⟩
      · rcases hT with h | ⟨h1, h2, h3⟩
        · exact .inl h
        · refine .inr ⟨h1, h2, ?_⟩
          have hjz : j ≠ z := fun h => waitsFor.not h1 hr (h ▸ hj)
          rw [getD_set_ne false hjz]; exact h3
      · intro hz
        by_cases hjz : j = z
        · subst hjz
          rw [getD_set_self hun] at hz; cases hz
        · rw [getD_set_ne false hjz] at hz
          exact hS' hjz hz

/-- What reads memory, one behind the other. -/
def heldB (md : Region.Mode) (ops : Array Oper) (z : Nat) : List Nat → Array Bool → Bool
  | [], _ => true
  | k :: ks, li => (Region.ready md ops li).contains k && Region.free md ops li k && waitsFor md ops z k && (k != z) && !(li.getD z false) && ((ops[k]?).map readB).getD false && heldB md ops z ks (li.setIfInBounds k true)
theorem wpH.reads {l : List Oper} (hs : Region.noSelect l.toArray = true) (hQ : ∀ d v c a w, Q (.panic c) (a.put d v) w → Q (.panic c) a w) : ∀ (rs : List Nat) (n : Nat) (li : Array Bool) (a : Act) (w : World), S w → insideB l.length rs = true → heldB md l.toArray z rs li = true →
    wpQuiet P l.toArray S (fun a' => wpH P md l.toArray Q S z n (fullAt rs li) a' w) (pick l rs) a → wpH P md l.toArray Q S z (rs.length + n) li a w
  | [], n, li, a, w, hS, _, _, h => by rw [List.length_nil, Nat.zero_add]; exact h
  | k :: rs, n, li, a, w, hS, hin, hB, h => by
    simp only [insideB, List.all_cons, Bool.and_eq_true, decide_eq_true_eq] at hin
    obtain ⟨o, h0⟩ : ∃ o, l.toArray[k]? = some o := ⟨l[k]'hin.1, by rw [List.getElem?_toArray, List.getElem?_eq_getElem hin.1]⟩
    have h0' : l[k]? = some o := by rw [← List.getElem?_toArray]; exact h0
    simp only [heldB, Bool.and_eq_true, h0, Option.map_some, Option.getD_some, Bool.not_eq_true', bne_iff_ne] at hB
    obtain ⟨⟨⟨⟨⟨⟨hr, hf⟩, hw⟩, hkz⟩, hlz⟩, hrd⟩, hB'⟩ := hB
    rw [pick, h0'] at h
    rw [show (k :: rs).length + n = (rs.length + n) + 1 by simp only [List.length_cons]; omega]
    have hgo : ∀ v, YieldsIf P l.toArray S o v a → wpQuiet P l.toArray S (fun a' => wpH P md l.toArray Q S z n (fullAt (k :: rs) li) a' w) (pick l rs) (a.put o.dst v) → wpH P md l.toArray Q S z (rs.length + n + 1) li a w := fun v hy hK =>
      wpH.put (T := S) h0 (Region.noSelect_spec hs) (hQ _ _) hkz _ li a w (.inr ⟨hw, fun _ h => h, hlz⟩) (fun _ => hS) (Region.free_spec h0 hf) (by simpa using hr) hy (wpH.reads hs hQ rs n _ _ w hS hin.2 hB' hK)
    change (if Region.wanted o (yielded l.toArray a.tmps) then o.quiet P a S _ else _) at h
    split at h
    · rename_i hwt
      obtain ⟨v, hv, hK⟩ := h
      exact hgo v (.inl ⟨hwt, fun w' hw' => read_run hrd (hv w' hw')⟩) hK
    · rename_i hwt
      exact hgo undef (.inr ⟨by simpa using hwt, rfl⟩) h
/-- What computes alone. -/
theorem wpH.plain {i : Nat} {oi : Oper} {v : Value} {n : Nat} (d : Option Tmp) {li : Array Bool} {a : Act} {w : World} (hi : ops[i]? = some oi)
    (hB : (Region.noSelect ops && Region.free md ops li i && (Region.ready md ops li).contains i && (i != z)) = true)
    (hQ : ∀ c a w, Q (.panic c) (a.put oi.dst v) w → Q (.panic c) a w) (hd : oi.dst = d) (hw : Region.wanted oi (yielded ops a.tmps) = true) (hS : S w) (hy : ∀ w, (execOp a.eval oi).run P w = .ok (.value v) w)
    (h : wpH P md ops Q S z n (li.setIfInBounds i true) (a.put d v) w) : wpH P md ops Q S z (n + 1) li a w := by
  simp only [Bool.and_eq_true, bne_iff_ne] at hB
  subst hd
  exact wpH.put (T := fun _ => True) hi (Region.noSelect_spec hB.1.1.1) hQ hB.2 n li a w (.inl fun _ => trivial) (fun _ => hS) (Region.free_spec hi hB.1.1.2) (by simpa using hB.1.2) (.inl ⟨hw, fun w _ => hy w⟩) h
/-- What reads memory. -/
theorem wpH.held {i : Nat} {oi : Oper} {v : Value} {n : Nat} (d : Option Tmp) {li : Array Bool} {a : Act} {w : World} (hi : ops[i]? = some oi)
    (hB : (Region.noSelect ops && Region.free md ops li i && (Region.ready md ops li).contains i && (i != z) && waitsFor md ops z i && !(li.getD z false)) = true)
    (hQ : ∀ c a w, Q (.panic c) (a.put oi.dst v) w → Q (.panic c) a w) (hd : oi.dst = d) (hw : Region.wanted oi (yielded ops a.tmps) = true) (hS : S w) (hy : ∀ w, S w → (execOp a.eval oi).run P w = .ok (.value v) w)
    (h : wpH P md ops Q S z n (li.setIfInBounds i true) (a.put d v) w) : wpH P md ops Q S z (n + 1) li a w := by
  simp only [Bool.and_eq_true, bne_iff_ne, Bool.not_eq_true'] at hB
  subst hd
  exact wpH.put (T := S) hi (Region.noSelect_spec hB.1.1.1.1.1) hQ hB.1.1.2 n li a w (.inr ⟨hB.1.2, fun _ h => h, hB.2⟩) (fun _ => hS) (Region.free_spec hi hB.1.1.1.1.2) (by simpa using hB.1.1.1.2) (.inl ⟨hw, hy⟩) h
theorem wpH.one (i : Nat) {n : Nat} {li : Array Bool} {a : Act} {w : World} (hr : Region.ready md ops li = [i])
    (h : wpOp P ops Q i (fun a' w' => (i ≠ z → li.getD z false = false → S w') ∧ wpH P md ops Q S z n (li.setIfInBounds i true) a' w') a w) : wpH P md ops Q S z (n + 1) li a w := by
  refine ⟨fun h0 => (by rw [hr] at h0; cases h0), fun j hj => ?_⟩
  rw [hr] at hj
  obtain rfl : j = i := by simpa using hj
  exact h
/-- One of two may come up. -/
theorem wpH.two (i j : Nat) {n : Nat} {li : Array Bool} {a : Act} {w : World} (hr : Region.ready md ops li = [i, j])
    (h : wpOp P ops Q i (fun a' w' => (i ≠ z → li.getD z false = false → S w') ∧ wpH P md ops Q S z n (li.setIfInBounds i true) a' w') a w)
    (k : wpOp P ops Q j (fun a' w' => (j ≠ z → li.getD z false = false → S w') ∧ wpH P md ops Q S z n (li.setIfInBounds j true) a' w') a w) : wpH P md ops Q S z (n + 1) li a w := by
  refine ⟨fun h0 => (by rw [hr] at h0; cases h0), fun x hx => ?_⟩
  rw [hr] at hx
  rcases List.mem_cons.1 hx with rfl | hx
  · exact h
  · obtain rfl : x = j := by simpa using hx
    exact k
/-- The rest, one behind the other, z the first of them. -/
theorem wpH.tail {l : List Oper} : ∀ (ks : List Nat) (li : Array Bool) (a : Act) (w : World), insideB l.length ks = true → tailB md l.toArray ks li = true → (li.getD z false = true ∨ ks.head? = some z) →
    wpList P l.toArray Q (pick l ks) a w → wpH P md l.toArray Q S z ks.length li a w
  | [], _, _, _, _, hB, _, h => ⟨by simpa [tailB] using hB, h⟩
  | k :: ks, li, a, w, hin, hB, hz, h => by
    simp only [insideB, List.all_cons, Bool.and_eq_true, decide_eq_true_eq] at hin
    obtain ⟨o, h0⟩ : ∃ o, l.toArray[k]? = some o := ⟨l[k]'hin.1, by rw [List.getElem?_toArray, List.getElem?_eq_getElem hin.1]⟩
    have h0' : l[k]? = some o := by rw [← List.getElem?_toArray]; exact h0
    rw [pick, h0'] at h
    simp only [tailB, Bool.and_eq_true, beq_iff_eq] at hB
    obtain ⟨hr, hB'⟩ := hB
    refine wpH.one k hr ?_
    have hop : wpOp P l.toArray Q k (wpList P l.toArray Q (pick l ks)) a w := by unfold wpOp; simp only [h0]; exact h
    have hk : k ∈ Region.ready md l.toArray li := by rw [hr]; simp
    refine wpOp_mono (fun a' w' h' => ⟨fun hkz h0 => ?_, wpH.tail ks _ a' w' hin.2 hB' ?_ h'⟩) hop
    · rcases hz with h1 | h1
      · rw [h1] at h0; cases h0
      · exact absurd (by simpa using h1) hkz
    · left
      rcases hz with h1 | h1
      · exact getD_set_true h1
      · obtain rfl : k = z := by simpa using h1
        exact getD_set_self (mem_ready.1 hk).1
theorem region_held {id : Nat} {a : Act} {w : World} {l : List Oper} (z : Nat) (S : World → Prop) (rs : List Nat) (n : Nat) (hS : S w.drew) (hm : P.follows .mixedOrders = true)
    (hB : (Region.noSelect l.toArray && insideB l.length rs && heldB .any l.toArray z rs (Array.replicate l.toArray.size false) && (rs.length + n == l.length)) = true) (hQ : ∀ d v c a w, Q (.panic c) (a.put d v) w → Q (.panic c) a w)
    (h : wpQuiet P l.toArray S (fun a' => wpH P .any l.toArray Q S z n (fullAt rs (Array.replicate l.toArray.size false)) a' w.drew) (pick l rs) a) : (Code.region id l.toArray true).wp P Q a w := by
  simp only [Bool.and_eq_true, beq_iff_eq] at hB
  obtain ⟨⟨⟨h1, h2⟩, h3⟩, h4⟩ := hB
  have := wpH.reads (P := P) (Q := Q) (S := S) (z := z) (md := .any) h1 hQ rs n (Array.replicate l.toArray.size false) a w.drew hS h2 h3 h
  rw [h4] at this
  exact wp_region_any hm (wpH.any _ _ _ _ this)
theorem wpH.region {id : Nat} {a : Act} {w : World} (z : Nat) (S : World → Prop) (hm : P.follows .mixedOrders = true) (h : wpH P .any ops Q S z ops.size (Array.replicate ops.size false) a w.drew) : (Code.region id ops true).wp P Q a w :=
  wp_region_any hm (wpH.any _ _ _ _ h)
end
end Go.Proofs.YtelaiblhnhbgiaaDoor
