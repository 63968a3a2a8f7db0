/-
  Pairs, nodes and texts as cells; a slice that is read; the order of texts as the program asks it.
-/
import Derived.Test.YtelaiblhnhbgiaaDoorTrPl
import Derived.Test.YtelaiblhnhbgiaaDoorTrBlk
import Derived.Test.YtelaiblhnhbgiaaDoorNbOrdA
import Derived.Test.YtelaiblhnhbgiaaDoorShelf
import Derived.Deep.QuietTactic
import Derived.BigQuiet
namespace Go.Proofs.YtelaiblhnhbgiaaDoor
open Go.RowKit
set_option maxRecDepth 20000

theorem region_new {P : Program} {id : Nat} {Q : Exit → Act → World → Prop} {a : Act} {w : World} {l : List Oper} (W : World) (hW : New W w) (hm : P.follows .mixedOrders = true) (hB : Region.lexB .any l.toArray = true)
    (h : wpQuiet P l.toArray (fun w' => ∃ p : NewW W, w' = p.v) (fun a' => ∀ w', (∃ p : NewW W, w' = p.v) → Q .normal a' w') l a) : (Code.region id l.toArray true).wp P Q a w :=
  wp_region_quiet (C := fun w' => ∃ p : NewW W, w' = p.v) hm hB ⟨⟨w.drew, hW.drewR⟩, rfl⟩ (by simpa using h)

def prC (p : Pr) : List Value := [.string (bs p.1), .string (bs p.2)]
def ndC (m : Nd) : List Value := .int .i64 m.kind :: .string (bs m.path) :: .bool m.has :: .string (bs m.val) :: m.kids.map (Value.int .i64)
def txC (t : Bt) : List Value := [.string (bs t)]
theorem prC_len (p : Pr) : (prC p).length = 2 := rfl
theorem txC_len (t : Bt) : (txC t).length = 1 := rfl
theorem ndC_len {m : Nd} (h : m.kids.length = 16) : (ndC m).length = 20 := by unfold ndC; simp [h]
theorem prC_one (p : Pr) : ∀ v ∈ prC p, v.oneCell' = true := fun v hv => by
  unfold prC at hv; simp at hv; rcases hv with rfl | rfl <;> rfl
theorem txC_one (t : Bt) : ∀ v ∈ txC t, v.oneCell' = true := fun v hv => by
  unfold txC at hv; simp at hv; subst hv; rfl
theorem ndC_one (m : Nd) : ∀ v ∈ ndC m, v.oneCell' = true := fun v hv => by
  unfold ndC at hv
  simp only [List.mem_cons, List.mem_map] at hv
  rcases hv with rfl | rfl | rfl | rfl | ⟨k, _, rfl⟩ <;> rfl

theorem info52 : (Tryd.prog.info? 52).map (fun i => (i.zero, i.size, i.bytes)) = some (some (.agg #[.string (bs []), .string (bs [])]), 2, 32) := by kernel_rfl
theorem info9 : (Tryd.prog.info? 9).map (fun i => (i.zero, i.size, i.bytes)) = some (some (.string (bs [])), 1, 16) := by kernel_rfl
def zeroN : Array Value := (ndC ⟨0, [], false, [], no16⟩).toArray
theorem info49 : (Tryd.prog.info? 49).map (fun i => (i.zero, i.size, i.bytes)) = some (some (.agg zeroN), 20, 176) := by kernel_rfl
theorem i52 : (Tryd.prog.info? 52).map (·.size) = some 2 := by kernel_rfl
theorem i49 : (Tryd.prog.info? 49).map (·.size) = some 20 := by kernel_rfl

/-- A slice that is read: its elements, k cells each, wherever they lie. -/
def Ls (w : World) (k : Nat) (v : Value) (es : List (List Value)) : Prop :=
  ∃ a c, v = .slice a es.length c ∧ es.length ≤ c ∧ (es ≠ [] → ∃ g o, a = some ⟨g, o, none⟩ ∧ g < w.heap.size ∧ ∀ (i : Nat) (h : i < es.length), w.rangeAt g (o + i * k) es[i])
theorem Ls.after {w w' : World} {k : Nat} {v : Value} {es : List (List Value)} (h : Ls w k v es) (n : New w w') : Ls w' k v es := by
  obtain ⟨a, c, h1, h2, h3⟩ := h
  refine ⟨a, c, h1, h2, fun hne => ?_⟩
  obtain ⟨g, o, e, hg, hr⟩ := h3 hne
  exact ⟨g, o, e, Nat.lt_of_lt_of_le hg n.size, fun i hi j u hu => (n.cell hg).trans (hr i hi j u hu)⟩
theorem Ls.size {w : World} {k : Nat} {v : Value} {es : List (List Value)} (h : Ls w k v es) : ∃ a c, v = .slice a es.length c := by
  obtain ⟨a, c, h1, _⟩ := h; exact ⟨a, c, h1⟩
theorem Ls.full {w : World} {k : Nat} {v : Value} {es : List (List Value)} (h : Ls w k v es) (hn : 0 < es.length) : ∃ g o c, v = .slice (some ⟨g, o, none⟩) es.length c ∧ es.length ≤ c ∧ g < w.heap.size ∧ ∀ (i : Nat) (h : i < es.length), w.rangeAt g (o + i * k) es[i] := by
  obtain ⟨a, c, h1, h2, h3⟩ := h
  obtain ⟨g, o, e, hg, hr⟩ := h3 (by intro e; rw [e] at hn; simp at hn)
  subst e
  exact ⟨g, o, c, h1, h2, hg, hr⟩
theorem Pl.ls {w : World} {F : Nat → Prop} {t : TypeId} {k : Nat} {v : Value} {es : List (List Value)} (h : Pl w F t k v es) : Ls w k v es := by
  by_cases hn : 0 < es.length
  · obtain ⟨g, c, e, hF, hg, hc⟩ := h.full hn
    subst e
    exact ⟨_, c, rfl, hc, fun _ => ⟨g, 0, rfl, hg, fun i hi => by rw [Nat.zero_add]; exact h.range hi⟩⟩
  · obtain rfl : es = [] := List.eq_nil_of_length_eq_zero (by omega)
    obtain ⟨a, c, e, hc⟩ := h.form
    exact ⟨a, c, e, hc, fun hne => absurd rfl hne⟩

/-- The same, its block one of A. -/
def LsA (w : World) (A : Nat → Prop) (k : Nat) (v : Value) (es : List (List Value)) : Prop :=
  ∃ a c, v = .slice a es.length c ∧ es.length ≤ c ∧ (es ≠ [] → ∃ g o, a = some ⟨g, o, none⟩ ∧ g < w.heap.size ∧ A g ∧ ∀ (i : Nat) (h : i < es.length), w.rangeAt g (o + i * k) es[i])
theorem LsA.ls {w : World} {A : Nat → Prop} {k : Nat} {v : Value} {es : List (List Value)} (h : LsA w A k v es) : Ls w k v es := by
  obtain ⟨a, c, h1, h2, h3⟩ := h
  exact ⟨a, c, h1, h2, fun hn => let ⟨g, o, e, hg, _, hr⟩ := h3 hn; ⟨g, o, e, hg, hr⟩⟩
theorem Ls.lsA {w : World} {k : Nat} {v : Value} {es : List (List Value)} (h : Ls w k v es) : LsA w (fun _ => True) k v es := by
  obtain ⟨a, c, h1, h2, h3⟩ := h
  exact ⟨a, c, h1, h2, fun hn => let ⟨g, o, e, hg, hr⟩ := h3 hn; ⟨g, o, e, hg, trivial, hr⟩⟩
theorem LsA.nil (w : World) (A : Nat → Prop) (k : Nat) : LsA w A k (.slice none 0 0) [] := ⟨none, 0, rfl, Nat.le_refl _, fun h => absurd rfl h⟩
theorem LsA.of {w w' : World} {A : Nat → Prop} {k : Nat} {v : Value} {es : List (List Value)} (h : LsA w A k v es) (hs : w.heap.size ≤ w'.heap.size) (hb : ∀ g, g < w.heap.size → A g → w'.heap[g]? = w.heap[g]?) : LsA w' A k v es := by
  obtain ⟨a, c, h1, h2, h3⟩ := h
  refine ⟨a, c, h1, h2, fun hne => ?_⟩
  obtain ⟨g, o, e, hg, hA, hr⟩ := h3 hne
  refine ⟨g, o, e, Nat.lt_of_lt_of_le hg hs, hA, fun i hi j u hu => ?_⟩
  have := hr i hi j u hu
  unfold World.cell? at this ⊢
  rw [hb g hg hA]; exact this
theorem LsA.after {w w' : World} {A : Nat → Prop} {k : Nat} {v : Value} {es : List (List Value)} (h : LsA w A k v es) (n : New w w') : LsA w' A k v es := h.of n.size fun g hg _ => n.block g hg
theorem LsA.step {w w' : World} {A F F' : Nat → Prop} {k : Nat} {v : Value} {es : List (List Value)} (h : LsA w A k v es) (s : Step F F' w w') (hA : ∀ g, A g → ¬ F g) : LsA w' A k v es := h.of s.size fun g hg hx => s.block g hg (hA g hx)
theorem Pl.lsA {w : World} {F : Nat → Prop} {t : TypeId} {k : Nat} {v : Value} {es : List (List Value)} (h : Pl w F t k v es) : LsA w (fun g => F g ∧ g < w.heap.size) k v es := by
  by_cases hn : 0 < es.length
  · obtain ⟨g, c, e, hF, hg, hc⟩ := h.full hn
    subst e
    exact ⟨_, c, rfl, hc, fun _ => ⟨g, 0, rfl, hg, ⟨hF, hg⟩, fun i hi => by rw [Nat.zero_add]; exact h.range hi⟩⟩
  · obtain rfl : es = [] := List.eq_nil_of_length_eq_zero (by omega)
    obtain ⟨a, c, e, hc⟩ := h.form
    exact ⟨a, c, e, hc, fun hne => absurd rfl hne⟩

/-- The order of texts as the program asks it. -/
theorem less_iff : ∀ a b : Bt, Op.bytesLess a b = true ↔ ltL a b
  | [], [] => by simp [Op.bytesLess, ltL]
  | _ :: _, [] => by simp [Op.bytesLess, ltL]
  | [], _ :: _ => by simp [Op.bytesLess, ltL]
  | a :: l, b :: m => by
    rw [less_cons, Bool.or_eq_true, Bool.and_eq_true, decide_eq_true_eq, decide_eq_true_eq, less_iff l m, UInt8.toNat_inj]
    exact Iff.rfl
def okP (p : Pr) : Bool := decide (1 ≤ p.1.length) && (decide (p.1.length ≤ 8) && decide (p.2.length ≤ 16))
def upB (a b : Bt) : Bool := Op.bytesLess a b
def mayB : List Pr → Bool
  | [] => true
  | p :: r => okP p && ((match r with | [] => true | q :: _ => upB p.1 q.1) && mayB r)
def atB (l : List Pr) (i : Nat) : Bool := okP (l.getD i ([], [])) && (decide (i = 0) || upB (l.getD (i - 1) ([], [])).1 (l.getD i ([], [])).1)
theorem mayB_iff : ∀ l : List Pr, mayB l = true ↔ ∀ i, i < l.length → atB l i = true
  | [] => by simp [mayB]
  | [p] => by
    simp only [mayB, Bool.and_true, List.length_cons, List.length_nil]
    constructor
    · intro h i hi
      obtain rfl : i = 0 := by omega
      simp [atB, h]
    · intro h
      have := h 0 (by omega)
      simpa [atB] using this
  | p :: q :: r => by
    have ih := mayB_iff (q :: r)
    show (okP p && (upB p.1 q.1 && mayB (q :: r))) = true ↔ _
    rw [Bool.and_eq_true, Bool.and_eq_true, ih]
    constructor
    · rintro ⟨h1, h2, h3⟩ i hi
      cases i with
      | zero => simp [atB, h1]
      | succ i =>
        cases i with
        | zero =>
          have := h3 0 (by simp)
          simp only [atB, List.getD_cons_zero, Bool.and_eq_true, decide_true, Bool.true_or] at this
          simp [atB, h2, this.1]
        | succ i =>
          have := h3 (i + 1) (by simpa using hi)
          simpa [atB] using this
    · intro h
      refine ⟨?_, ?_, fun i hi => ?_⟩
      · have := h 0 (by simp); simpa [atB] using this
      · have := h 1 (by simp)
        simp only [atB, Bool.and_eq_true] at this
        simpa using this.2
      · have := h (i + 1) (by simpa using hi)
        cases i with
        | zero =>
          simp only [atB, Bool.and_eq_true] at this ⊢
          simpa using this.1
        | succ i => simpa [atB] using this
theorem mayB_rise : ∀ l : List Pr, mayB l = true → l.Pairwise (fun p q => ltL p.1 q.1) ∧ ∀ p ∈ l, okP p = true
  | [], _ => ⟨List.Pairwise.nil, by simp⟩
  | [p], h => ⟨List.pairwise_singleton _ _, by simpa [mayB] using h⟩
  | p :: q :: r, h => by
    have h : (okP p && (upB p.1 q.1 && mayB (q :: r))) = true := h
    rw [Bool.and_eq_true, Bool.and_eq_true] at h
    obtain ⟨h1, h2, h3⟩ := h
    obtain ⟨i1, i2⟩ := mayB_rise (q :: r) h3
    have hpq : ltL p.1 q.1 := (less_iff _ _).1 h2
    refine ⟨List.pairwise_cons.2 ⟨fun x hx => ?_, i1⟩, fun x hx => ?_⟩
    · rcases List.mem_cons.1 hx with rfl | hx
      · exact hpq
      · exact ltL_trans hpq ((List.pairwise_cons.1 i1).1 x hx)
    · rcases List.mem_cons.1 hx with rfl | hx
      · exact h1
      · exact i2 x hx

/-- Pairs with their keys' halves as keys. -/
def halfP (p : Pr) : Pr := (ofL p.1, p.2)
theorem ltL_of (a b : Bt) : ltL (ofL a) (ofL b) ↔ ltL a b := by rw [← less_iff, ← less_iff, less_of]
theorem may_fit {l : List Pr} (h : mayB l = true) : Fit (l.map halfP) 0 := by
  obtain ⟨h1, h2⟩ := mayB_rise l h
  refine ⟨fun p hp => ?_, fun p hp c hc => ?_, ?_, fun _ _ _ _ => rfl⟩
  · obtain ⟨q, hq, rfl⟩ := List.mem_map.1 hp
    have := h2 q hq
    simp only [okP, Bool.and_eq_true, decide_eq_true_eq] at this
    show 0 ≤ (ofL q.1).length ∧ (ofL q.1).length ≤ 16
    rw [ofL_length]; omega
  · obtain ⟨q, hq, rfl⟩ := List.mem_map.1 hp
    obtain ⟨i, hi⟩ := List.getElem?_of_mem hc
    exact halvesB_get (halvesB_of q.1) hi
  · rw [List.pairwise_map]
    exact h1.imp fun h => (ltL_of _ _).2 h
/-- The trie of pairs, and what leads to each node. -/
def trieL (l : List Pr) : List NP := grow 17 (l.map halfP) 0 0

end Go.Proofs.YtelaiblhnhbgiaaDoor
