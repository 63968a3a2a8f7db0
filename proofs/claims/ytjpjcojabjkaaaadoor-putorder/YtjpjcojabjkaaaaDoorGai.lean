/-
  Pairs, nodes and texts as cells; a slice that is read; the order of texts as the program asks it. The small functions of trie: a text cloned, a child's path; whether pairs may be. The document's own May: the same as mayBe. Slices that are made; byNibbles: pairs with their keys' halves as keys. split: pairs by their half at a place, each group a piece of the row.
-/
import Derived.Test.YtjpjcojabjkaaaaDoorGah
import Derived.Test.YtjpjcojabjkaaaaDoorGag
import Derived.Test.YtjpjcojabjkaaaaDoorGaf
import Derived.Test.YtjpjcojabjkaaaaDoorGab
import Derived.Deep.QuietTactic
import Derived.BigQuiet
import Derived.Test.YtjpjcojabjkaaaaDoorGad
import Derived.Laws.MakeOwn
namespace Go.Proofs.YtjpjcojabjkaaaaDoor
open Go.RowKit
set_option maxRecDepth 20000

theorem region_new {P : Program} {id : Nat} {Q : Exit → Act → World → Prop} {a : Act} {w : World} {l : List Oper} (W : World) (hW : New W w) (hm : P.follows .mixedOrders = true) (hB : Region.lexB .any l.toArray = true)
    (h : wpQuiet P l.toArray (fun w' => ∃ p : NewW W, w' = p.v) (fun a' => ∀ w', (∃ p : NewW W, w' = p.v) → Q .normal a' w') l a) : (Code.region id l.toArray true).wp P Q a w :=
  wp_region_quiet (C := fun w' => ∃ p : NewW W, w' = p.v) hm hB ⟨⟨w.drew, hW.drewR⟩, rfl⟩ (by simpa using h)

def prC (p : Pr) : List Value := [.string (bs p.1), .string (bs p.2)]
def ndC (m : Nd) : List Value := .int .i64 m.kind :: .string (bs m.path) :: .bool m.has :: .string (bs m.val) :: m.kids.map (Value.int .i64)
def txC (t : Bt) : List Value := [.string (bs t)]
theorem prC_len (p : Pr) : (prC p).length = 2 := rfl
theorem txC_len (t : Bt) : (txC t).length = 1 := rfl
theorem ndC_len {m : Nd} (h : m.kids.length = 16) : (ndC m).length = 20 := by unfold ndC; simp [h]
theorem prC_one (p : Pr) : ∀ v ∈ prC p, v.oneCell' = true := fun v hv => by
  unfold prC at hv; simp at hv; rcases hv with rfl | rfl <;> rfl
theorem txC_one (t : Bt) : ∀ v ∈ txC t, v.oneCell' = true := fun v hv => by
  unfold txC at hv; simp at hv; subst hv; rfl
theorem ndC_one (m : Nd) : ∀ v ∈ ndC m, v.oneCell' = true := fun v hv => by
  unfold ndC at hv
  simp only [List.mem_cons, List.mem_map] at hv
  rcases hv with rfl | rfl | rfl | rfl | ⟨k, _, rfl⟩ <;> rfl

theorem info52 : (Tryd.prog.info? 25).map (fun i => (i.zero, i.size, i.bytes)) = some (some (.agg #[.string (bs []), .string (bs [])]), 2, 32) := by kernel_rfl
theorem info9 : (Tryd.prog.info? 9).map (fun i => (i.zero, i.size, i.bytes)) = some (some (.string (bs [])), 1, 16) := by kernel_rfl
def zeroN : Array Value := (ndC ⟨0, [], false, [], no16⟩).toArray
theorem info49 : (Tryd.prog.info? 55).map (fun i => (i.zero, i.size, i.bytes)) = some (some (.agg zeroN), 20, 176) := by kernel_rfl
theorem i52 : (Tryd.prog.info? 25).map (·.size) = some 2 := by kernel_rfl
theorem i49 : (Tryd.prog.info? 55).map (·.size) = some 20 := by kernel_rfl

/-- A slice that is read: its elements, k cells each, wherever they lie. -/
def Ls (w : World) (k : Nat) (v : Value) (es : List (List Value)) : Prop :=
  ∃ a c, v = .slice a es.length c ∧ es.length ≤ c ∧ (es ≠ [] → ∃ g o, a = some ⟨g, o, none⟩ ∧ g < w.heap.size ∧ ∀ (i : Nat) (h : i < es.length), w.rangeAt g (o + i * k) es[i])
theorem Ls.after {w w' : World} {k : Nat} {v : Value} {es : List (List Value)} (h : Ls w k v es) (n : New w w') : Ls w' k v es := by
  obtain ⟨a, c, h1, h2, h3⟩ := h
  refine ⟨a, c, h1, h2, fun hne => ?_⟩
  obtain ⟨g, o, e, hg, hr⟩ := h3 hne
  exact ⟨g, o, e, Nat.lt_of_lt_of_le hg n.size, fun i hi j u hu => (n.cell hg).trans (hr i hi j u hu)⟩
theorem Ls.size {w : World} {k : Nat} {v : Value} {es : List (List Value)} (h : Ls w k v es) : ∃ a c, v = .slice a es.length c := by
  obtain ⟨a, c, h1, _⟩ := h; exact ⟨a, c, h1⟩
theorem Ls.full {w : World} {k : Nat} {v : Value} {es : List (List Value)} (h : Ls w k v es) (hn : 0 < es.length) : ∃ g o c, v = .slice (some ⟨g, o, none⟩) es.length c ∧ es.length ≤ c ∧ g < w.heap.size ∧ ∀ (i : Nat) (h : i < es.length), w.rangeAt g (o + i * k) es[i] := by
  obtain ⟨a, c, h1, h2, h3⟩ := h
  obtain ⟨g, o, e, hg, hr⟩ := h3 (by intro e; rw [e] at hn; simp at hn)
  subst e
  exact ⟨g, o, c, h1, h2, hg, hr⟩
theorem Pl.ls {w : World} {F : Nat → Prop} {t : TypeId} {k : Nat} {v : Value} {es : List (List Value)} (h : Pl w F t k v es) : Ls w k v es := by
  by_cases hn : 0 < es.length
  · obtain ⟨g, c, e, hF, hg, hc⟩ := h.full hn
    subst e
    exact ⟨_, c, rfl, hc, fun _ => ⟨g, 0, rfl, hg, fun i hi => by rw [Nat.zero_add]; exact h.range hi⟩⟩
  · obtain rfl : es = [] := List.eq_nil_of_length_eq_zero (by omega)
    obtain ⟨a, c, e, hc⟩ := h.form
    exact ⟨a, c, e, hc, fun hne => absurd rfl hne⟩

/-- The same, its block one of A. -/
def LsA (w : World) (A : Nat → Prop) (k : Nat) (v : Value) (es : List (List Value)) : Prop :=
  ∃ a c, v = .slice a es.length c ∧ es.length ≤ c ∧ (es ≠ [] → ∃ g o, a = some ⟨g, o, none⟩ ∧ g < w.heap.size ∧ A g ∧ ∀ (i : Nat) (h : i < es.length), w.rangeAt g (o + i * k) es[i])
theorem LsA.ls {w : World} {A : Nat → Prop} {k : Nat} {v : Value} {es : List (List Value)} (h : LsA w A k v es) : Ls w k v es := by
  obtain ⟨a, c, h1, h2, h3⟩ := h
  exact ⟨a, c, h1, h2, fun hn => let ⟨g, o, e, hg, _, hr⟩ := h3 hn; ⟨g, o, e, hg, hr⟩⟩
theorem Ls.lsA {w : World} {k : Nat} {v : Value} {es : List (List Value)} (h : Ls w k v es) : LsA w (fun _ => True) k v es := by
  obtain ⟨a, c, h1, h2, h3⟩ := h
  exact ⟨a, c, h1, h2, fun hn => let ⟨g, o, e, hg, hr⟩ := h3 hn; ⟨g, o, e, hg, trivial, hr⟩⟩
theorem LsA.nil (w : World) (A : Nat → Prop) (k : Nat) : LsA w A k (.slice none 0 0) [] := ⟨none, 0, rfl, Nat.le_refl _, fun h => absurd rfl h⟩
theorem LsA.of {w w' : World} {A : Nat → Prop} {k : Nat} {v : Value} {es : List (List Value)} (h : LsA w A k v es) (hs : w.heap.size ≤ w'.heap.size) (hb : ∀ g, g < w.heap.size → A g → w'.heap[g]? = w.heap[g]?) : LsA w' A k v es := by
  obtain ⟨a, c, h1, h2, h3⟩ := h
  refine ⟨a, c, h1, h2, fun hne => ?_⟩
  obtain ⟨g, o, e, hg, hA, hr⟩ := h3 hne
  refine ⟨g, o, e, Nat.lt_of_lt_of_le hg hs, hA, fun i hi j u hu => ?_⟩
  have := hr i hi j u hu
  unfold World.cell? at this ⊢
  rw [hb g hg hA]; exact this
theorem LsA.after {w w' : World} {A : Nat → Prop} {k : Nat} {v : Value} {es : List (List Value)} (h : LsA w A k v es) (n : New w w') : LsA w' A k v es := h.of n.size fun g hg _ => n.block g hg
theorem LsA.step {w w' : World} {A F F' : Nat → Prop} {k : Nat} {v : Value} {es : List (List Value)} (h : LsA w A k v es) (s : Step F F' w w') (hA : ∀ g, A g → ¬ F g) : LsA w' A k v es := h.of s.size fun g hg hx => s.block g hg (hA g hx)
theorem Pl.lsA {w : World} {F : Nat → Prop} {t : TypeId} {k : Nat} {v : Value} {es : List (List Value)} (h : Pl w F t k v es) : LsA w (fun g => F g ∧ g < w.heap.size) k v es := by
  by_cases hn : 0 < es.length
  · obtain ⟨g, c, e, hF, hg, hc⟩ := h.full hn
    subst e
    exact ⟨_, c, rfl, hc, fun _ => ⟨g, 0, rfl, hg, ⟨hF, hg⟩, fun i hi => by rw [Nat.zero_add]; exact h.range hi⟩⟩
  · obtain rfl : es = [] := List.eq_nil_of_length_eq_zero (by omega)
    obtain ⟨a, c, e, hc⟩ := h.form
    exact ⟨a, c, e, hc, fun hne => absurd rfl hne⟩

/-- The order of texts as the program asks it. -/
theorem less_iff : ∀ a b : Bt, Op.bytesLess a b = true ↔ ltL a b
  | [], [] => by simp [Op.bytesLess, ltL]
  | _ :: _, [] => by simp [Op.bytesLess, ltL]
  | [], _ :: _ => by simp [Op.bytesLess, ltL]
  | a :: l, b :: m => by
    rw [less_cons, Bool.or_eq_true, Bool.and_eq_true, decide_eq_true_eq, decide_eq_true_eq, less_iff l m, UInt8.toNat_inj]
    exact Iff.rfl
def okP (p : Pr) : Bool := decide (1 ≤ p.1.length) && (decide (p.1.length ≤ 8) && decide (p.2.length ≤ 16))
def upB (a b : Bt) : Bool := Op.bytesLess a b
def mayB : List Pr → Bool
  | [] => true
  | p :: r => okP p && ((match r with | [] => true | q :: _ => upB p.1 q.1) && mayB r)
def atB (l : List Pr) (i : Nat) : Bool := okP (l.getD i ([], [])) && (decide (i = 0) || upB (l.getD (i - 1) ([], [])).1 (l.getD i ([], [])).1)
theorem mayB_iff : ∀ l : List Pr, mayB l = true ↔ ∀ i, i < l.length → atB l i = true
  | [] => by simp [mayB]
  | [p] => by
    simp only [mayB, Bool.and_true, List.length_cons, List.length_nil]
    constructor
    · intro h i hi
      obtain rfl : i = 0 := by omega
      simp [atB, h]
    · intro h
      have := h 0 (by omega)
      simpa [atB] using this
  | p :: q :: r => by
    have ih := mayB_iff (q :: r)
    show (okP p && (upB p.1 q.1 && mayB (q :: r))) = true ↔ _
    rw [Bool.and_eq_true, Bool.and_eq_true, ih]
    constructor
    · rintro ⟨h1, h2, h3⟩ i hi
      cases i with
      | zero => simp [atB, h1]
      | succ i =>
        cases i with
        | zero =>
          have := h3 0 (by simp)
          simp only [atB, List.getD_cons_zero, Bool.and_eq_true, decide_true, Bool.true_or] at this
          simp [atB, h2, this.1]
        | succ i =>
          have := h3 (i + 1) (by simpa using hi)
          simpa [atB] using this
    · intro h
      refine ⟨?_, ?_, fun i hi => ?_⟩
      · have := h 0 (by simp); simpa [atB] using this
      · have := h 1 (by simp)
        simp only [atB, Bool.and_eq_true] at this
        simpa using this.2
      · have := h (i + 1) (by simpa using hi)
        cases i with
        | zero =>
          simp only [atB, Bool.and_eq_true] at this ⊢
          simpa using this.1
        | succ i => simpa [atB] using this
theorem mayB_rise : ∀ l : List Pr, mayB l = true → l.Pairwise (fun p q => ltL p.1 q.1) ∧ ∀ p ∈ l, okP p = true
  | [], _ => ⟨List.Pairwise.nil, by simp⟩
  | [p], h => ⟨List.pairwise_singleton _ _, by simpa [mayB] using h⟩
  | p :: q :: r, h => by
    have h : (okP p && (upB p.1 q.1 && mayB (q :: r))) = true := h
    rw [Bool.and_eq_true, Bool.and_eq_true] at h
    obtain ⟨h1, h2, h3⟩ := h
    obtain ⟨i1, i2⟩ := mayB_rise (q :: r) h3
    have hpq : ltL p.1 q.1 := (less_iff _ _).1 h2
    refine ⟨List.pairwise_cons.2 ⟨fun x hx => ?_, i1⟩, fun x hx => ?_⟩
    · rcases List.mem_cons.1 hx with rfl | hx
      · exact hpq
      · exact ltL_trans hpq ((List.pairwise_cons.1 i1).1 x hx)
    · rcases List.mem_cons.1 hx with rfl | hx
      · exact h1
      · exact i2 x hx

/-- Pairs with their keys' halves as keys. -/
def halfP (p : Pr) : Pr := (ofL p.1, p.2)
theorem ltL_of (a b : Bt) : ltL (ofL a) (ofL b) ↔ ltL a b := by rw [← less_iff, ← less_iff, less_of]
theorem may_fit {l : List Pr} (h : mayB l = true) : Fit (l.map halfP) 0 := by
  obtain ⟨h1, h2⟩ := mayB_rise l h
  refine ⟨fun p hp => ?_, fun p hp c hc => ?_, ?_, fun _ _ _ _ => rfl⟩
  · obtain ⟨q, hq, rfl⟩ := List.mem_map.1 hp
    have := h2 q hq
    simp only [okP, Bool.and_eq_true, decide_eq_true_eq] at this
    show 0 ≤ (ofL q.1).length ∧ (ofL q.1).length ≤ 16
    rw [ofL_length]; omega
  · obtain ⟨q, hq, rfl⟩ := List.mem_map.1 hp
    obtain ⟨i, hi⟩ := List.getElem?_of_mem hc
    exact halvesB_get (halvesB_of q.1) hi
  · rw [List.pairwise_map]
    exact h1.imp fun h => (ltL_of _ _).2 h
/-- The trie of pairs, and what leads to each node. -/
def trieL (l : List Pr) : List NP := grow 17 (l.map halfP) 0 0

end Go.Proofs.YtjpjcojabjkaaaaDoor
namespace Go.Proofs.YtjpjcojabjkaaaaDoor
open Go.RowKit
set_option maxRecDepth 20000

theorem clone_any (l : Bt) (hl : l.length ≤ 4000) (w : World) :
    Calls Tryd.prog 44 #[.string (bs l)] w fun e w' => e = .returned (.string (bs l)) ∧ New w w' := by
  have HC := fun w => Tryd.stringslite_Clone (bs l) w (by rw [bs_size]; omega)
  go_enter Tryd.func44, Tryd.ntmps44
  go_wp2_with fail
  refine (HC _).mono ?_
  rintro e w1 ⟨rfl, g1⟩
  go_wp2_with fail
  go_ret
  exact ⟨rfl, g1⟩

/-- What leads to a child, as the program has it. -/
def kidP (kind : Int) (e : Bt) (c : Nat) : Bt := if kind = 2 then e else e ++ [UInt8.ofNat c]
set_option maxHeartbeats 400000 in
theorem childPath_any (kind : Int) (e : Bt) (he : e.length ≤ 4000) (c : Nat) (hc : c < 16) (w : World) :
    Calls Tryd.prog 54 #[.int .i64 kind, .string (bs e), .int .i64 (c : Int)] w fun x w' => x = .returned (.string (bs (kidP kind e c))) ∧ New w w' := by
  by_cases hk : kind = 2
  · subst hk
    have HE : Hid (kidP 2 e c = e) := if_pos rfl
    have HC := fun w => clone_any e he w
    go_enter Tryd.func54, Tryd.ntmps54
    go_wp2_with fail
    refine (HC _).mono ?_
    rintro _ w1 ⟨rfl, g1⟩
    go_wp2_with fail
    go_ret
    exact ⟨ret_str (by rw [HE.out]), g1⟩
  · have HE : Hid (bs e ++ bs [UInt8.ofNat c] = bs (kidP kind e c)) := eq_of_L (by rw [L_append, L_bs, L_bs, L_bs]; unfold kidP; rw [if_neg hk])
    have hw8 : IntKind.u8.wrap (c : Int) = (c : Int) := by rw [IntKind.wrap_u8]; omega
    have hcv : ∀ (w : World) (b : Nat), w.cell? ⟨b, 0, none⟩ = some (.int .u8 (c : Int)) → (convert 50 9 (.slice (some ⟨b, 0, none⟩) 1 1)).run Tryd.prog w = .ok (.string (bs [UInt8.ofNat c])) w := by
      intro w b hc'
      refine run_convert_bytes_back w 50 9 5 ⟨b, 0, none⟩ 1 [UInt8.ofNat c] Tryd.underlying50 Tryd.underlying5 Tryd.underlying9 (fun j hj => ?_)
      simp at hj
      subst hj
      simp [Addr.add, hc']
      omega
    have hkd : (kind == 2) = false := by simpa using hk
    have hsz1 : (bs e).size ≤ 4000 := by rw [bs_size]; exact he
    have hsz2 : (bs [UInt8.ofNat c]).size ≤ 1 := Nat.le_refl _
    generalize bs (kidP kind e c) = R at HE ⊢
    generalize bs [UInt8.ofNat c] = B at hcv HE hsz2
    generalize bs e = A at HE hsz1 ⊢
    clear he
    go_enter Tryd.func54, Tryd.ntmps54
    go_wp2_with fail
    have h1 := hcv (w.alloc (.cells #[.int .u8 (c : Int)] 5)) w.heap.size (by simp)
    go_wp2_with fail
    go_ret
    exact ⟨ret_str HE.out, (New.refl w).alloc _⟩

theorem upB_run (a b : Bt) : Op.bytesLess (bs a).toList (bs b).toList = upB a b := by rw [toList_L, toList_L]; rfl
/-- A slice of pairs, of nodes, of texts, opened: where it lies. -/
theorem Ls.open {w : World} {k : Nat} {α : Type} {f : α → List Value} {v : Value} {l : List α} (h : Ls w k v (l.map f)) (d : α) : ∃ a c, v = .slice a l.length c ∧ l.length ≤ c ∧
    Hid (0 < l.length → ∃ g o, a = some ⟨g, o, none⟩ ∧ g < w.heap.size ∧ ∀ (W : World), New w W → ∀ i, i < l.length → W.rangeAt g (o + i * k) (f (l.getD i d))) := by
  obtain ⟨a, c, e, hc, h3⟩ := h
  rw [List.length_map] at e hc
  refine ⟨a, c, e, hc, fun hn => ?_⟩
  obtain ⟨g, o, ea, hg, hr⟩ := h3 (by intro e; have := congrArg List.length e; rw [List.length_map] at this; simp at this; rw [this] at hn; simp at hn)
  refine ⟨g, o, ea, hg, fun W N i hi j u hu => ?_⟩
  have := hr i (by rw [List.length_map]; exact hi) j u (by rw [List.getElem_map]; rw [List.getD_eq_getElem?_getD, List.getElem?_eq_getElem hi] at hu; exact hu)
  exact (N.cell hg).trans this
theorem LsA.open {w : World} {A : Nat → Prop} {k : Nat} {α : Type} {f : α → List Value} {v : Value} {l : List α} (h : LsA w A k v (l.map f)) (d : α) : ∃ a c, v = .slice a l.length c ∧ l.length ≤ c ∧
    Hid (0 < l.length → ∃ g o, a = some ⟨g, o, none⟩ ∧ g < w.heap.size ∧ A g ∧ ∀ (W : World), New w W → ∀ i, i < l.length → W.rangeAt g (o + i * k) (f (l.getD i d))) := by
  obtain ⟨a, c, e, hc, h3⟩ := h
  rw [List.length_map] at e hc
  refine ⟨a, c, e, hc, fun hn => ?_⟩
  obtain ⟨g, o, ea, hg, hA, hr⟩ := h3 (by intro e; have := congrArg List.length e; rw [List.length_map] at this; simp at this; rw [this] at hn; simp at hn)
  refine ⟨g, o, ea, hg, hA, fun W N i hi j u hu => ?_⟩
  have := hr i (by rw [List.length_map]; exact hi) j u (by rw [List.getElem_map]; rw [List.getD_eq_getElem?_getD, List.getElem?_eq_getElem hi] at hu; exact hu)
  exact (N.cell hg).trans this
theorem getD_mem {α : Type} {l : List α} {i : Nat} {d : α} (h : i < l.length) : l.getD i d ∈ l := by
  rw [List.getD_eq_getElem?_getD, List.getElem?_eq_getElem h]; exact List.getElem_mem h
theorem okP_key (p : Pr) (h : okP p = true) : 1 ≤ p.1.length ∧ p.1.length ≤ 8 ∧ p.2.length ≤ 16 := by
  simpa [okP] using h
theorem pr_all (p : Pr) : (prC p).toArray.all (·.oneCell') = true := all_oneCell_toArray (prC_one p)
theorem atB_zero {l : List Pr} {k : Nat} {p : Pr} (hk : k = 0) (hp : l.getD k ([], []) = p) (h : okP p = true) : atB l k = true := by
  unfold atB; rw [hp, h, decide_eq_true hk]; rfl
theorem atB_succ {l : List Pr} {k m : Nat} {p q : Pr} (hk : k = m + 1) (hp : l.getD k ([], []) = p) (hq : l.getD m ([], []) = q) : atB l k = (okP p && upB q.1 p.1) := by
  unfold atB; rw [hp, decide_eq_false (by omega), show k - 1 = m by omega, hq]; rfl
theorem mayB_no {l : List Pr} {k : Nat} (hb : mayB l = true ↔ ∀ i, i < l.length → atB l i = true) (hk : k < l.length) (h : atB l k = false) : mayB l = false := by
  rw [Bool.eq_false_iff]; intro e; rw [hb.1 e k hk] at h; cases h
theorem atB_bad {l : List Pr} {k : Nat} {p : Pr} (hp : l.getD k ([], []) = p) (h : okP p = false) : atB l k = false := by
  unfold atB; rw [hp, h]; rfl
theorem ok_form (p : Pr) : ((bs p.1).toList.isEmpty || decide ((8 : Int) < ((bs p.1).size : Int)) || decide ((16 : Int) < ((bs p.2).size : Int))) = !okP p := by
  have e : (bs p.1).toList.isEmpty = decide (p.1.length < 1) := by
    rw [toList_L, L_bs, Bool.eq_iff_iff, List.isEmpty_iff, decide_eq_true_eq]
    cases p.1 <;> simp
  rw [e, bs_size, bs_size]
  unfold okP
  rw [Bool.eq_iff_iff]
  simp only [Bool.or_eq_true, Bool.not_eq_true', Bool.and_eq_false_iff, decide_eq_true_eq, decide_eq_false_iff_not]
  omega

set_option maxHeartbeats 1000000 in
theorem mayBe_any {w : World} {v : Value} {l : List Pr} (P : Ls w 2 v (l.map prC)) (hl : l.length ≤ 10000) (hk : ∀ p ∈ l, p.1.length ≤ 4000 ∧ p.2.length ≤ 4000) :
    Calls Tryd.prog 55 #[v] w fun e w' => e = .returned (.bool (mayB l)) ∧ New w w' := by
  obtain ⟨a, c, rfl, hc, HS⟩ := P.open ([], [])
  have HM : Hid (∀ i, i < l.length → (l.getD i ([], [])).1.length ≤ 4000 ∧ (l.getD i ([], [])).2.length ≤ 4000) := fun i h => hk _ (getD_mem h)
  have HB : Hid (mayB l = true ↔ ∀ i, i < l.length → atB l i = true) := mayB_iff l
  clear hk P
  go_enter Tryd.func55, Tryd.ntmps55
  go_wp2_with fail
  go_loopw [7] (fun i wr => ∃ k : Nat, k ≤ l.length ∧ i = .int .i64 (k : Int) ∧ Hid (∀ j, j < k → atB l j = true) ∧ New w wr) (fun i _ => l.length - (intOf i).toNat)
  case atStart => exact ⟨0, by omega, rfl, fun j h => absurd h (by omega), New.refl w⟩
  case round =>
    obtain ⟨k, hk, rfl, hall, N⟩ := hrel
    by_cases hlt : k < l.length
    · obtain ⟨g, o, rfl, hg, hr⟩ := HS.out (by omega)
      have M0 := (HM.out k hlt)
      have R2 := hr wr N k hlt
      obtain ⟨p, hp⟩ : ∃ p, l.getD k ([], []) = p := ⟨_, rfl⟩
      have HP : Hid (l.getD k ([], []) = p) := hp
      rw [hp] at R2 M0
      clear hp
      have HQ : Hid (∀ W, New w W → ∀ i, i < l.length → W.rangeAt g (o + i * 2) (prC (l.getD i ([], [])))) := hr
      clear hr
      have hor : ((bs p.1).toList.isEmpty || decide ((8 : Int) < ((bs p.1).size : Int)) || decide ((16 : Int) < ((bs p.2).size : Int))) = !okP p := ok_form p
      by_cases hok : okP p = true
      · rw [hok] at hor
        simp only [Bool.or_eq_false_iff, Bool.not_true] at hor
        obtain ⟨⟨o1, o2⟩, o3⟩ := hor
        have HO : Hid (okP p = true) := hok
        clear hok
        by_cases hk0 : k = 0
        · have hd0 : decide ((0 : Int) < (k : Int)) = false := decide_eq_false (by omega)
          have hd1 : decide (0 < k) = false := decide_eq_false (by omega)
          have HK : Hid (k = 0) := hk0
          clear hk0
          go_wp2_with (first
            | refine wpList_load_mid (by rfl) 25 _ (by rfl) g (o + k * 2) (by rfl) (prC p) _ R2 Tryd.underlying25 rfl i52 ?_
            | (refine wpList_alloc_new (by rfl) 25 (by rfl) _ _ _ info52 ?_; intro W1 R1 M1)
            | (refine wpList_store_new (by rfl) 25 _ _ (by rfl) wr.heap.size (prC p).toArray (by rfl) (by rfl) 25 _ R1 i52 rfl (pr_all p) ?_; intro W2 R2 B2; have c0 : W2.cell? ⟨wr.heap.size, 0, none⟩ = some (.string (bs p.1)) := R2.cell 0; have c1 : W2.cell? ⟨wr.heap.size, 1, none⟩ = some (.string (bs p.2)) := R2.cell 1; have NW : New w W2 := B2.new (N.trans M1) N.size))
          have q0 := NewW.cell c0
          have hne := NewW.ne W2
          refine region_new W2 (New.refl W2) (by kernel_rfl) (by kernel_rfl) ?_
          repeat (go_big_quiet_step (fail))
          refine wpQuiet_nil ?_
          rintro W3 ⟨⟨_, k3⟩, rfl⟩
          go_wp2_with fail
          go_roundw
          case rel => 
            refine ⟨k + 1, by omega, by go_num, fun j hj => ?_, NW.trans k3⟩
            by_cases e : j = k
            · subst e
              exact atB_zero HK.out HP.out HO.out
            · exact hall.out j (by omega)
          case measure => simp [intOf]; omega
        · obtain ⟨m, hm⟩ : ∃ m, k = m + 1 := ⟨k - 1, by omega⟩
          have hd0 : decide ((0 : Int) < (k : Int)) = true := decide_eq_true (by omega)
          have hd1 : decide (0 < k) = true := decide_eq_true (by omega)
          have hkm : (k : Int) - 1 = (m : Int) := by omega
          have hml : m < l.length := by omega
          have HK : Hid (k = m + 1) := hm
          clear hk0 hm
          obtain ⟨q, hq⟩ : ∃ q, l.getD m ([], []) = q := ⟨_, rfl⟩
          have HQm : Hid (l.getD m ([], []) = q) := hq
          clear hq
          go_wp2_with (first
            | refine wpList_load_mid (by rfl) 25 _ (by rfl) g (o + k * 2) (by rfl) (prC p) _ R2 Tryd.underlying25 rfl i52 ?_
            | (refine wpList_alloc_new (by rfl) 25 (by rfl) _ _ _ info52 ?_; intro W1 R1 M1)
            | (refine wpList_store_new (by rfl) 25 _ _ (by rfl) wr.heap.size (prC p).toArray (by rfl) (by rfl) 25 _ R1 i52 rfl (pr_all p) ?_; intro W2 R2 B2; have c0 : W2.cell? ⟨wr.heap.size, 0, none⟩ = some (.string (bs p.1)) := R2.cell 0; have c1 : W2.cell? ⟨wr.heap.size, 1, none⟩ = some (.string (bs p.2)) := R2.cell 1; have NW : New w W2 := B2.new (N.trans M1) N.size))
          have RQ := HQ.out W2 NW m hml
          rw [HQm.out] at RQ
          have c2 : W2.cell? ⟨g, o + m * 2, none⟩ = some (.string (bs q.1)) := RQ 0 _ rfl
          have hup : Op.bytesLess (bs q.1).toList (bs p.1).toList = upB q.1 p.1 := upB_run _ _
          have HA : Hid (atB l k = (okP p && upB q.1 p.1)) := atB_succ HK.out HP.out HQm.out
          generalize upB q.1 p.1 = up at hup HA
          clear RQ c1 R2
          have q0 := NewW.cell c0
          have q2 := NewW.cell c2
          have hne := NewW.ne W2
          cases up
          all_goals
            refine region_new W2 (New.refl W2) (by kernel_rfl) (by kernel_rfl) ?_
            repeat (go_big_quiet_step (fail))
            refine wpQuiet_nil ?_
            rintro W3 ⟨⟨_, k3⟩, rfl⟩
            go_wp2_with fail
          · go_ret
            exact ⟨ret_bool (mayB_no HB.out hlt (by rw [HA.out, HO.out]; rfl)).symm, NW.trans k3⟩
          · go_roundw
            case rel =>
              refine ⟨k + 1, by omega, by go_num, fun j hj => ?_, NW.trans k3⟩
              by_cases e : j = k
              · subst e
                rw [HA.out, HO.out]; rfl
              · exact hall.out j (by omega)
            case measure => simp [intOf]; omega
      · have hok' : okP p = false := by simpa using hok
        rw [hok'] at hor
        have HN : Hid (mayB l = false) := mayB_no HB.out hlt (atB_bad HP.out hok')
        clear hok hok'
        go_wp2_with (first
          | refine wpList_load_mid (by rfl) 25 _ (by rfl) g (o + k * 2) (by rfl) (prC p) _ R2 Tryd.underlying25 rfl i52 ?_
          | (refine wpList_alloc_new (by rfl) 25 (by rfl) _ _ _ info52 ?_; intro W1 R1 M1)
          | (refine wpList_store_new (by rfl) 25 _ _ (by rfl) wr.heap.size (prC p).toArray (by rfl) (by rfl) 25 _ R1 i52 rfl (pr_all p) ?_; intro W2 R2 B2; have c0 : W2.cell? ⟨wr.heap.size, 0, none⟩ = some (.string (bs p.1)) := R2.cell 0; have c1 : W2.cell? ⟨wr.heap.size, 1, none⟩ = some (.string (bs p.2)) := R2.cell 1; have NW : New w W2 := B2.new (N.trans M1) N.size))
        all_goals go_ret
        all_goals exact ⟨ret_bool HN.out.symm, NW⟩
    · go_wp2_with fail
      go_ret
      refine ⟨ret_bool ?_, N⟩
      refine ((HB.out).2 fun i hi => hall.out i (by omega)).symm

end Go.Proofs.YtjpjcojabjkaaaaDoor
namespace Go.Proofs.YtjpjcojabjkaaaaDoor
open Go.RowKit
set_option maxRecDepth 20000

theorem less_total : ∀ a b : Bt, (Op.bytesLess a b || (a == b)) = !Op.bytesLess b a
  | [], [] => rfl
  | _ :: _, [] => rfl
  | [], _ :: _ => rfl
  | a :: l, b :: m => by
    rw [less_cons, less_cons, Bool.eq_iff_iff]
    have ih := less_total l m
    rw [Bool.eq_iff_iff] at ih
    simp only [Bool.or_eq_true, Bool.and_eq_true, decide_eq_true_eq, Bool.not_eq_true', Bool.or_eq_false_iff, Bool.and_eq_false_iff, decide_eq_false_iff_not, beq_iff_eq, List.cons.injEq, ← UInt8.toNat_inj] at ih ⊢
    constructor
    · rintro ((h | ⟨h, h2⟩) | ⟨h, h2⟩)
      · exact ⟨by omega, .inl (by omega)⟩
      · exact ⟨by omega, .inr (ih.1 (.inl h2))⟩
      · exact ⟨by omega, .inr (ih.1 (.inr h2))⟩
    · rintro ⟨h1, h | h⟩
      · exact .inl (.inl (by omega))
      · by_cases e : a.toNat = b.toNat
        · rcases ih.2 h with h | h
          · exact .inl (.inr ⟨e, h⟩)
          · exact .inr ⟨e, h⟩
        · exact .inl (.inl (by omega))
theorem leq_run (a b : Bt) : (Op.bytesLess (bs a).toList (bs b).toList || ((bs a).toList == (bs b).toList)) = !upB b a := by
  rw [toList_L, toList_L, L_bs, L_bs]; exact less_total a b
theorem ok_bits (p : Pr) {b1 b2 b3 : Bool} (h1 : decide ((bs p.1).size < 1) = b1) (h2 : decide (8 < (bs p.1).size) = b2) (h3 : decide (16 < (bs p.2).size) = b3) : okP p = !(b1 || b2 || b3) := by
  subst h1 h2 h3
  rw [bs_size, bs_size]
  unfold okP
  rw [Bool.eq_iff_iff]
  simp only [Bool.or_eq_false_iff, Bool.not_eq_true', Bool.and_eq_true, decide_eq_true_eq, decide_eq_false_iff_not]
  omega
theorem nat_int {a b : Nat} {c : Bool} (h : decide (a < b) = c) : decide ((a : Int) < (b : Int)) = c := by
  rw [← h, Bool.eq_iff_iff, decide_eq_true_eq, decide_eq_true_eq]; omega

set_option maxHeartbeats 2000000 in
theorem refMay_any {w : World} {v : Value} {l : List Pr} (P : Ls w 2 v (l.map prC)) (hl : l.length ≤ 10000) (hk : ∀ p ∈ l, p.1.length ≤ 4000 ∧ p.2.length ≤ 4000) :
    Calls Tryd.prog 17 #[v] w fun e w' => e = .returned (.bool (mayB l)) ∧ New w w' := by
  obtain ⟨a, c, rfl, hc, HS⟩ := P.open ([], [])
  have HM : Hid (∀ i, i < l.length → (l.getD i ([], [])).1.length ≤ 4000 ∧ (l.getD i ([], [])).2.length ≤ 4000) := fun i h => hk _ (getD_mem h)
  have HB : Hid (mayB l = true ↔ ∀ i, i < l.length → atB l i = true) := mayB_iff l
  clear hk P
  go_enter Tryd.func17, Tryd.ntmps17
  go_wp2_with fail
  go_loopw [3] (fun i wr => ∃ k : Nat, k ≤ l.length ∧ i = .int .i64 (k : Int) ∧ Hid (∀ j, j < k → atB l j = true) ∧ New w wr) (fun i _ => l.length - (intOf i).toNat)
  case atStart => exact ⟨0, by omega, rfl, fun j h => absurd h (by omega), New.refl w⟩
  case round =>
    obtain ⟨k, hk, rfl, hall, N⟩ := hrel
    by_cases hlt : k < l.length
    · obtain ⟨g, o, rfl, hg, hr⟩ := HS.out (by omega)
      have R2 := hr wr N k hlt
      obtain ⟨p, hp⟩ : ∃ p, l.getD k ([], []) = p := ⟨_, rfl⟩
      have HP : Hid (l.getD k ([], []) = p) := hp
      rw [hp] at R2
      clear hp
      have HQ : Hid (∀ W, New w W → ∀ i, i < l.length → W.rangeAt g (o + i * 2) (prC (l.getD i ([], [])))) := hr
      clear hr
      have q0 := NewW.cell (W := wr) (g := g) (o := o + k * 2) (v := .string (bs p.1)) (R2 0 _ rfl)
      have q1 := NewW.cell (W := wr) (g := g) (o := o + k * 2 + 1) (v := .string (bs p.2)) (R2 1 _ rfl)
      clear R2
      have hne := NewW.ne wr
      obtain ⟨b1, h1⟩ : ∃ b, decide ((bs p.1).size < 1) = b := ⟨_, rfl⟩
      obtain ⟨b2, h2⟩ : ∃ b, decide (8 < (bs p.1).size) = b := ⟨_, rfl⟩
      obtain ⟨b3, h3⟩ : ∃ b, decide (16 < (bs p.2).size) = b := ⟨_, rfl⟩
      have HO : Hid (okP p = !(b1 || b2 || b3)) := ok_bits p h1 h2 h3
      have i1 : decide (((bs p.1).size : Int) < 1) = b1 := nat_int h1
      have i2 : decide ((8 : Int) < ((bs p.1).size : Int)) = b2 := nat_int h2
      have i3 : decide ((16 : Int) < ((bs p.2).size : Int)) = b3 := nat_int h3
      by_cases hb : (b1 || b2 || b3) = true
      · have HN : Hid (mayB l = false) := mayB_no HB.out hlt (atB_bad HP.out (by rw [HO.out, hb]; rfl))
        cases b1 <;> cases b2 <;> cases b3
        case false.false.false => cases hb
        all_goals
          clear hb
          go_wp2_with fail
          refine region_new wr (New.refl wr) (by kernel_rfl) (by kernel_rfl) ?_
          repeat (go_big_quiet_step (fail))
          refine wpQuiet_nil ?_
          rintro W3 ⟨⟨_, k3⟩, rfl⟩
          go_wp2_with fail
          go_ret
          exact ⟨ret_bool HN.out.symm, N.trans k3⟩
      · obtain ⟨rfl, rfl, rfl⟩ : b1 = false ∧ b2 = false ∧ b3 = false := by cases b1 <;> cases b2 <;> cases b3 <;> simp at hb ⊢
        clear hb
        by_cases hk0 : k = 0
        · have hd0 : decide ((0 : Int) < (k : Int)) = false := decide_eq_false (by omega)
          have hd1 : decide (0 < k) = false := decide_eq_false (by omega)
          have HK : Hid (k = 0) := hk0
          clear hk0
          go_wp2_with fail
          refine region_new wr (New.refl wr) (by kernel_rfl) (by kernel_rfl) ?_
          repeat (go_big_quiet_step (fail))
          refine wpQuiet_nil ?_
          rintro W3 ⟨⟨_, k3⟩, rfl⟩
          go_wp2_with fail
          go_roundw
          case rel =>
            refine ⟨k + 1, by omega, by go_num, fun j hj => ?_, N.trans k3⟩
            by_cases e : j = k
            · subst e
              exact atB_zero HK.out HP.out HO.out
            · exact hall.out j (by omega)
          case measure => simp [intOf]; omega
        · obtain ⟨m, hm⟩ : ∃ m, k = m + 1 := ⟨k - 1, by omega⟩
          have hd0 : decide ((0 : Int) < (k : Int)) = true := decide_eq_true (by omega)
          have hd1 : decide (0 < k) = true := decide_eq_true (by omega)
          have hkm : (k : Int) - 1 = (m : Int) := by omega
          have hml : m < l.length := by omega
          have HK : Hid (k = m + 1) := hm
          clear hk0 hm
          obtain ⟨q, hq⟩ : ∃ q, l.getD m ([], []) = q := ⟨_, rfl⟩
          have HQm : Hid (l.getD m ([], []) = q) := hq
          clear hq
          have RQ := HQ.out wr N m hml
          rw [HQm.out] at RQ
          have q2 := NewW.cell (W := wr) (g := g) (o := o + m * 2) (v := .string (bs q.1)) (RQ 0 _ rfl)
          have hup := leq_run p.1 q.1
          have HA : Hid (atB l k = (okP p && upB q.1 p.1)) := atB_succ HK.out HP.out HQm.out
          generalize upB q.1 p.1 = up at hup HA
          clear RQ
          cases up
          all_goals
            go_wp2_with fail
            refine region_new wr (New.refl wr) (by kernel_rfl) (by kernel_rfl) ?_
            repeat (go_big_quiet_step (fail))
            refine wpQuiet_nil ?_
            rintro W3 ⟨⟨_, k3⟩, rfl⟩
            go_wp2_with fail
          · go_ret
            exact ⟨ret_bool (mayB_no HB.out hlt (by rw [HA.out, HO.out]; rfl)).symm, N.trans k3⟩
          · go_roundw
            case rel =>
              refine ⟨k + 1, by omega, by go_num, fun j hj => ?_, N.trans k3⟩
              by_cases e : j = k
              · subst e
                rw [HA.out, HO.out]; rfl
              · exact hall.out j (by omega)
            case measure => simp [intOf]; omega
    · go_wp2_with fail
      go_ret
      refine ⟨ret_bool ?_, N⟩
      refine ((HB.out).2 fun i hi => hall.out i (by omega)).symm

end Go.Proofs.YtjpjcojabjkaaaaDoor
namespace Go.Proofs.YtjpjcojabjkaaaaDoor
open Go.RowKit
set_option maxRecDepth 20000

theorem made_flat (z : Array Value) (n : Nat) (hz : 0 < z.size) : (madeCells z (n * z.size)).toList = (List.replicate n z.toList).flatten := by
  have he : ∀ e ∈ List.replicate n z.toList, e.length = z.size := fun e h => by rw [(List.mem_replicate.1 h).2, Array.length_toList]
  apply List.ext_getElem?
  intro j
  by_cases hj : j < n * z.size
  · have hd : j / z.size < n := (Nat.div_lt_iff_lt_mul hz).2 hj
    have h1 := flat_cell he (i := j / z.size) (by rw [List.length_replicate]; exact hd) (j := j % z.size) (Nat.mod_lt _ hz)
    have h2 : j / z.size * z.size + j % z.size = j := by rw [Nat.mul_comm]; exact Nat.div_add_mod j z.size
    rw [h2, List.getElem_replicate] at h1
    have hm := Nat.mod_lt j hz
    rw [h1]
    unfold madeCells
    simp [hj, hm]
  · rw [List.getElem?_eq_none (by rw [Array.length_toList, size_madeCells]; omega), List.getElem?_eq_none (by rw [flat_length he, List.length_replicate]; omega)]
theorem run_make_pl (w : World) (T t : TypeId) (z : Value) (n k b : Nat) (hT : Tryd.prog.underlying T = some (.slice t)) (hi : (Tryd.prog.info? t).map (fun i => (i.zero, i.size, i.bytes)) = some (some z, k, b)) (hz : z.cells.size = k) (hk : 0 < k) (hn : n ≤ 1000000) (hb : b ≤ 1000) :
    ∃ W, (Instr.makeSlice T (.int .i64 (n : Int)) (.int .i64 (n : Int))).run Tryd.prog w = .ok (.slice (some ⟨w.heap.size, 0, none⟩) n n) W ∧ Pl W (fun g => g = w.heap.size) t k (.slice (some ⟨w.heap.size, 0, none⟩) n n) (List.replicate n z.cells.toList) ∧ New w W := by
  obtain ⟨i0, hi0, hz0, hz1, hz2⟩ := info_parts hi
  have hbb : b * n ≤ 1000 * 1000000 := Nat.mul_le_mul hb hn
  have h := run_make (P := Tryd.prog) w T t i0 z hT hi0 hz0 .i64 .i64 (n : Int) (n : Int) (by omega) (by omega) (by rw [hz2, ← Int.natCast_mul]; omega) (by omega)
  rw [Int.toNat_natCast, hz1] at h
  refine ⟨_, h, ?_, (New.refl w).alloc _⟩
  subst hz
  have := Pl.make (w := w.alloc (.cells (madeCells z.cells (n * z.cells.size)) t)) (F := fun g => g = w.heap.size) (t := t) (k := z.cells.size) (g := w.heap.size) (c := n) (es := List.replicate n z.cells.toList) (cur := madeCells z.cells (n * z.cells.size))
    (fun e h => by rw [(List.mem_replicate.1 h).2, Array.length_toList]) (Row.new w _ t) (by rw [List.length_replicate]; exact Nat.le_refl _) (by unfold maxLen; omega) (size_madeCells _ _) (by
      rw [List.length_replicate, made_flat _ _ hk, List.take_of_length_le]
      rw [flat_length (k := z.cells.size) (fun e h => by rw [(List.mem_replicate.1 h).2, Array.length_toList]), List.length_replicate]; exact Nat.le_refl _) rfl
  rw [List.length_replicate] at this
  exact this
theorem run_make_cap (w : World) (T t : TypeId) (z : Value) (n k b : Nat) (hT : Tryd.prog.underlying T = some (.slice t)) (hi : (Tryd.prog.info? t).map (fun i => (i.zero, i.size, i.bytes)) = some (some z, k, b)) (hz : z.cells.size = k) (hk : 0 < k) (hn : n ≤ 1000000) (hb : b ≤ 1000) :
    ∃ W v, (Instr.makeSlice T (.int .i64 0) (.int .i64 (n : Int))).run Tryd.prog w = .ok v W ∧ Pl W (Fresh w) t k v [] ∧ New w W := by
  obtain ⟨i0, hi0, hz0, hz1, hz2⟩ := info_parts hi
  have hbb : b * n ≤ 1000 * 1000000 := Nat.mul_le_mul hb hn
  have h := run_make (P := Tryd.prog) w T t i0 z hT hi0 hz0 .i64 .i64 0 (n : Int) (by omega) (by omega) (by rw [hz2, ← Int.natCast_mul]; omega) (by omega)
  rw [Int.toNat_natCast, hz1] at h
  refine ⟨_, _, h, ?_, (New.refl w).alloc _⟩
  subst hz
  exact Pl.make (w := w.alloc (.cells (madeCells z.cells (n * z.cells.size)) t)) (F := Fresh w) (t := t) (k := z.cells.size) (g := w.heap.size) (c := n) (es := []) (cur := madeCells z.cells (n * z.cells.size))
    (fun e h => by simp at h) (Row.new w _ t) (Nat.zero_le _) (by unfold maxLen; omega) (size_madeCells _ _) (by simp) (Nat.le_refl _)

theorem take_more {α : Type} {l : List α} {k : Nat} {d p : α} (h : k < l.length) (hp : l.getD k d = p) : l.take (k + 1) = l.take k ++ [p] := by
  rw [List.take_add_one, List.getElem?_eq_getElem h]
  rw [List.getD_eq_getElem?_getD, List.getElem?_eq_getElem h] at hp
  rw [← hp]; rfl
/-- Slices of the call's own that grow. -/
theorem Pl.fresh {w w2 : World} {F : Nat → Prop} {t : TypeId} {k : Nat} {v : Value} {es : List (List Value)} (h : Pl w2 F t k v es) (hF : ∀ b, F b → w.heap.size ≤ b) : Pl w2 (Fresh w) t k v es := h.mono fun b hb _ => hF b hb
theorem fields52 : (match Tryd.prog.underlying 25 with | some (.struct fields) => fields.toList.mapM (fun f => (Tryd.prog.info? f.type).map fun i => (f.offset, i.size)) | _ => none) = some [(0, 1), (1, 1)] := by kernel_rfl
theorem built52 (a b : ByteArray) : Tryd.prog.built 25 [(0, .string a), (1, .string b)] = some #[.string a, .string b] := by kernel_rfl

theorem run_build52 (a b : ByteArray) (w : World) : (Instr.build 25 #[(0, .string a), (1, .string b)]).run Tryd.prog w = .ok (.agg #[.string a, .string b]) w := by kernel_rfl
/-- The worlds in which the two cells of a block have these values. -/
structure TwoW (b : Nat) (x y : Value) where
  v : World
  h0 : v.cell? ⟨b, 0, none⟩ = some x
  h1 : v.cell? ⟨b, 1, none⟩ = some y
def HasTwo (b : Nat) (x y : Value) (w : World) : Prop := ∃ q : TwoW b x y, w = q.v
theorem HasTwo.of {b : Nat} {x y : Value} {w : World} (h : w.cell? ⟨b, 0, none⟩ = some x) (k : w.cell? ⟨b, 1, none⟩ = some y) : HasTwo b x y w := ⟨⟨w, h, k⟩, rfl⟩
theorem HasTwo.new {b : Nat} {x y : Value} {w w' : World} (h : HasTwo b x y w) (hb : b < w.heap.size) (n : New w w') : HasTwo b x y w' := by
  obtain ⟨⟨_, h0, h1⟩, rfl⟩ := h
  exact HasTwo.of ((n.cell hb).trans h0) ((n.cell hb).trans h1)

set_option maxHeartbeats 1000000 in
theorem byNibbles_any {w : World} {v : Value} {l : List Pr} (P : Ls w 2 v (l.map prC)) (hl : l.length ≤ 10000) (hk : ∀ p ∈ l, p.1.length ≤ 4000 ∧ p.2.length ≤ 4000) :
    Calls Tryd.prog 57 #[v] w fun e w' => ∃ v', e = .returned v' ∧ Pl w' (Fresh w) 25 2 v' ((l.map halfP).map prC) ∧ New w w' := by
  obtain ⟨a, c, rfl, hc, HS⟩ := P.open ([], [])
  have HM : Hid (∀ i, i < l.length → (l.getD i ([], [])).1.length ≤ 4000 ∧ (l.getD i ([], [])).2.length ≤ 4000) := fun i h => hk _ (getD_mem h)
  obtain ⟨W0, v0, hmk, Q0, N0⟩ := run_make_cap w 26 25 _ l.length 2 32 Tryd.underlying26 info52 rfl (by decide) (by omega) (by decide)
  have HQ0 : Hid (Pl W0 (Fresh w) 25 2 v0 [] ∧ New w W0) := ⟨Q0, N0⟩
  clear hk P Q0 N0
  go_enter Tryd.func57, Tryd.ntmps57
  go_wp2_with fail
  clear hmk
  go_loopw [3, 11] (fun s i wr => ∃ k : Nat, k ≤ l.length ∧ i = .int .i64 (k : Int) ∧ Pl wr (Fresh w) 25 2 s (((l.take k).map halfP).map prC) ∧ New w wr) (fun _ i _ => l.length - (intOf i).toNat)
  case atStart => exact ⟨0, by omega, rfl, HQ0.out.1, HQ0.out.2⟩
  case round =>
    obtain ⟨k, hk, rfl, Q, N⟩ := hrel
    by_cases hlt : k < l.length
    · obtain ⟨g, o, rfl, hg, hr⟩ := HS.out (by omega)
      have R2 := hr wr N k hlt
      have M0 := HM.out k hlt
      obtain ⟨p, hp⟩ : ∃ p, l.getD k ([], []) = p := ⟨_, rfl⟩
      have HP : Hid (l.getD k ([], []) = p) := hp
      rw [hp] at R2 M0
      clear hp hr
      have hql : (((l.take k).map halfP).map prC).length = k := by rw [List.length_map, List.length_map, List.length_take]; omega
      go_wp2_with (first
          | refine wpList_load_mid (by rfl) 25 _ (by rfl) g (o + k * 2) (by rfl) (prC p) _ R2 Tryd.underlying25 rfl i52 ?_
          | (refine wpList_alloc_new (by rfl) 25 (by rfl) _ _ _ info52 ?_; intro W1 R1 M1)
          | (refine wpList_store_new (by rfl) 25 _ _ (by rfl) wr.heap.size (prC p).toArray (by rfl) (by rfl) 25 _ R1 i52 rfl (pr_all p) ?_; intro W2 R2 B2; have c0 : W2.cell? ⟨wr.heap.size, 0, none⟩ = some (.string (bs p.1)) := R2.cell 0; have c1 : W2.cell? ⟨wr.heap.size, 1, none⟩ = some (.string (bs p.2)) := R2.cell 1; have NW : New wr W2 := B2.new M1 (Nat.le_refl _)))
      have HQ : Hid (Pl wr (Fresh w) 25 2 u3 (((l.take k).map halfP).map prC)) := Q
      have hof : ∀ W, Calls Tryd.prog 27 #[.string (bs p.1)] W fun e w' => e = .returned (.string (bs (ofL p.1))) ∧ New W w' := fun W => of_any (bs p.1) (by rw [bs_size]; have := M0.1; omega) W
      have hS : HasTwo wr.heap.size (.string (bs p.1)) (.string (bs p.2)) W2.drew := HasTwo.of c0 c1
      have hb2 : wr.heap.size < W2.heap.size := R2.lt
      clear Q c0 c1
      go_simp
      refine region_take [0, 1, 2, 4, 5] [3, 6, 7, 8] 9 (HasTwo wr.heap.size (.string (bs p.1)) (.string (bs p.2))) hS (by kernel_rfl) (by kernel_rfl) (fun d _ _ _ _ h => by cases d <;> exact h) ?_
      simp only [pick, List.getElem?_cons_succ, List.getElem?_cons_zero, Option.toList_some, List.cons_append, List.nil_append]
      have hne : Nonempty (TwoW wr.heap.size (.string (bs p.1)) (.string (bs p.2))) := ⟨hS.choose⟩
      have q0 : ∀ q : TwoW wr.heap.size (.string (bs p.1)) (.string (bs p.2)), q.v.cell? ⟨wr.heap.size, 0, none⟩ = some (.string (bs p.1)) := fun q => q.h0
      have q1 : ∀ q : TwoW wr.heap.size (.string (bs p.1)) (.string (bs p.2)), q.v.cell? ⟨wr.heap.size, 1, none⟩ = some (.string (bs p.2)) := fun q => q.h1
      unfold HasTwo
      repeat (go_big_quiet_step (fail))
      refine wpQuiet_nil ?_
      clear q0 q1 hne
      have NW0 : New W2 W2.drew := New.drew W2
      refine wpPre_call (some 18) 27 #[.string (bs p.1)] (by rfl) (by rfl) (by rfl) (by go_simp) ?_
      refine (hof _).mono ?_
      rintro _ W3 ⟨rfl, N3'⟩
      have hS3 := hS.new (by simpa using hb2) N3'
      have N3 : New W2 W3 := NW0.trans N3'
      refine ⟨_, rfl, hS3, ?_⟩
      simp only [Act.put, List.setIfInBounds_toArray, List.set_cons_zero, List.set_cons_succ]
      refine wpPre_run (some 21) (.agg (prC (halfP p)).toArray) W3 (by rfl) (by rfl) (by rfl) (exec_build2 (by rfl) (by rfl) (by rfl) (run_build52 _ _ _)) hS3 ?_
      simp only [Act.put, List.setIfInBounds_toArray, List.set_cons_zero, List.set_cons_succ]
      have hb1 := run_buildOne W3 26 25 (prC (halfP p)).toArray _ _ _ Tryd.underlying26 info52 rfl (by decide) (by decide)
      have R4 := Row.new W3 (prC (halfP p)).toArray 25
      have N4 : New W3 (W3.alloc (.cells (prC (halfP p)).toArray 25)) := (New.refl W3).alloc _
      generalize W3.alloc (.cells (prC (halfP p)).toArray 25) = W4 at hb1 R4 N4
      have hb3 : wr.heap.size < W3.heap.size := Nat.lt_of_lt_of_le hb2 N3.size
      have hS4 := hS3.new hb3 N4
      refine wpPre_run (some 22) _ W4 (by rfl) (by rfl) (by rfl) (exec_buildSlice (by rfl) (by rfl) hb1) hS4 ?_
      simp only [Act.put, List.setIfInBounds_toArray, List.set_cons_zero, List.set_cons_succ]
      have Q4 := ((HQ.out.after NW).after N3).after N4
      obtain ⟨g5, c5, W5, hap, Q5, G5⟩ := run_append_pl Q4 26 26 Tryd.underlying26 _ _ info52 rfl (by decide) W3.heap.size (prC (halfP p)) 25 R4 rfl (prC_one _) (by rw [hql]; omega) (by decide)
      rw [hql] at hap Q5
      have hS5 : HasTwo wr.heap.size (.string (bs p.1)) (.string (bs p.2)) W5 := by
        obtain ⟨⟨_, h0, h1⟩, rfl⟩ := hS4
        have hne : some wr.heap.size ≠ (u3 : Value).ownBlock := fun e => Nat.lt_irrefl _ (HQ.out.lt e.symm)
        exact HasTwo.of (G5.cell h0 hne) (G5.cell h1 hne)
      refine wpPre_run (some 23) _ W5 (by rfl) (by rfl) (by rfl) (exec_append (by rfl) (by rfl) (by rfl) hap) hS5 ?_
      simp only [Act.put, List.setIfInBounds_toArray, List.set_cons_zero, List.set_cons_succ]
      refine wpPre_nil ?_
      have N5 : New w W5 := ((N.trans NW).trans (N3.trans N4)).grown G5 fun b hb => HQ.out.foot b hb
      have hw := N.size
      have h1 := NW.size
      have h2 := N3.size
      have h3 := N4.size
      clear hap hb1
      go_wp2_with fail
      refine ⟨⟨k + 1, by omega, by go_num, ?_, N5⟩, by simp [intOf]; omega⟩
      have e : ((l.take (k + 1)).map halfP).map prC = ((l.take k).map halfP).map prC ++ [prC (halfP p)] := by
        rw [take_more hlt HP.out, List.map_append, List.map_append]; rfl
      rw [e]
      refine Q5.mono fun b hb _ => ?_
      rcases hb with hb | hb
      · exact hb
      · show w.heap.size ≤ b
        omega
    · go_wp2_with fail
      go_ret
      refine ⟨_, rfl, ?_, N⟩
      rw [show k = l.length by omega, List.take_length] at Q
      exact Q

end Go.Proofs.YtjpjcojabjkaaaaDoor
namespace Go.Proofs.YtjpjcojabjkaaaaDoor
open Go.RowKit
set_option maxRecDepth 20000

theorem info71 : (Tryd.prog.info? 101).map (fun i => (i.zero, i.size, i.bytes)) = some (some (.agg (Array.replicate 16 (.slice none 0 0))), 16, 384) := by kernel_rfl
theorem i71 : (Tryd.prog.info? 101).map (·.size) = some 16 := by kernel_rfl
theorem grp_suffix {r : List Pr} {n h : Nat} (hr : r.Pairwise (fun p q => nib p n ≤ nib q n)) (hh : ∀ p ∈ r, nib p n ≤ h) : r.drop (r.length - (grp r n h).length) = grp r n h := by
  have e := filter_step n h r hr
  have e2 : r.filter (fun p => decide (nib p n < h + 1)) = r := List.filter_eq_self.2 fun p hp => by have := hh p hp; simpa using by omega
  rw [e2] at e
  have hl : r.length - (grp r n h).length = (r.filter (fun p => decide (nib p n < h))).length := by
    have := congrArg List.length e
    rw [List.length_append] at this
    omega
  have key : ∀ A G : List Pr, r = A ++ G → r.drop A.length = G := by rintro A G rfl; exact List.drop_left
  rw [hl]; exact key _ _ e
theorem grp_more {r : List Pr} {p : Pr} {n h : Nat} : grp (r ++ [p]) n h = if nib p n = h then grp r n h ++ [p] else grp r n h := by
  unfold grp
  rw [List.filter_append]
  by_cases e : nib p n = h
  · rw [if_pos e, List.filter_cons_of_pos (by simpa using e)]; rfl
  · rw [if_neg e, List.filter_cons_of_neg (by simpa using e)]; simp
/-- The group that a pair comes to, as a piece of the row. -/
theorem grp_piece {l : List Pr} {n k h : Nat} {p : Pr} {d : Pr} (hs : l.Pairwise (fun p q => nib p n ≤ nib q n)) (hk : k < l.length) (hp : l.getD k d = p) (hh : nib p n = h) :
    grp (l.take (k + 1)) n h = (l.take (k + 1)).drop (k - (grp (l.take k) n h).length) ∧ (grp (l.take k) n h).length ≤ k := by
  have hle : (grp (l.take k) n h).length ≤ k := by
    have h1 : (grp (l.take k) n h).length ≤ (l.take k).length := List.length_filter_le _ _
    rw [List.length_take] at h1; omega
  have hlen : (l.take k).length = k := by rw [List.length_take]; omega
  have e := take_more hk hp
  have hs' : (l.take k).Pairwise (fun p q => nib p n ≤ nib q n) := hs.sublist (List.take_sublist _ _)
  have hall : ∀ q ∈ l.take k, nib q n ≤ h := by
    intro q hq
    have h2 : (l.take (k + 1)).Pairwise (fun p q => nib p n ≤ nib q n) := hs.sublist (List.take_sublist _ _)
    rw [e, List.pairwise_append] at h2
    rw [← hh]
    exact h2.2.2 q hq p (by simp)
  have hsf := grp_suffix hs' hall
  rw [hlen] at hsf
  refine ⟨?_, hle⟩
  rw [e, grp_more, if_pos hh, List.drop_append_of_le_length (by rw [hlen]; omega), hsf]
/-- A piece of a slice that is read. -/
theorem LsA.piece {w : World} {A : Nat → Prop} {g o c : Nat} {l : List Pr} (hA : A g) (hg : g < w.heap.size) (hr : ∀ i, i < l.length → w.rangeAt g (o + i * 2) (prC (l.getD i ([], [])))) {lo hi : Nat} (h1 : lo ≤ hi) (h2 : hi ≤ l.length) (h3 : hi - lo ≤ c) :
    LsA w A 2 (.slice (some ⟨g, o + lo * 2, none⟩) (hi - lo) c) (((l.take hi).drop lo).map prC) := by
  have hlen : (((l.take hi).drop lo).map prC).length = hi - lo := by rw [List.length_map, List.length_drop, List.length_take]; omega
  refine ⟨_, c, by rw [hlen], by omega, fun _ => ⟨g, o + lo * 2, rfl, hg, hA, fun i hi' j u hu => ?_⟩⟩
  rw [hlen] at hi'
  rw [List.getElem_map, List.getElem_drop, List.getElem_take] at hu
  have := hr (lo + i) (by omega) j u (by rw [List.getD_eq_getElem?_getD, List.getElem?_eq_getElem (show lo + i < l.length by omega)]; exact hu)
  rw [show o + lo * 2 + i * 2 = o + (lo + i) * 2 by rw [Nat.add_mul]; omega]
  exact this
theorem results_cell {P : Program} {fn : Func} {p : Tmp} {ty : TypeId} (h : fn.results = #[.cell p ty]) (tmps : Array Value) (w : World) (g : Nat) (t : TypeId) (cs : Array Value) (fr : Nat × Nat) (d : TypeDesc)
    (hp : tmps.getD p undef = .pointer (some ⟨g, 0, none⟩)) (hg : w.heap[g]? = some (.cells cs t fr))
    (hu : P.underlying ty = some d) (hd : d.isRow = true) (hi : (P.info? ty).map (·.size) = some cs.size) :
    (results fn tmps).run P w = .ok (.agg cs) w := by
  have hp' : tmps[p]?.getD undef = .pointer (some ⟨g, 0, none⟩) := by simpa using hp
  simp [results, h, hp', asAddr, run_loadVar_row w g t ty cs fr d hg hu (by cases d <;> first | rfl | cases hd) hi]

set_option maxHeartbeats 1000000 in
theorem split_any {w : World} {A : Nat → Prop} {v : Value} {l : List Pr} {n : Nat} (P : LsA w A 2 v (l.map prC)) (hl : l.length ≤ 10000) (hk : ∀ p ∈ l, n < p.1.length ∧ p.1.length ≤ 16) (hs : l.Pairwise (fun p q => nib p n ≤ nib q n)) (hn : ∀ p ∈ l, nib p n < 16) :
    Calls Tryd.prog 64 #[v, .int .i64 (n : Int)] w fun e w' => ∃ gs : List Value, e = .returned (.agg gs.toArray) ∧ gs.length = 16 ∧ (∀ h x, gs[h]? = some x → LsA w A 2 x ((grp l n h).map prC)) ∧ New w w' := by
  obtain ⟨a, c, rfl, hc, HS⟩ := P.open ([], [])
  have HM : Hid (∀ i, i < l.length → n < (l.getD i ([], [])).1.length ∧ (l.getD i ([], [])).1.length ≤ 16 ∧ nib (l.getD i ([], [])) n < 16) := fun i h => ⟨(hk _ (getD_mem h)).1, (hk _ (getD_mem h)).2, hn _ (getD_mem h)⟩
  have HO : Hid (l.Pairwise (fun p q => nib p n ≤ nib q n)) := hs
  clear hk P hs hn
  go_enter Tryd.func64, Tryd.ntmps64
  go_wp2_with (first
    | (refine wpList_alloc_at (by rfl) 4 (by rfl) 101 (by rfl) _ _ _ info71 ?_; intro W1 R1 N1)
    | (refine wpList_alloc_at (by rfl) 5 (by rfl) 101 (by rfl) _ _ _ info71 ?_; intro W2 R2 N2))
  have HR1 : Hid (Row W1 w.heap.size (Array.replicate 16 (.slice none 0 0)) 101) := R1
  have HR2 : Hid (Row W2 W1.heap.size (Array.replicate 16 (.slice none 0 0)) 101) := R2
  have hN1 : New w W1 := N1
  have hN2 : New w W2 := N1.trans N2
  have hsz1 : w.heap.size < W1.heap.size := R1.lt
  have hsz2 : W1.heap.size < W2.heap.size := R2.lt
  have HR1' : Hid (Row W2 w.heap.size (Array.replicate 16 (.slice none 0 0)) 101) := R1.after N2
  generalize W1.heap.size = B at *
  clear R1 R2 N1 N2 HR1 hN1
  go_loopw [11] (fun i wr => ∃ (k : Nat) (gs : List Value), k ≤ l.length ∧ i = .int .i64 (k : Int) ∧ gs.length = 16 ∧ Hid (∀ h x, gs[h]? = some x → LsA w A 2 x ((grp (l.take k) n h).map prC)) ∧
    Hid (Row wr B gs.toArray 101) ∧ Hid (Row wr w.heap.size (Array.replicate 16 (.slice none 0 0)) 101) ∧ New w wr) (fun i _ => l.length - (intOf i).toNat)
  case atStart =>
    refine ⟨0, List.replicate 16 (.slice none 0 0), Nat.zero_le _, rfl, rfl, fun h x hx => ?_, HR2.out, HR1'.out, hN2⟩
    rw [List.getElem?_replicate] at hx
    split at hx
    · obtain rfl := Option.some.inj hx
      exact ⟨none, 0, rfl, Nat.le_refl _, fun h => absurd rfl h⟩
    · cases hx
  case round =>
    clear HR1' HR2
    obtain ⟨k, gs, hk, rfl, hgl, hall, HRB, HRA, N⟩ := hrel
    have hBl : B < wr.heap.size := HRB.out.lt
    by_cases hlt : k < l.length
    · obtain ⟨g, o, rfl, hg, hA, hr⟩ := HS.out (by omega)
      have R2 := hr wr N k hlt
      have M0 := HM.out k hlt
      obtain ⟨p, hp⟩ : ∃ p, l.getD k ([], []) = p := ⟨_, rfl⟩
      have HP : Hid (l.getD k ([], []) = p) := hp
      rw [hp] at R2 M0
      obtain ⟨m1, m2, m3⟩ := M0
      have hnl : n < (bs p.1).size := by rw [bs_size]; exact m1
      have hn16 : n < 16 := by omega
      obtain ⟨h, hh⟩ : ∃ h, nib p n = h := ⟨_, rfl⟩
      have hx : ((bs p.1)[n]'hnl).toNat = h := by
        rw [← hh]; unfold nib
        rw [List.getD_eq_getElem?_getD, List.getElem?_eq_getElem m1]; rfl
      rw [hh] at m3
      have HG := grp_piece (d := ([], [])) HO.out hlt hp hh
      obtain ⟨z, hz⟩ : ∃ z, gs[h]? = some z := ⟨gs[h]'(by omega), List.getElem?_eq_getElem (by omega)⟩
      have HZ : Hid (gs[h]? = some z) := hz
      obtain ⟨az, cz, hzf, _⟩ := hall.out h z hz
      rw [List.length_map] at hzf
      have HGG : Hid (grp (l.take (k + 1)) n h = (l.take (k + 1)).drop (k - (grp (l.take k) n h).length)) := HG.1
      have hle := HG.2
      obtain ⟨m, hm⟩ : ∃ m, (grp (l.take k) n h).length = m := ⟨_, rfl⟩
      have HMM : Hid ((grp (l.take k) n h).length = m) := hm
      rw [hm] at hzf hle
      subst hzf
      obtain ⟨lo, hlo⟩ : ∃ lo, k - m = lo := ⟨_, rfl⟩
      have hkm : (k : Int) - (m : Int) = (lo : Int) := by omega
      have HLO : Hid (k - m = lo ∧ m ≤ k) := ⟨hlo, hle⟩
      have HH : Hid (nib p n = h) := hh
      clear hp hz HG hm hlo hle hh m2
      have hx' : ((h : Int)) < 16 := by omega
      have hlk : (lo : Int) ≤ (k : Int) + 1 := by have := HLO.out; omega
      have hkc : (k : Int) + 1 ≤ (c : Int) := by omega
      have cz : wr.cell? ⟨B, h, none⟩ = some (.slice az m cz) := HRB.out.has h (by simpa using HZ.out)
      go_wp2_with (first
          | refine wpList_load_mid (by rfl) 25 _ (by rfl) g (o + k * 2) (by rfl) (prC p) _ R2 Tryd.underlying25 rfl i52 ?_
          | (refine wpList_alloc_new (by rfl) 25 (by rfl) _ _ _ info52 ?_; intro W1 R1 M1)
          | (refine wpList_store_new (by rfl) 25 _ _ (by rfl) wr.heap.size (prC p).toArray (by rfl) (by rfl) 25 _ R1 i52 rfl (pr_all p) ?_; intro W3 R3 B3; have c0 : W3.cell? ⟨wr.heap.size, 0, none⟩ = some (.string (bs p.1)) := R3.cell 0; have NW : New wr W3 := B3.new M1 (Nat.le_refl _); have cz3 := (NW.cell (p := ⟨B, h, none⟩) hBl).trans cz; have fz3 := (HRB.out.after NW).frozen h))
      have hBne : B ≠ wr.heap.size := by omega
      have hwN := N.size
      refine ⟨⟨k + 1, gs.set h (.slice (some ⟨g, o + lo * 2, none⟩) (k + 1 - lo) (c - lo)), by omega, by go_num, by rw [List.length_set]; exact hgl, fun h' x' hx' => ?_, ?_, ?_, ?_⟩, by simp [intOf]; omega⟩
      · by_cases e : h = h'
        · subst e
          rw [List.getElem?_set_self (by omega)] at hx'
          obtain rfl := Option.some.inj hx'
          rw [HGG.out, HMM.out, HLO.out.1]
          exact LsA.piece hA hg (fun i hi => hr w (New.refl w) i hi) (by have := HLO.out; omega) (by omega) (by have := HLO.out; omega)
        · rw [List.getElem?_set_ne e] at hx'
          rw [take_more hlt HP.out, grp_more, if_neg (by rw [HH.out]; exact e)]
          exact hall.out h' x' hx'
      · have := (HRB.out.after NW).set h (.slice (some ⟨g, o + lo * 2, none⟩) (k + 1 - lo) (c - lo))
        rw [List.setIfInBounds_toArray] at this
        exact this
      · refine (HRA.out.after NW).of (Below.heap_setCell _ _ _ _ ?_)
        intro e; have := hsz1; simp at e; omega
      · exact (N.trans NW).setCell (a := ⟨B, h, none⟩) (by simp; omega) _
    · have h1 : gs.toArray.all (·.oneCell') = true := all_oneCell_toArray fun v hv => by
        obtain ⟨h, hh⟩ := List.getElem?_of_mem hv
        obtain ⟨a, c, e, _⟩ := hall.out h v hh
        rw [e]; rfl
      go_wp2_with (first
        | refine wpList_load_row (by rfl) 101 _ (by rfl) B (by rfl) 101 gs.toArray (0, 0) _ HRB.out Tryd.underlying101 rfl (by rw [List.size_toArray, hgl]; exact i71) ?_
        | (refine wpList_store_new (by rfl) 101 _ _ (by rfl) w.heap.size gs.toArray (by rfl) (by rfl) 101 _ HRA.out (by rw [List.size_toArray, hgl]; exact i71) (by simp [hgl]) h1 ?_; intro W5 R5 B5))
      refine bodyPost_ret (v := .agg gs.toArray) (results_cell (by rfl) _ _ w.heap.size 101 gs.toArray (0, 0) _ (by rfl) R5 Tryd.underlying101 rfl (by rw [List.size_toArray, hgl]; exact i71)) rfl ⟨gs, rfl, hgl, fun h x hx => ?_, B5.new N (Nat.le_refl _)⟩
      have := hall.out h x hx
      rw [show k = l.length by omega, List.take_length] at this
      exact this

end Go.Proofs.YtjpjcojabjkaaaaDoor
