/-
  A region that draws its order: what reads is taken as soon as it may come up, while something is held; each other operation, a call too, where it alone may come up; what is held stays behind each.
-/
import Derived.Test.YtkcoclpbkealgaaDoorGac
namespace Go.Proofs.YtkcoclpbkealgaaDoor
open Go
set_option maxRecDepth 20000

section
variable {P : Program} {ops : Array Oper} {Q : Exit → Act → World → Prop} {md : Region.Mode} {S : World → Prop} {z : Nat}

/-- Those, and lengths, picks and signs too. -/
def readB2 (o : Oper) : Bool := readB o || match o.op with
  | .pick _ _ _ => true
  | .unOp _ _ _ => true
  | .call c => match c.callee with
    | .builtin b => match b with
      | .len => true
      | _ => false
    | _ => false
  | _ => false
theorem quiet_bindF {β : Type} {C : World → Prop} {w : World} {v : Value} {s : Sem β} {f : β → Value} (h : Oper.quietUpon P C w v ((do let x ← s; pure (Next.value (f x)) : Sem Next).run P w)) : (do let x ← s; pure (Next.value (f x)) : Sem Next).run P w = .ok (.value v) w := by
  rw [Sem.run_bind] at h ⊢
  simp only [Sem.run_pure] at h ⊢
  cases hs : s.run P w with
  | ok x w' =>
    rw [hs] at h
    simp only [Result.andThen, Oper.quietUpon] at h ⊢
    rw [h.1, h.2]
  | _ => rw [hs] at h; simp [Result.andThen, Oper.quietUpon] at h
theorem read_run2 {o : Oper} {a : Act} {w : World} {v : Value} (hr : readB2 o = true) (h : o.quietAt P a S w v) : (execOp a.eval o).run P w = .ok (.value v) w := by
  unfold readB2 at hr
  rw [Bool.or_eq_true] at hr
  rcases hr with hr | hr
  · exact read_run hr h
  · unfold Oper.quietAt at h
    unfold execOp at h ⊢
    cases ho : o.op with
    | pick c x y =>
      simp only [ho] at h ⊢
      exact quiet_bindF h
    | unOp op t x =>
      simp only [ho] at h ⊢
      exact quiet_bind h
    | call c =>
      cases hc : c.callee with
      | builtin b =>
        cases b
        all_goals first
          | (exfalso; simp [ho, hc] at hr; done)
          | skip
        simp only [ho, resolve, hc, invoke, builtin, Sem.run_bind, Sem.run_pure, Result.andThen_ok] at h ⊢
        exact quiet_value h
      | _ => simp [ho, hc] at hr
    | _ => simp [ho] at hr
theorem wpG.putAll {i : Nat} {oi : Oper} {v : Value} (hi : ops[i]? = some oi) (hsel : ∀ (j : Nat) (o : Oper) cs b, ops[j]? = some o → o.op ≠ .select cs b) (hQ : ∀ c a w, Q (.panic c) (a.put oi.dst v) w → Q (.panic c) a w)
    (hz : ops[z]? = none) : ∀ (n : Nat) (li : Array Bool) (a : Act) (w : World), Free md ops oi i li → i ∈ Region.ready md ops li → YieldsIf P ops S oi v a → S w →
      wpG P md ops Q S z n (li.setIfInBounds i true) (a.put oi.dst v) w → wpG P md ops Q S z (n + 1) li a w := by
  intro n
  induction n with
  | zero =>
    intro li a w _ hr hy hS H
    refine ⟨fun h => absurd (h ▸ hr) (List.not_mem_nil), fun j hj => ?_⟩
    by_cases e : j = i
    · exact e ▸ hy.wpOp hi hS ⟨fun _ => hS, H⟩
    · exact absurd (H.1 ▸ ready_mono hj e) (List.not_mem_nil)
  | succ n ih =>
    intro li a w hf hr hy hS H
    refine ⟨fun h => absurd (h ▸ hr) (List.not_mem_nil), fun j hj => ?_⟩
    by_cases e : j = i
    · exact e ▸ hy.wpOp hi hS ⟨fun _ => hS, H⟩
    · obtain ⟨hun, oj, hoj, _⟩ := mem_ready.1 hj
      have hjz : j ≠ z := fun h => by rw [h, hz] at hoj; cases hoj
      refine wpOp_mono (fun a' w' k => ?_) (wpOp_putIf hoj (hf j oj hoj e hun (ready_apart hr hj hoj)) (fun cs b => hsel i oi cs b hi) (fun cs b => hsel j oj cs b hoj) hQ hy (H.2 j (ready_mono hj e)))
      obtain ⟨hy', hS', H'⟩ := k
      rw [Array.setIfInBounds_comm _ _ (Ne.symm e)] at H'
      exact ⟨hS', ih _ a' w' (hf.set hj) (ready_mono hr (Ne.symm e)) hy' (hS' hjz) H'⟩

def readsAllB (md : Region.Mode) (ops : Array Oper) : List Nat → Array Bool → Bool
  | [], _ => true
  | k :: ks, li => (Region.ready md ops li).contains k && Region.free md ops li k && ((ops[k]?).map readB2).getD false && readsAllB md ops ks (li.setIfInBounds k true)
theorem wpG.readsAll {l : List Oper} (hs : Region.noSelect l.toArray = true) (hz : l.toArray[z]? = none) (hQ : ∀ d v c a w, Q (.panic c) (a.put d v) w → Q (.panic c) a w) : ∀ (rs : List Nat) (n : Nat) (li : Array Bool) (a : Act) (w : World), S w → insideB l.length rs = true → readsAllB md l.toArray rs li = true →
    wpQuiet P l.toArray S (fun a' => wpG P md l.toArray Q S z n (fullAt rs li) a' w) (pick l rs) a → wpG P md l.toArray Q S z (rs.length + n) li a w
  | [], n, li, a, w, hS, _, _, h => by rw [List.length_nil, Nat.zero_add]; exact h
  | k :: rs, n, li, a, w, hS, hin, hB, h => by
    simp only [insideB, List.all_cons, Bool.and_eq_true, decide_eq_true_eq] at hin
    obtain ⟨o, h0⟩ : ∃ o, l.toArray[k]? = some o := ⟨l[k]'hin.1, by rw [List.getElem?_toArray, List.getElem?_eq_getElem hin.1]⟩
    have h0' : l[k]? = some o := by rw [← List.getElem?_toArray]; exact h0
    simp only [readsAllB, Bool.and_eq_true, h0, Option.map_some, Option.getD_some] at hB
    obtain ⟨⟨⟨hr, hf⟩, hrd⟩, hB'⟩ := hB
    rw [pick, h0'] at h
    rw [show (k :: rs).length + n = (rs.length + n) + 1 by simp only [List.length_cons]; omega]
    have hgo : ∀ v, YieldsIf P l.toArray S o v a → wpQuiet P l.toArray S (fun a' => wpG P md l.toArray Q S z n (fullAt (k :: rs) li) a' w) (pick l rs) (a.put o.dst v) → wpG P md l.toArray Q S z (rs.length + n + 1) li a w := fun v hy hK =>
      wpG.putAll h0 (Region.noSelect_spec hs) (hQ _ _) hz _ li a w (Region.free_spec h0 hf) (by simpa using hr) hy hS (wpG.readsAll hs hz hQ rs n _ _ w hS hin.2 hB' hK)
    change (if Region.wanted o (yielded l.toArray a.tmps) then o.quiet P a S _ else _) at h
    split at h
    · rename_i hwt
      obtain ⟨v, hv, hK⟩ := h
      exact hgo v (.inl ⟨hwt, fun w' hw' => read_run2 hrd (hv w' hw')⟩) hK
    · rename_i hwt
      exact hgo undef (.inr ⟨by simpa using hwt, rfl⟩) h

/-- What reads, then one; and so on. -/
def wpSegs (P : Program) (l : List Oper) (Q : Exit → Act → World → Prop) (S : World → Prop) : List (List Nat × Nat) → Act → World → Prop
  | [], a, w => Q .normal a w
  | (rs, k) :: r, a, w => wpQuiet P l.toArray S (fun a' => wpOp P l.toArray Q k (fun a'' w'' => S w'' ∧ wpSegs P l Q S r a'' w'') a' w) (pick l rs) a
def segsB (md : Region.Mode) (l : List Oper) : List (List Nat × Nat) → Array Bool → Bool
  | [], li => (Region.ready md l.toArray li).isEmpty
  | (rs, k) :: r, li => insideB l.length rs && readsAllB md l.toArray rs li && (Region.ready md l.toArray (fullAt rs li) == [k]) && segsB md l r ((fullAt rs li).setIfInBounds k true)
def segsSize : List (List Nat × Nat) → Nat
  | [] => 0
  | (rs, _) :: r => rs.length + (segsSize r + 1)
theorem wpG.segs {l : List Oper} (hs : Region.noSelect l.toArray = true) (hz : l.toArray[z]? = none) (hQ : ∀ d v c a w, Q (.panic c) (a.put d v) w → Q (.panic c) a w) : ∀ (r : List (List Nat × Nat)) (li : Array Bool) (a : Act) (w : World), S w → segsB md l r li = true → wpSegs P l Q S r a w → wpG P md l.toArray Q S z (segsSize r) li a w
  | [], li, a, w, _, hB, h => by
    simp only [segsB, List.isEmpty_iff] at hB
    exact ⟨hB, h⟩
  | (rs, k) :: r, li, a, w, hS, hB, h => by
    simp only [segsB, Bool.and_eq_true, beq_iff_eq] at hB
    obtain ⟨⟨⟨h1, h2⟩, h3⟩, h4⟩ := hB
    refine wpG.readsAll hs hz hQ rs _ li a w hS h1 h2 (wpQuiet_mono' (fun a' hq => ?_) _ _ h)
    exact wpG.one k h3 (wpOp_mono (fun a'' w'' hq' => ⟨fun _ => hq'.1, wpG.segs hs hz hQ r _ a'' w'' hq'.1 h4 hq'.2⟩) hq)
def segsAllB (md : Region.Mode) (l : List Oper) (r : List (List Nat × Nat)) : Bool := Region.noSelect l.toArray && segsB md l r (Array.replicate l.toArray.size false) && (segsSize r == l.length)
theorem region_segs {id : Nat} {a : Act} {w : World} {l : List Oper} (r : List (List Nat × Nat)) (S : World → Prop) (hS : S w.drew) (hm : P.follows .mixedOrders = true) (hB : segsAllB .any l r = true) (hQ : ∀ d v c a w, Q (.panic c) (a.put d v) w → Q (.panic c) a w)
    (h : wpSegs P l Q S r a w.drew) : (Code.region id l.toArray true).wp P Q a w := by
  simp only [segsAllB, Bool.and_eq_true, beq_iff_eq] at hB
  obtain ⟨⟨h1, h2⟩, h3⟩ := hB
  refine wpG.region l.length S hm ?_
  have := wpG.segs (P := P) (Q := Q) (S := S) (z := l.length) (md := .any) h1 (by rw [List.getElem?_toArray]; exact List.getElem?_eq_none (Nat.le_refl _)) hQ r (Array.replicate l.toArray.size false) a w.drew hS h2 h
  rw [h3] at this
  exact this

/-- The worlds in which that row lies there. -/
structure RowW (g : Nat) (cs : Array Value) (t : TypeId) where
  v : World
  h : v.heap[g]? = some (.cells cs t)
def HasRow (g : Nat) (cs : Array Value) (t : TypeId) (w : World) : Prop := ∃ q : RowW g cs t, w = q.v

end
end Go.Proofs.YtkcoclpbkealgaaDoor
