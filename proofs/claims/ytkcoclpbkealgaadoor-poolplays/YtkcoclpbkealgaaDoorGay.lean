/-
  The same, with min and max among what reads.
-/
import Derived.Test.YtkcoclpbkealgaaDoorGax
namespace Go.Proofs.YtkcoclpbkealgaaDoor
open Go
set_option maxRecDepth 20000

section
variable {P : Program} {ops : Array Oper} {Q : Exit → Act → World → Prop} {md : Region.Mode} {S : World → Prop} {z : Nat}

def readB3 (o : Oper) : Bool := readB2 o || match o.op with
  | .call c => match c.callee with
    | .builtin b => match b with
      | .min => true
      | .max => true
      | _ => false
    | _ => false
  | _ => false
theorem read_run3 {o : Oper} {a : Act} {w : World} {v : Value} (hr : readB3 o = true) (h : o.quietAt P a S w v) : (execOp a.eval o).run P w = .ok (.value v) w := by
  unfold readB3 at hr
  rw [Bool.or_eq_true] at hr
  rcases hr with hr | hr
  · exact read_run2 hr h
  · unfold Oper.quietAt at h
    unfold execOp at h ⊢
    cases ho : o.op with
    | call c =>
      cases hc : c.callee with
      | builtin b =>
        cases b
        all_goals first
          | (exfalso; simp [ho, hc] at hr; done)
          | skip
        all_goals simp only [ho, resolve, hc, invoke, builtin, Sem.run_bind, Sem.run_pure, Result.andThen_ok] at h ⊢
        all_goals first | exact quiet_value h | exact quiet_bind h
      | _ => simp [ho, hc] at hr
    | _ => simp [ho] at hr
def readsMB (md : Region.Mode) (ops : Array Oper) : List Nat → Array Bool → Bool
  | [], _ => true
  | k :: ks, li => (Region.ready md ops li).contains k && Region.free md ops li k && ((ops[k]?).map readB3).getD false && readsMB md ops ks (li.setIfInBounds k true)
theorem wpG.readsMx {l : List Oper} (hs : Region.noSelect l.toArray = true) (hz : l.toArray[z]? = none) (hQ : ∀ d v c a w, Q (.panic c) (a.put d v) w → Q (.panic c) a w) : ∀ (rs : List Nat) (n : Nat) (li : Array Bool) (a : Act) (w : World), S w → insideB l.length rs = true → readsMB md l.toArray rs li = true →
    wpQuiet P l.toArray S (fun a' => wpG P md l.toArray Q S z n (fullAt rs li) a' w) (pick l rs) a → wpG P md l.toArray Q S z (rs.length + n) li a w
  | [], n, li, a, w, hS, _, _, h => by rw [List.length_nil, Nat.zero_add]; exact h
  | k :: rs, n, li, a, w, hS, hin, hB, h => by
    simp only [insideB, List.all_cons, Bool.and_eq_true, decide_eq_true_eq] at hin
    obtain ⟨o, h0⟩ : ∃ o, l.toArray[k]? = some o := ⟨l[k]'hin.1, by rw [List.getElem?_toArray, List.getElem?_eq_getElem hin.1]⟩
    have h0' : l[k]? = some o := by rw [← List.getElem?_toArray]; exact h0
    simp only [readsMB, Bool.and_eq_true, h0, Option.map_some, Option.getD_some] at hB
    obtain ⟨⟨⟨hr, hf⟩, hrd⟩, hB'⟩ := hB
    rw [pick, h0'] at h
    rw [show (k :: rs).length + n = (rs.length + n) + 1 by simp only [List.length_cons]; omega]
    have hgo : ∀ v, YieldsIf P l.toArray S o v a → wpQuiet P l.toArray S (fun a' => wpG P md l.toArray Q S z n (fullAt (k :: rs) li) a' w) (pick l rs) (a.put o.dst v) → wpG P md l.toArray Q S z (rs.length + n + 1) li a w := fun v hy hK =>
      wpG.putAll h0 (Region.noSelect_spec hs) (hQ _ _) hz _ li a w (Region.free_spec h0 hf) (by simpa using hr) hy hS (wpG.readsMx hs hz hQ rs n _ _ w hS hin.2 hB' hK)
    change (if Region.wanted o (yielded l.toArray a.tmps) then o.quiet P a S _ else _) at h
    split at h
    · rename_i hwt
      obtain ⟨v, hv, hK⟩ := h
      exact hgo v (.inl ⟨hwt, fun w' hw' => read_run3 hrd (hv w' hw')⟩) hK
    · rename_i hwt
      exact hgo undef (.inr ⟨by simpa using hwt, rfl⟩) h

def segsMB (md : Region.Mode) (l : List Oper) : List (List Nat × Nat) → Array Bool → Bool
  | [], li => (Region.ready md l.toArray li).isEmpty
  | (rs, k) :: r, li => insideB l.length rs && readsMB md l.toArray rs li && (Region.ready md l.toArray (fullAt rs li) == [k]) && segsMB md l r ((fullAt rs li).setIfInBounds k true)
theorem wpG.segsMx {l : List Oper} (hs : Region.noSelect l.toArray = true) (hz : l.toArray[z]? = none) (hQ : ∀ d v c a w, Q (.panic c) (a.put d v) w → Q (.panic c) a w) : ∀ (r : List (List Nat × Nat)) (li : Array Bool) (a : Act) (w : World), S w → segsMB md l r li = true → wpSegs P l Q S r a w → wpG P md l.toArray Q S z (segsSize r) li a w
  | [], li, a, w, _, hB, h => by
    simp only [segsMB, List.isEmpty_iff] at hB
    exact ⟨hB, h⟩
  | (rs, k) :: r, li, a, w, hS, hB, h => by
    simp only [segsMB, Bool.and_eq_true, beq_iff_eq] at hB
    obtain ⟨⟨⟨h1, h2⟩, h3⟩, h4⟩ := hB
    refine wpG.readsMx hs hz hQ rs _ li a w hS h1 h2 (wpQuiet_mono' (fun a' hq => ?_) _ _ h)
    exact wpG.one k h3 (wpOp_mono (fun a'' w'' hq' => ⟨fun _ => hq'.1, wpG.segsMx hs hz hQ r _ a'' w'' hq'.1 h4 hq'.2⟩) hq)
def segsAllMB (md : Region.Mode) (l : List Oper) (r : List (List Nat × Nat)) : Bool := Region.noSelect l.toArray && segsMB md l r (Array.replicate l.toArray.size false) && (segsSize r == l.length)
theorem region_segm {id : Nat} {a : Act} {w : World} {l : List Oper} (r : List (List Nat × Nat)) (S : World → Prop) (hS : S w.drew) (hm : P.follows .mixedOrders = true) (hB : segsAllMB .any l r = true) (hQ : ∀ d v c a w, Q (.panic c) (a.put d v) w → Q (.panic c) a w)
    (h : wpSegs P l Q S r a w.drew) : (Code.region id l.toArray true).wp P Q a w := by
  simp only [segsAllMB, Bool.and_eq_true, beq_iff_eq] at hB
  obtain ⟨⟨h1, h2⟩, h3⟩ := hB
  refine wpG.region l.length S hm ?_
  have := wpG.segsMx (P := P) (Q := Q) (S := S) (z := l.length) (md := .any) h1 (by rw [List.getElem?_toArray]; exact List.getElem?_eq_none (Nat.le_refl _)) hQ r (Array.replicate l.toArray.size false) a w.drew hS h2 h
  rw [h3] at this
  exact this

end
theorem wpQuiet_min {P : Program} {ops : Array Oper} {C : World → Prop} {Q : Act → Prop} {a : Act} {o : Oper} {rest : List Oper} (hw : Region.wanted o (yielded ops a.tmps) = true) (s t : Operand) (ho : o.op = .call { callee := .builtin .min, args := #[s, t], argTypes := #[3, 3] }) (x y k : Int) (hx : a.eval s = .int .i64 x) (hy : a.eval t = .int .i64 y)
    (hk : (if y < x then y else x) = k) (h : wpQuiet P ops C Q rest (a.put o.dst (.int .i64 k))) : wpQuiet P ops C Q (o :: rest) a :=
  BigFrame.wpQuiet_want hw fun K hK => ⟨.int .i64 k, fun w _ => by
    unfold Oper.quietAt execOp
    simp only [ho, resolve, invoke, builtin, Sem.run_bind, Sem.run_pure, Result.andThen_ok, List.map_toArray, List.map_cons, List.map_nil, hx, hy, run_min_int2, hk]
    exact ⟨rfl, rfl⟩, hK _ h⟩
theorem wpQuiet_max {P : Program} {ops : Array Oper} {C : World → Prop} {Q : Act → Prop} {a : Act} {o : Oper} {rest : List Oper} (hw : Region.wanted o (yielded ops a.tmps) = true) (s t : Operand) (ho : o.op = .call { callee := .builtin .max, args := #[s, t], argTypes := #[3, 3] }) (x y k : Int) (hx : a.eval s = .int .i64 x) (hy : a.eval t = .int .i64 y)
    (hk : (if y > x then y else x) = k) (h : wpQuiet P ops C Q rest (a.put o.dst (.int .i64 k))) : wpQuiet P ops C Q (o :: rest) a :=
  BigFrame.wpQuiet_want hw fun K hK => ⟨.int .i64 k, fun w _ => by
    unfold Oper.quietAt execOp
    simp only [ho, resolve, invoke, builtin, Sem.run_bind, Sem.run_pure, Result.andThen_ok, List.map_toArray, List.map_cons, List.map_nil, hx, hy, run_max_int2, hk]
    exact ⟨rfl, rfl⟩, hK _ h⟩
end Go.Proofs.YtkcoclpbkealgaaDoor
