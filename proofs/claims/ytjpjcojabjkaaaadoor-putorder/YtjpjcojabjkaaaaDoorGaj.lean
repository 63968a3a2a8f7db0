/-
  A node's cells: made, one of them set, within a row of nodes. An array that is a value, indexed by a letter. fork: a Branch and what is beneath it, where grow lays what is beneath each child. grow: the nodes of pairs laid behind others, by induction on how deep it may go; Build. Nodes gone through once, the pairs that they would make and what leads to each; of pairs' nodes these are the pairs, and what leads there. Plain mathematics.
-/
import Derived.Test.YtjpjcojabjkaaaaDoorGai
namespace Go.Proofs.YtjpjcojabjkaaaaDoor
open Go.RowKit
set_option maxRecDepth 20000

def ndA (m : Nd) : Array Value := (ndC m).toArray
theorem flatten_set {α : Type} {k : Nat} : ∀ {es : List (List α)} (i j : Nat) (e : List α) (u : α), (∀ x ∈ es, x.length = k) → es[i]? = some e → j < k → es.flatten.set (i * k + j) u = (es.set i (e.set j u)).flatten
  | [], i, j, e, u, _, h, _ => by simp at h
  | x :: es, 0, j, e, u, hk, h, hj => by
    obtain rfl := Option.some.inj h
    show (x ++ es.flatten).set (0 * k + j) u = x.set j u ++ es.flatten
    rw [Nat.zero_mul, Nat.zero_add, List.set_append_left _ _ (by rw [hk x (by simp)]; exact hj)]
  | x :: es, i + 1, j, e, u, hk, h, hj => by
    have hx := hk x (by simp)
    rw [List.getElem?_cons_succ] at h
    show (x ++ es.flatten).set ((i + 1) * k + j) u = x ++ (es.set i (e.set j u)).flatten
    rw [List.set_append_right _ _ (by rw [hx, Nat.succ_mul]; omega), hx, ← flatten_set i j e u (fun y hy => hk y (by simp [hy])) h hj, show (i + 1) * k + j - k = i * k + j by rw [Nat.succ_mul]; omega]
theorem Pl.setCell {w : World} {F : Nat → Prop} {t : TypeId} {k g n c : Nat} {es : List (List Value)} (h : Pl w F t k (.slice (some ⟨g, 0, none⟩) n c) es) {i j : Nat} {e : List Value} (he : es[i]? = some e) (hj : j < k) (u : Value) :
    Pl (w.setCell ⟨g, i * k + j, none⟩ u) F t k (.slice (some ⟨g, 0, none⟩) n c) (es.set i (e.set j u)) := by
  obtain ⟨cur, R, rfl, h4, h5, h6, h7⟩ := h.row
  have hi := (List.getElem?_eq_some_iff.1 he).1
  have hel := h.each e (List.mem_of_getElem? he)
  have hik : i * k + j < es.length * k := Nat.lt_of_lt_of_le (by omega : i * k + j < i * k + k) (by rw [← Nat.succ_mul]; exact Nat.mul_le_mul_right _ hi)
  have := Pl.make (w := w.setCell ⟨g, i * k + j, none⟩ u) (F := F) (t := t) (k := k) (g := g) (c := c) (es := es.set i (e.set j u)) (cur := cur.setIfInBounds (i * k + j) u) (fun x hx => by
      rcases List.mem_or_eq_of_mem_set hx with h1 | rfl
      · exact h.each x h1
      · rw [List.length_set]; exact hel) (R.set _ _) (by rw [List.length_set]; exact h4) h5 (by rw [Array.size_setIfInBounds]; exact h6) (by
      rw [List.length_set, Array.toList_setIfInBounds, ← flatten_set i j e u h.each he hj, ← h7, List.take_set]) (h.foot g rfl)
  rw [List.length_set] at this
  exact this
theorem Pl.cellAt {w : World} {F : Nat → Prop} {t : TypeId} {k g n c : Nat} {es : List (List Value)} (h : Pl w F t k (.slice (some ⟨g, 0, none⟩) n c) es) {i j : Nat} {e : List Value} {u : Value} (he : es[i]? = some e) (hj : e[j]? = some u) :
    w.cell? ⟨g, i * k + j, none⟩ = some u ∧ w.frozen? ⟨g, i * k + j, none⟩ = false := by
  obtain ⟨hi, rfl⟩ := List.getElem?_eq_some_iff.1 he
  obtain ⟨cur, R, _⟩ := h.row
  exact ⟨h.range hi j u hj, R.frozen _⟩

theorem kids_set (ks : List Int) (c : Nat) (x : Int) (m : Nd) (hm : m.kids = ks) : (ndC m).set (4 + c) (.int .i64 x) = ndC { m with kids := ks.set c x } := by
  subst hm
  unfold ndC
  rw [List.map_set, show 4 + c = c + 1 + 1 + 1 + 1 by omega, List.set_cons_succ, List.set_cons_succ, List.set_cons_succ, List.set_cons_succ]
theorem kids_get {m : Nd} {c : Nat} {x : Int} (h : m.kids[c]? = some x) : (ndC m)[4 + c]? = some (.int .i64 x) := by
  unfold ndC
  rw [show 4 + c = c + 1 + 1 + 1 + 1 by omega, List.getElem?_cons_succ, List.getElem?_cons_succ, List.getElem?_cons_succ, List.getElem?_cons_succ, List.getElem?_map, h]; rfl
theorem ndA_all (m : Nd) : (ndA m).all (·.oneCell') = true := all_oneCell_toArray (ndC_one m)
theorem ndA_size {m : Nd} (h : m.kids.length = 16) : (ndA m).size = 20 := by unfold ndA; rw [List.size_toArray, ndC_len h]

theorem built49_leaf (a b : ByteArray) : Tryd.prog.built 55 [(0, .int .i64 1), (1, .string a), (2, .bool true), (3, .string b)] = some #[.int .i64 1, .string a, .bool true, .string b, .int .i64 0, .int .i64 0, .int .i64 0, .int .i64 0, .int .i64 0, .int .i64 0, .int .i64 0, .int .i64 0, .int .i64 0, .int .i64 0, .int .i64 0, .int .i64 0, .int .i64 0, .int .i64 0, .int .i64 0, .int .i64 0] := by kernel_rfl
theorem built47_one (x : Int) : Tryd.prog.built 53 [(0, .int .i64 x)] = some #[.int .i64 x, .int .i64 0, .int .i64 0, .int .i64 0, .int .i64 0, .int .i64 0, .int .i64 0, .int .i64 0, .int .i64 0, .int .i64 0, .int .i64 0, .int .i64 0, .int .i64 0, .int .i64 0, .int .i64 0, .int .i64 0] := by kernel_rfl
theorem built49_ext (a : ByteArray) (x : Int) : Tryd.prog.built 55 [(0, .int .i64 2), (1, .string a), (4, .agg #[.int .i64 x, .int .i64 0, .int .i64 0, .int .i64 0, .int .i64 0, .int .i64 0, .int .i64 0, .int .i64 0, .int .i64 0, .int .i64 0, .int .i64 0, .int .i64 0, .int .i64 0, .int .i64 0, .int .i64 0, .int .i64 0])] = some #[.int .i64 2, .string a, .bool false, .string (bs []), .int .i64 x, .int .i64 0, .int .i64 0, .int .i64 0, .int .i64 0, .int .i64 0, .int .i64 0, .int .i64 0, .int .i64 0, .int .i64 0, .int .i64 0, .int .i64 0, .int .i64 0, .int .i64 0, .int .i64 0, .int .i64 0] := by kernel_rfl
theorem built49_br : Tryd.prog.built 55 [(0, .int .i64 3)] = some (ndA (brN false [] no16)) := by kernel_rfl
theorem leaf_cells (p v : Bt) : ndA (leafN p v) = #[.int .i64 1, .string (bs p), .bool true, .string (bs v), .int .i64 0, .int .i64 0, .int .i64 0, .int .i64 0, .int .i64 0, .int .i64 0, .int .i64 0, .int .i64 0, .int .i64 0, .int .i64 0, .int .i64 0, .int .i64 0, .int .i64 0, .int .i64 0, .int .i64 0, .int .i64 0] := rfl
theorem ext_cells (p : Bt) (x : Int) : ndA (extN p x) = #[.int .i64 2, .string (bs p), .bool false, .string (bs []), .int .i64 x, .int .i64 0, .int .i64 0, .int .i64 0, .int .i64 0, .int .i64 0, .int .i64 0, .int .i64 0, .int .i64 0, .int .i64 0, .int .i64 0, .int .i64 0, .int .i64 0, .int .i64 0, .int .i64 0, .int .i64 0] := rfl
section
variable {P : Program} {w : World} {ops : Array Oper} {rest : List Oper} {o : Oper} {a : Act} {Q : Exit → Act → World → Prop}
theorem wpList_build1 (hgd : o.guard = none) (t : TypeId) (x0 : Operand) (ho : o.op = .build t #[(0, x0)]) (v0 : Value) (h0 : a.eval x0 = v0) (cs : Array Value) (hb : P.built t [(0, v0)] = some cs)
    (h : wpList P ops Q rest (a.put o.dst (.agg cs)) w) : wpList P ops Q (o :: rest) a w := by
  have hv : ((#[(0, x0)] : Array (Nat × Operand)).map fun (i, x) => (i, a.eval x)).toList = [(0, v0)] := by simp [h0]
  refine wpList_build hgd t _ ho (by rw [hv, hb]; rfl) ?_
  rw [hv, hb]
  exact h
theorem wpList_build3x (hgd : o.guard = none) (t : TypeId) (x0 x1 x2 : Operand) (ho : o.op = .build t #[(0, x0), (1, x1), (4, x2)]) (v0 v1 v2 : Value) (h0 : a.eval x0 = v0) (h1 : a.eval x1 = v1) (h2 : a.eval x2 = v2) (cs : Array Value) (hb : P.built t [(0, v0), (1, v1), (4, v2)] = some cs)
    (h : wpList P ops Q rest (a.put o.dst (.agg cs)) w) : wpList P ops Q (o :: rest) a w := by
  have hv : ((#[(0, x0), (1, x1), (4, x2)] : Array (Nat × Operand)).map fun (i, x) => (i, a.eval x)).toList = [(0, v0), (1, v1), (4, v2)] := by simp [h0, h1, h2]
  refine wpList_build hgd t _ ho (by rw [hv, hb]; rfl) ?_
  rw [hv, hb]
  exact h
end
/-- Of the pairs' row what a call that changes F alone leaves. -/
theorem stay {w w' : World} {A F F' : Nat → Prop} (hA : ∀ g, A g → g < w.heap.size ∧ ¬ F g) (s : Step F F' w w') : ∀ g, A g → g < w'.heap.size ∧ ¬ F' g := fun g hg => by
  obtain ⟨h1, h2⟩ := hA g hg
  exact ⟨Nat.lt_of_lt_of_le h1 s.size, fun h => (s.foot g h).elim h2 (by omega)⟩

end Go.Proofs.YtjpjcojabjkaaaaDoor
namespace Go.Proofs.YtjpjcojabjkaaaaDoor
open Go.RowKit
set_option maxRecDepth 20000

theorem run_index71 (w : World) (gs : List Value) (k : Nat) (v : Value) (h : gs[k]? = some v) (hk : k < 16) : (Instr.index 101 (.agg gs.toArray) (.int .i64 (k : Int))).run Tryd.prog w = .ok v w := by
  simp [Instr.index, asIntOf, Tryd.sizeOf26, part, h, hk, Tryd.isAgg26]
theorem run_index47 (w : World) (gs : List Value) (k : Nat) (v : Value) (h : gs[k]? = some v) (hk : k < 16) : (Instr.index 53 (.agg gs.toArray) (.int .i64 (k : Int))).run Tryd.prog w = .ok v w := by
  simp [Instr.index, asIntOf, Tryd.sizeOf3, part, h, hk, Tryd.isAgg3]

end Go.Proofs.YtjpjcojabjkaaaaDoor
namespace Go.Proofs.YtjpjcojabjkaaaaDoor
open Go.RowKit
set_option maxRecDepth 20000

def cellsN (t : List NP) : List (List Value) := t.map fun m => ndC m.1
def GrowOk (f : Nat) : Prop := ∀ (w : World) (F A : Nat → Prop) (v pv : Value) (ts : List (List Value)) (l : List Pr) (n : Nat), 17 ≤ n + f → Fit l n → n ≤ 16 → Pl w F 55 20 v ts → LsA w A 2 pv (l.map prC) →
  (∀ g, A g → g < w.heap.size ∧ ¬ F g) → l.length ≤ 10000 → (∀ p ∈ l, p.2.length ≤ 4000) → ts.length + 3 * l.length + 2 * f ≤ 40000 →
  Calls Tryd.prog 56 #[v, pv, .int .i64 (n : Int)] w fun e w' => ∃ v' F', e = .returned v' ∧ Pl w' F' 55 20 v' (ts ++ cellsN (grow f l n ts.length)) ∧ Step F F' w w'
theorem ends_run {l : List Pr} {n : Nat} (h : l ≠ []) : (((bs (l.getD 0 ([], [])).1).size : Int) == (n : Int)) = endsB l n := by
  cases l with
  | nil => exact absurd rfl h
  | cons p r =>
    show (((bs p.1).size : Int) == (n : Int)) = decide (p.1.length = n)
    rw [bs_size, Bool.eq_iff_iff, beq_iff_eq, decide_eq_true_eq]; omega
theorem rest_false {l : List Pr} {n : Nat} (h : endsB l n = false) : restL l n = l ∧ headV l n = [] := by
  unfold restL headV; rw [h]; exact ⟨rfl, rfl⟩
theorem rest_true {l : List Pr} {n : Nat} (h : endsB l n = true) : restL l n = l.drop 1 ∧ headV l n = (l.getD 0 ([], [])).2 := by
  unfold restL headV; rw [h]
  cases l <;> exact ⟨rfl, rfl⟩

/-- A Branch's children so far. -/
def kst (f : Nat) (l : List Pr) (n b k : Nat) : List Int × List NP := kidsW (fun g => grow f g (n + 1)) (fun h => grp (restL l n) n h) (b + 1) k
/-- The nodes so far. -/
def sofar (f : Nat) (l : List Pr) (n b k : Nat) : List NP := (brN (endsB l n) (headV l n) (kst f l n b k).1, headP l n) :: (kst f l n b k).2
theorem kst_ok {f : Nat} {l : List Pr} {n : Nat} (K : Fork l n) (hn : 16 ≤ n + f) (b k : Nat) (hk : k ≤ 16) : Kds ((headK l).take n) (restL l n) n (b + 1) k (kst f l n b k) :=
  kidsW_ok _ K (b + 1) (by omega) (fun c _ hg b' => grow_blk f _ (n + 1) b' (by omega) (K.group c) hg) k hk
theorem kst_none {f : Nat} {l : List Pr} {n b k : Nat} (h : grp (restL l n) n k = []) : kst f l n b (k + 1) = kst f l n b k := by
  show (if grp (restL l n) n k = [] then _ else _) = _
  rw [if_pos h]; rfl
theorem kst_some {f : Nat} {l : List Pr} {n b k : Nat} (h : grp (restL l n) n k ≠ []) : kst f l n b (k + 1) =
    ((kst f l n b k).1.set k ((b + 1 + (kst f l n b k).2.length : Nat) : Int), (kst f l n b k).2 ++ grow f (grp (restL l n) n k) (n + 1) (b + 1 + (kst f l n b k).2.length)) := by
  show (if grp (restL l n) n k = [] then _ else _) = _
  rw [if_neg h]; rfl
theorem sofar_all (f : Nat) (l : List Pr) (n b : Nat) : sofar f l n b 16 = forkW (fun g => grow f g (n + 1)) l n b := rfl
theorem LsA.tail {w : World} {A : Nat → Prop} {g o c : Nat} {l : List Pr} (h : LsA w A 2 (.slice (some ⟨g, o, none⟩) l.length c) (l.map prC)) (h1 : 1 ≤ l.length) (hc : l.length ≤ c) : LsA w A 2 (.slice (some ⟨g, o + 2, none⟩) (l.length - 1) (c - 1)) ((l.drop 1).map prC) := by
  obtain ⟨a, c', e, _, HS⟩ := h.open ([], [])
  obtain ⟨g', o', e', hg, hA, hr⟩ := HS.out (by omega)
  subst e'
  cases e
  have := LsA.piece (c := c - 1) hA hg (fun i hi => hr w (New.refl w) i hi) (lo := 1) (hi := l.length) h1 (Nat.le_refl _) (by omega)
  rw [Nat.one_mul, List.take_length] at this
  exact this
theorem br_kids (h : Bool) (v : Bt) (ks : List Int) (c : Nat) (x : Int) : (ndC (brN h v ks)).set (4 + c) (.int .i64 x) = ndC (brN h v (ks.set c x)) := kids_set ks c x (brN h v ks) rfl
theorem br_set {w : World} {g : Nat} (R : Row w g (ndA (brN false [] no16)) 55) (v : Bt) : Row ((w.setCell ⟨g, 2, none⟩ (.bool true)).setCell ⟨g, 3, none⟩ (.string (bs v))) g (ndA (brN true v no16)) 55 := (R.set 2 (.bool true)).set 3 (.string (bs v))

set_option maxHeartbeats 4000000 in
theorem fork_any (f : Nat) (G : GrowOk f) {w : World} {F A : Nat → Prop} {v pv : Value} {ts : List (List Value)} {l : List Pr} {n : Nat} (hn : 16 ≤ n + f) (K : Fork l n) (Q : Pl w F 55 20 v ts) (P : LsA w A 2 pv (l.map prC))
    (hA : ∀ g, A g → g < w.heap.size ∧ ¬ F g) (hl : l.length ≤ 10000) (hv : ∀ p ∈ l, p.2.length ≤ 4000) (hb : ts.length + 1 + 3 * l.length + 2 * f ≤ 40000) :
    Calls Tryd.prog 62 #[v, pv, .int .i64 (n : Int)] w fun e w' => ∃ v' F', e = .returned v' ∧ Pl w' F' 55 20 v' (ts ++ cellsN (forkW (fun g => grow f g (n + 1)) l n ts.length)) ∧ Step F F' w w' := by
  obtain ⟨a, c, rfl, hc, HS⟩ := P.open ([], [])
  have h2 := K.two
  obtain ⟨g, o, rfl, hg, hAg, hr⟩ := HS.out (by omega)
  have HP : Hid (LsA w A 2 (.slice (some ⟨g, o, none⟩) l.length c) (l.map prC)) := P
  have HK : Hid (Fork l n) := K
  have HQ : Hid (Pl w F 55 20 v ts) := Q
  have HV : Hid (∀ p ∈ l, p.2.length ≤ 4000) := hv
  have HAA : Hid (∀ g, A g → g < w.heap.size ∧ ¬ F g) := hA
  have HR : Hid (∀ (W : World), New w W → ∀ i, i < l.length → W.rangeAt g (o + i * 2) (prC (l.getD i ([], [])))) := hr
  have HE := ends_run (n := n) K.ne
  obtain ⟨p0, hp0⟩ : ∃ p, l.getD 0 ([], []) = p := ⟨_, rfl⟩
  have hlen0 := (K.fit.len _ (getD_mem (l := l) (i := 0) (d := ([], [])) (by omega)))
  have hv0 : p0.2.length ≤ 4000 := by rw [← hp0]; exact hv _ (getD_mem (by omega))
  rw [hp0] at HE hlen0
  have HP0 : Hid (l.getD 0 ([], []) = p0) := hp0
  have hn16 : n ≤ 16 := by omega
  have hcl := fun W => clone_any p0.2 hv0 W
  obtain ⟨av, cv, rfl, hcv⟩ := Q.form
  have htl : ts.length ≤ 40000 := by omega
  obtain ⟨b, hbb⟩ : ∃ b, endsB l n = b := ⟨_, rfl⟩
  rw [hbb] at HE
  have HB : Hid (endsB l n = b) := hbb
  have r0 := hr w (New.refl w) 0 (by omega)
  rw [hp0] at r0
  have HG : Hid (GrowOk f) := G
  have HBD : Hid (ts.length + 1 + 3 * l.length + 2 * f ≤ 40000) := hb
  clear HS P K Q hv hA hr hp0 hbb hb G
  cases b
  go_enter Tryd.func62, Tryd.ntmps62
  go_wp2_with (first
    | refine wpList_build1 (by rfl) 55 _ (by rfl) _ (by rfl) _ built49_br ?_
    | (refine wpList_alloc_at (by rfl) 7 (by rfl) 55 (by rfl) _ _ _ info49 ?_; intro W1 R1 N1)
    | (refine wpList_store_new (by rfl) 55 _ _ (by rfl) w.heap.size (ndA (brN false [] no16)) (by rfl) (by rfl) 55 _ R1 (by exact i49) rfl (ndA_all _) ?_; intro W2 R2 B2; have N2 : New w W2 := B2.new N1 (Nat.le_refl _); have k0 : W2.cell? ⟨g, o, none⟩ = some (.string (bs p0.1)) := (N2.cell hg).trans (by simpa using r0 0 _ rfl); have Q2 := HQ.out.after N2)
    | refine wpList_load_row (by rfl) 55 _ (by rfl) w.heap.size (by rfl) 55 (ndA (brN false [] no16)) (0, 0) _ R2 Tryd.underlying55 rfl i49 ?_
    | (refine wpList_build_one (by rfl) 23 _ (by rfl) Tryd.underlying23 _ _ info49 (ndA (brN false [] no16)) (by rfl) rfl (by decide) (by decide) ?_; intro W4 R4 N4; have Q4 := Q2.after N4)
    | (refine wpList_append_pl Q4 (by rfl) _ _ 23 (by rfl) Tryd.underlying23 _ _ info49 rfl (by decide) W2.heap.size (ndC (brN false [] no16)) 55 R4 rfl (ndC_one _) (by omega) (by decide) (by rfl) (by rfl) ?_; intro g5 c5 W5 Q5 G5))
  have hst : Step F (fun b => F b ∨ W4.heap.size ≤ b) w W5 := ((Step.new (N2.trans N4)).trans (Step.grown G5 (fun k hk => HQ.out.foot k hk))).wide (fun k hk => hk.imp id (fun h => Nat.le_trans (N2.trans N4).size h))
  have hpr : LsA W5 A 2 (.slice (some ⟨g, o, none⟩) l.length c) ((restL l n).map prC) := by rw [(rest_false HB.out).1]; exact HP.out.step hst (fun g hg => (HAA.out g hg).2)
  have hq5 : Hid (Pl W5 (fun b => F b ∨ W4.heap.size ≤ b) 55 20 (.slice (some ⟨g5, 0, none⟩) (ts.length + 1) c5) (ts ++ cellsN (sofar f l n ts.length 0))) := by
    show Pl _ _ _ _ _ _
    unfold cellsN sofar
    rw [(rest_false HB.out).2, HB.out]; exact Q5
  have HST : Hid (Step F (fun b => F b ∨ W4.heap.size ≤ b) w W5) := hst
  obtain ⟨F5, hF5⟩ : ∃ F5, (fun b => F b ∨ W4.heap.size ≤ b) = F5 := ⟨_, rfl⟩
  rw [hF5] at hq5 HST
  clear R4 N4 Q4 hst Q5 G5 Q2 R2 N2 hF5 k0
  rotate_left
  go_enter Tryd.func62, Tryd.ntmps62
  go_wp2_with (first
    | refine wpList_build1 (by rfl) 55 _ (by rfl) _ (by rfl) _ built49_br ?_
    | (refine wpList_alloc_at (by rfl) 7 (by rfl) 55 (by rfl) _ _ _ info49 ?_; intro W1 R1 N1)
    | (refine wpList_store_new (by rfl) 55 _ _ (by rfl) w.heap.size (ndA (brN false [] no16)) (by rfl) (by rfl) 55 _ R1 (by exact i49) rfl (ndA_all _) ?_; intro W2 R2 B2; have N2 : New w W2 := B2.new N1 (Nat.le_refl _); have k0 : W2.cell? ⟨g, o, none⟩ = some (.string (bs p0.1)) := (N2.cell hg).trans (by simpa using r0 0 _ rfl); have k1 : W2.cell? ⟨g, o + 1, none⟩ = some (.string (bs p0.2)) := (N2.cell hg).trans (by simpa using r0 1 _ rfl); have Q2 := HQ.out.after N2)
    | (go_at_call 44; refine (hcl _).mono ?_; rintro _ W6 ⟨rfl, N6⟩; have R6 := R2.after N6; have y2 := R6.has 2 (v := .bool false) rfl; have y3 := R6.has 3 (v := .string (bs [])) rfl; have f2 := R6.frozen 2; have f3 := R6.frozen 3)
    | (refine wpList_load_row (by rfl) 55 _ (by rfl) w.heap.size (by rfl) 55 (ndA (brN true p0.2 no16)) (0, 0) _ (br_set R6 p0.2) Tryd.underlying55 rfl i49 ?_; have N7 : New w ((W6.setCell ⟨w.heap.size, 2, none⟩ (.bool true)).setCell ⟨w.heap.size, 3, none⟩ (.string (bs p0.2))) := ((N2.trans N6).setCell (a := ⟨w.heap.size, 2, none⟩) (Nat.le_refl _) _).setCell (a := ⟨w.heap.size, 3, none⟩) (Nat.le_refl _) _; have Q7 := HQ.out.after N7; generalize ((W6.setCell ⟨w.heap.size, 2, none⟩ (.bool true)).setCell ⟨w.heap.size, 3, none⟩ (.string (bs p0.2))) = W7 at *)
    | (refine wpList_build_one (by rfl) 23 _ (by rfl) Tryd.underlying23 _ _ info49 (ndA (brN true p0.2 no16)) (by rfl) rfl (by decide) (by decide) ?_; intro W4 R4 N4; have Q4 := Q7.after N4)
    | (refine wpList_append_pl Q4 (by rfl) _ _ 23 (by rfl) Tryd.underlying23 _ _ info49 rfl (by decide) W7.heap.size (ndC (brN true p0.2 no16)) 55 R4 rfl (ndC_one _) (by omega) (by decide) (by rfl) (by rfl) ?_; intro g5 c5 W5 Q5 G5))
  have hst : Step F (fun b => F b ∨ W4.heap.size ≤ b) w W5 := ((Step.new (N7.trans N4)).trans (Step.grown G5 (fun k hk => HQ.out.foot k hk))).wide (fun k hk => hk.imp id (fun h => Nat.le_trans (N7.trans N4).size h))
  have hpr : LsA W5 A 2 (.slice (some ⟨g, o + 2, none⟩) (l.length - 1) (c - 1)) ((restL l n).map prC) := by rw [(rest_true HB.out).1]; exact (HP.out.step hst (fun g hg => (HAA.out g hg).2)).tail (by omega) hc
  have hq5 : Hid (Pl W5 (fun b => F b ∨ W4.heap.size ≤ b) 55 20 (.slice (some ⟨g5, 0, none⟩) (ts.length + 1) c5) (ts ++ cellsN (sofar f l n ts.length 0))) := by
    show Pl _ _ _ _ _ _
    unfold cellsN sofar
    rw [(rest_true HB.out).2, HB.out, HP0.out]; exact Q5
  have HST : Hid (Step F (fun b => F b ∨ W4.heap.size ≤ b) w W5) := hst
  obtain ⟨F5, hF5⟩ : ∃ F5, (fun b => F b ∨ W4.heap.size ≤ b) = F5 := ⟨_, rfl⟩
  rw [hF5] at hq5 HST
  clear R4 N4 Q4 hst Q5 G5 Q2 Q7 N7 R2 N2 R6 N6 y2 y3 f2 f3 hF5 k0 k1
  rotate_left
  all_goals
    refine (split_any hpr (by have := (rest_sub l n).length_le; omega) (fun p hp => ⟨HK.out.long p hp, (HK.out.restfit.len p hp).2⟩) HK.out.order (fun p hp => HK.out.restfit.nib_lt hp (HK.out.long p hp))).mono ?_
    rintro _ W8 ⟨gs, rfl, hgl, hgs, N8⟩
    have HGS : Hid (∀ h x, gs[h]? = some x → LsA W8 A 2 x ((grp (restL l n) n h).map prC)) := fun h x hx => (hgs h x hx).after N8
    have hq8 : Hid (Pl W8 F5 55 20 (.slice (some ⟨g5, 0, none⟩) (ts.length + 1) c5) (ts ++ cellsN (sofar f l n ts.length 0))) := hq5.out.after N8
    have HS8 : Hid (Step F F5 w W8) := HST.out.trans (Step.new N8)
    clear hpr hq5 HST hgs N8
    go_wp2_with fail
    go_loopw [0, 37] (fun t i wr => ∃ (k : Nat) (F' : Nat → Prop), k ≤ 16 ∧ i = .int .i64 (k : Int) ∧ Hid (Pl wr F' 55 20 t (ts ++ cellsN (sofar f l n ts.length k))) ∧ Hid (Step F F' w wr) ∧
      Hid (∀ h x, gs[h]? = some x → LsA wr A 2 x ((grp (restL l n) n h).map prC))) (fun _ i _ => 16 - (intOf i).toNat)
    case atStart => exact ⟨0, F5, by omega, rfl, hq8.out, HS8.out, HGS.out⟩
    case round =>
      clear hq8 HS8 HGS
      obtain ⟨k, F', hk, rfl, hq, hs, hgs⟩ := hrel
      by_cases hlt : k < 16
      · obtain ⟨z, hz⟩ : ∃ z, gs[k]? = some z := ⟨gs[k]'(by omega), List.getElem?_eq_getElem (by omega)⟩
        have hidx := fun w => run_index71 w gs k z hz hlt
        have HL := hgs.out k z hz
        obtain ⟨az, cz, hzf, hzc, _⟩ := HL
        rw [List.length_map] at hzf hzc
        have HZ : Hid (gs[k]? = some z) := hz
        clear hz
        have KK := kst_ok HK.out hn ts.length k (by omega)
        have KK1 := (kst_ok HK.out hn ts.length (k + 1) (by omega)).few
        have hfl : ((restL l n).filter (fun p => decide (nib p n < k + 1))).length ≤ l.length := Nat.le_trans (List.length_filter_le _ _) (rest_sub l n).length_le
        have hfs := congrArg List.length (filter_step n k (restL l n) HK.out.order)
        rw [List.length_append] at hfs
        have hfew := KK.few
        by_cases hm0 : (grp (restL l n) n k).length = 0
        · rw [hm0] at hzf hzc
          subst hzf
          have hne : grp (restL l n) n k = [] := List.eq_nil_of_length_eq_zero hm0
          have HE1 : Hid (sofar f l n ts.length (k + 1) = sofar f l n ts.length k) := by
            show _ = _
            unfold sofar; rw [kst_none hne]
          clear KK KK1 hfl hfs hfew hm0 hne
          go_wp2_with fail
          refine ⟨⟨k + 1, F', by omega, by go_num, ?_, hs.out, hgs.out⟩, by simp [intOf]; omega⟩
          show Pl _ _ _ _ _ _
          rw [HE1.out]; exact hq.out
        · have hgne : grp (restL l n) n k ≠ [] := fun e => hm0 (by rw [e]; rfl)
          obtain ⟨p1, hp1, _⟩ := headK_mem hgne
          have hp1m := grp_mem.1 hp1
          have hnlt : n < 16 := Nat.lt_of_lt_of_le (HK.out.long p1 hp1m.1) (HK.out.restfit.len p1 hp1m.1).2
          have hfit := HK.out.group k
          have hgsub : ∀ p ∈ grp (restL l n) n k, p ∈ l := fun p hp => (rest_sub l n).subset (grp_mem.1 hp).1
          have hgl4 : (grp (restL l n) n k).length ≤ 10000 := by omega
          have hsome := kst_some (f := f) (b := ts.length) hgne
          have hz0 := KK.zero k (Nat.le_refl _) hlt
          have HSO : Hid (sofar f l n ts.length (k + 1) = (brN (endsB l n) (headV l n) ((kst f l n ts.length k).1.set k ((ts.length + 1 + (kst f l n ts.length k).2.length : Nat) : Int)), headP l n) :: ((kst f l n ts.length k).2 ++ grow f (grp (restL l n) n k) (n + 1) (ts.length + 1 + (kst f l n ts.length k).2.length))) := by
            show _ = _
            unfold sofar; rw [hsome]
          have hq0 : Pl wr F' 55 20 u0 (ts ++ ndC (brN (endsB l n) (headV l n) (kst f l n ts.length k).1) :: cellsN (kst f l n ts.length k).2) := hq.out
          generalize (kst f l n ts.length k).1 = ks at hz0 HSO hq0 hfew
          generalize (kst f l n ts.length k).2 = ns at HSO hq0 hfew
          have hll : (ts ++ ndC (brN (endsB l n) (headV l n) ks) :: cellsN ns).length = ts.length + 1 + ns.length := by
            rw [List.length_append, List.length_cons, cellsN, List.length_map]; omega
          obtain ⟨g1, c1, rfl, hFg, hg1, hc1⟩ := hq0.full (by rw [hll]; omega)
          rw [hll] at hc1 hq0 ⊢
          have he0 : (ts ++ ndC (brN (endsB l n) (headV l n) ks) :: cellsN ns)[ts.length]? = some (ndC (brN (endsB l n) (headV l n) ks)) := by
            rw [List.getElem?_append_right (Nat.le_refl _), Nat.sub_self]; rfl
          obtain ⟨cc, ff⟩ := hq0.cellAt he0 (j := 4 + k) (kids_get (m := brN (endsB l n) (headV l n) ks) hz0)
          have hq9 := hq0.setCell he0 (j := 4 + k) (by omega) (.int .i64 ((ts.length + 1 + ns.length : Nat) : Int))
          rw [br_kids, List.set_append_right _ _ (Nat.le_refl _), Nat.sub_self, List.set_cons_zero] at hq9
          rw [← Nat.add_assoc] at cc ff hq9
          have hsc : Step F' F' wr (wr.setCell ⟨g1, ts.length * 20 + 4 + k, none⟩ (.int .i64 ((ts.length + 1 + ns.length : Nat) : Int))) := Step.setCell wr hFg _
          have hAA := stay HAA.out hs.out
          have hll' : (ts ++ ndC (brN (endsB l n) (headV l n) (ks.set k ((ts.length + 1 + ns.length : Nat) : Int))) :: cellsN ns).length = ts.length + 1 + ns.length := by
            rw [List.length_append, List.length_cons, cellsN, List.length_map]; omega
          have hbd := HBD.out
          have hcall := HG.out _ F' A _ _ _ _ (n + 1) (by omega) hfit (by omega) hq9 ((hgs.out k _ HZ.out).step hsc (fun g hg => (hAA g hg).2)) (stay hAA hsc) hgl4 (fun p hp => HV.out p (hgsub p hp)) (by rw [hll']; omega)
          rw [hll'] at hcall
          have HCALL : Hid (_) := hcall
          have HQX : Hid (Step F' F' wr (wr.setCell ⟨g1, ts.length * 20 + 4 + k, none⟩ (.int .i64 ((ts.length + 1 + ns.length : Nat) : Int)))) := hsc
          have HAX : Hid (∀ g, A g → g < wr.heap.size ∧ ¬ F' g) := hAA
          obtain ⟨N, hN⟩ : ∃ N, ts.length + 1 + ns.length = N := ⟨_, rfl⟩
          rw [hN] at HCALL HQX HSO hc1 ⊢
          have htN : ts.length < N := by omega
          obtain ⟨m, hmm⟩ : ∃ m, (grp (restL l n) n k).length = m := ⟨_, rfl⟩
          rw [hmm] at hzf hzc hm0
          subst hzf
          have hm0' : 0 < m := by omega
          clear KK KK1 hfl hfs hfew hgne hp1 hp1m hfit hgsub hsome hz0 hq0 hll he0 hq9 hsc hAA hll' hcall hbd hm0 hq hmm hgl4 hN
          go_wp2_with fail
          refine Calls.mono HCALL.out ?_
          rintro _ W9 ⟨v9, F9, rfl, Q10, S10⟩
          have HQ10 : Hid (Pl W9 F9 55 20 v9 (ts ++ cellsN (sofar f l n ts.length (k + 1)))) := by
            show Pl _ _ _ _ _ _
            have e : ts ++ cellsN (sofar f l n ts.length (k + 1)) = (ts ++ ndC (brN (endsB l n) (headV l n) (ks.set k (N : Int))) :: cellsN ns) ++ cellsN (grow f (grp (restL l n) n k) (n + 1) N) := by
              rw [HSO.out]
              simp [cellsN]
            rw [e]; exact Q10
          have HS10 : Hid (Step F F9 w W9) := (hs.out.trans HQX.out).trans S10
          have HGS10 : Hid (∀ h x, gs[h]? = some x → LsA W9 A 2 x ((grp (restL l n) n h).map prC)) := fun h x hx => ((hgs.out h x hx).step HQX.out (fun g hg => (HAX.out g hg).2)).step S10 (fun g hg => (stay HAX.out HQX.out g hg).2)
          clear Q10 S10 HCALL HSO cc ff
          go_wp2_with fail
          exact ⟨⟨k + 1, F9, by omega, by go_num, HQ10.out, HS10.out, HGS10.out⟩, by simp [intOf]; omega⟩
      · obtain rfl : k = 16 := by omega
        go_wp2_with fail
        go_ret
        exact ⟨_, F', rfl, hq.out, hs.out⟩

end Go.Proofs.YtjpjcojabjkaaaaDoor
namespace Go.Proofs.YtjpjcojabjkaaaaDoor
open Go.RowKit
set_option maxRecDepth 20000

theorem grow_none (f n b : Nat) : grow f [] n b = [] := by
  cases f with
  | zero => rfl
  | succ f => unfold grow; rw [if_pos (by rfl)]
theorem bs_drop (l : Bt) (n : Nat) : (bs l).extract n (bs l).size = bs (l.drop n) := eq_of_L (by
  rw [L_extract, L_bs, L_bs, bs_size, List.take_length])
theorem bs_take (l : Bt) (n : Nat) : (bs l).extract 0 n = bs (l.take n) := eq_of_L (by
  rw [L_extract, L_bs, L_bs, List.drop_zero])

set_option maxHeartbeats 2000000 in
theorem grow_empty (f : Nat) {w : World} {F A : Nat → Prop} {v pv : Value} {ts : List (List Value)} {n : Nat} (Q : Pl w F 55 20 v ts) (P : LsA w A 2 pv (([] : List Pr).map prC)) :
    Calls Tryd.prog 56 #[v, pv, .int .i64 (n : Int)] w fun e w' => ∃ v' F', e = .returned v' ∧ Pl w' F' 55 20 v' (ts ++ cellsN (grow f [] n ts.length)) ∧ Step F F' w w' := by
  obtain ⟨a, c, rfl, _⟩ := P.open ([], [])
  obtain ⟨av, cv, rfl, hcv⟩ := Q.form
  have HQ : Hid (Pl w F 55 20 (.slice av ts.length cv) ts) := Q
  clear Q P
  go_enter Tryd.func56, Tryd.ntmps56
  go_wp2_with fail
  go_ret
  refine ⟨_, F, rfl, ?_, Step.refl F w⟩
  rw [grow_none]; simpa [cellsN] using HQ.out

set_option maxHeartbeats 2000000 in
theorem grow_any (f : Nat) : GrowOk f := by
  induction f with
  | zero =>
    intro w F A v pv ts l n hn hfit hn16 Q P hA hl hv hb
    by_cases h0 : l.length = 0
    · obtain rfl : l = [] := List.eq_nil_of_length_eq_zero h0
      exact grow_empty 0 Q P
    · omega
  | succ f ih =>
    intro w F A v pv ts l n hn hfit hn16 Q P hA hl hv hb
    by_cases h0 : l.length = 0
    · obtain rfl : l = [] := List.eq_nil_of_length_eq_zero h0
      exact grow_empty (f + 1) Q P
    · obtain ⟨a, c, rfl, hc, HS⟩ := P.open ([], [])
      obtain ⟨g, o, rfl, hg, hAg, hr⟩ := HS.out (by omega)
      obtain ⟨p0, hp0⟩ : ∃ p, l.getD 0 ([], []) = p := ⟨_, rfl⟩
      have hm0 : p0 ∈ l := by rw [← hp0]; exact getD_mem (by omega)
      have r0 := hr w (New.refl w) 0 (by omega)
      rw [hp0] at r0
      have k0 : w.cell? ⟨g, o, none⟩ = some (.string (bs p0.1)) := by simpa using r0 0 _ rfl
      have k1 : w.cell? ⟨g, o + 1, none⟩ = some (.string (bs p0.2)) := by simpa using r0 1 _ rfl
      have hlen0 := hfit.len p0 hm0
      have hsz : n ≤ (bs p0.1).size := by rw [bs_size]; exact hlen0.1
      have hex := bs_drop p0.1 n
      have hhk : headK l = p0.1 := by
        rw [← hp0]
        cases l with
        | nil => exact absurd rfl h0
        | cons p r => rfl
      have hhv : headVal l = p0.2 := by
        rw [← hp0]
        cases l with
        | nil => exact absurd rfl h0
        | cons p r => rfl
      obtain ⟨av, cv, rfl, hcv⟩ := Q.form
      have HQ : Hid (Pl w F 55 20 (.slice av ts.length cv) ts) := Q
      have HB : Hid (ts.length + 3 * l.length + 2 * (f + 1) ≤ 40000) := hb
      have htl : ts.length ≤ 40000 := by omega
      have hcl := fun W => clone_any p0.2 (hv p0 hm0) W
      by_cases h1 : l.length = 1
      · have HG : Hid (grow (f + 1) l n ts.length = [(leafN (p0.1.drop n) p0.2, p0.1.take n)]) := by
          show _ = _
          unfold grow; rw [if_neg h0, if_pos h1, hhk, hhv]
        rw [h1] at hc ⊢
        clear hb hv hfit hhk hhv h0 h1 Q P HS hr ih hlen0 hp0 hm0 r0 hn hA
        go_enter Tryd.func56, Tryd.ntmps56
        go_wp2_with (first
          | (go_at_call 44; refine (hcl _).mono ?_; rintro _ W6 ⟨rfl, N6⟩; have Q6 := HQ.out.after N6)
          | refine wpList_build4 (by rfl) 55 _ _ _ _ (by rfl) _ _ _ _ (by rfl) (by rfl) (by rfl) (by rfl) _ (built49_leaf _ _) ?_
          | (refine wpList_build_one (by rfl) 23 _ (by rfl) Tryd.underlying23 _ _ info49 (ndA (leafN (p0.1.drop n) p0.2)) (by rfl) rfl (by decide) (by decide) ?_; intro W4 R4 N4; have Q4 := Q6.after N4)
          | (refine wpList_append_pl Q4 (by rfl) _ _ 23 (by rfl) Tryd.underlying23 _ _ info49 rfl (by decide) W6.heap.size (ndC (leafN (p0.1.drop n) p0.2)) 55 R4 rfl (ndC_one _) (by omega) (by decide) (by rfl) (by rfl) ?_; intro g5 c5 W5 Q5 G5))
        go_ret
        refine ⟨_, (fun b => F b ∨ W4.heap.size ≤ b), rfl, ?_, ((Step.new (N6.trans N4)).trans (Step.grown G5 (fun k hk => HQ.out.foot k hk))).wide (fun k hk => hk.imp id (fun h => Nat.le_trans (N6.trans N4).size h))⟩
        rw [HG.out]; exact Q5
      · obtain ⟨m, hm⟩ : ∃ m, l.length = m + 1 := ⟨l.length - 1, by omega⟩
        have hml : (l.length : Int) - 1 = (m : Int) := by omega
        have hmlt : m < l.length := by omega
        obtain ⟨p1, hp1⟩ : ∃ p, l.getD m ([], []) = p := ⟨_, rfl⟩
        have hm1 : p1 ∈ l := by rw [← hp1]; exact getD_mem hmlt
        have r1 := hr w (New.refl w) m hmlt
        rw [hp1] at r1
        have k2 : w.cell? ⟨g, o + m * 2, none⟩ = some (.string (bs p1.1)) := by simpa using r1 0 _ rfl
        have hlen1 := hfit.len p1 hm1
        have hsz1 : n ≤ (bs p1.1).size := by rw [bs_size]; exact hlen1.1
        have hex1 := bs_drop p1.1 n
        have hll : lastL l = p1.1 := by
          unfold lastL
          have e : l.getLast? = some p1 := by
            rw [List.getLast?_eq_getElem?, show l.length - 1 = m by omega, ← hp1, List.getD_eq_getElem?_getD, List.getElem?_eq_getElem hmlt]; rfl
          rw [e]
        obtain ⟨C, hC⟩ : ∃ C, comG l n = C := ⟨_, rfl⟩
        have hcom : ∀ W, Calls Tryd.prog 43 #[.string (bs (p0.1.drop n)), .string (bs (p1.1.drop n))] W fun e w' => e = .returned (.int .i64 (C : Int)) ∧ New W w' := fun W => by
          have := common_any (bs (p0.1.drop n)) (bs (p1.1.drop n)) (by rw [bs_size, List.length_drop]; omega) (by rw [bs_size, List.length_drop]; omega) W
          rw [L_bs, L_bs] at this
          rw [← hC]; unfold comG; rw [hhk, hll]; exact this
        have hF := hfit.fork (by omega)
        have hCl : C ≤ (p0.1.drop n).length := by rw [← hC, ← hhk]; exact (comN_le _ _).1
        have hCsz : C ≤ (bs (p0.1.drop n)).size := by rw [bs_size]; exact hCl
        rw [hC] at hF
        obtain ⟨N, hN⟩ : ∃ N, n + C = N := ⟨_, rfl⟩
        have hNi : (n : Int) + (C : Int) = (N : Int) := by omega
        rw [List.length_drop] at hCl
        have hNle : N ≤ 16 := by omega
        by_cases hC0 : C = 0
        · have hd : decide ((0 : Int) < (C : Int)) = false := decide_eq_false (by omega)
          have hd' : decide (0 < C) = false := decide_eq_false (by omega)
          have HG : Hid (grow (f + 1) l n ts.length = forkW (fun g => grow f g (N + 1)) l N ts.length) := by
            show _ = _
            unfold grow; rw [if_neg h0, if_neg h1, hC, if_pos hC0, show N = n by omega]
          rw [hN] at hF
          have hfork := fun {w1 : World} (N1 : New w w1) => fork_any f ih (by omega) hF (Q.after N1) (P.after N1) (fun g hg => ⟨Nat.lt_of_lt_of_le (hA g hg).1 N1.size, (hA g hg).2⟩) hl hv (by omega)
          have hd1 : decide ((l.length : Int) = 1) = false := decide_eq_false (by omega)
          clear hb hv hfit hhk hhv Q P HS hr ih hlen0 hlen1 hp0 hm0 r0 r1 hn hA hll hF hC0 hC hCl hN hm1 hp1 hm hcl
          go_enter Tryd.func56, Tryd.ntmps56
          go_wp2_with (first
            | (go_at_call 43; refine (hcom _).mono ?_; rintro _ W6 ⟨rfl, N6⟩))
          refine Calls.mono (hfork N6) ?_
          rintro _ W9 ⟨v9, F9, rfl, Q9, S9⟩
          have HQ9 : Hid (Pl W9 F9 55 20 v9 (ts ++ cellsN (forkW (fun g => grow f g (N + 1)) l N ts.length))) := Q9
          clear Q9 hfork
          go_wp2_with fail
          go_ret
          refine ⟨v9, F9, rfl, ?_, (Step.new N6).trans S9⟩
          rw [HG.out]; exact HQ9.out
        · have hd : decide ((0 : Int) < (C : Int)) = true := decide_eq_true (by omega)
          have hd' : decide (0 < C) = true := decide_eq_true (by omega)
          have HG : Hid (grow (f + 1) l n ts.length = (extN ((p0.1.drop n).take C) ((ts.length + 1 : Nat) : Int), p0.1.take n) :: forkW (fun g => grow f g (N + 1)) l N (ts.length + 1)) := by
            show _ = _
            unfold grow; rw [if_neg h0, if_neg h1, hC, if_neg hC0, hhk, hN]
          rw [hN] at hF
          have hext := bs_take (p0.1.drop n) C
          have hfork := fun {w1 : World} {F1 : Nat → Prop} {v1 : Value} {ts1 : List (List Value)} (S1 : Step F F1 w w1) (Q1 : Pl w1 F1 55 20 v1 ts1) (ht : ts1.length = ts.length + 1) => fork_any f ih (by omega) hF Q1 (P.step S1 (fun g hg => (hA g hg).2)) (stay hA S1) hl hv (by rw [ht]; omega)
          have hd1 : decide ((l.length : Int) = 1) = false := decide_eq_false (by omega)
          clear hb hv hfit hhk hhv Q P HS hr ih hlen0 hlen1 hp0 hm0 r0 r1 hn hA hll hF hC0 hC hCl hN hm1 hp1 hm hcl
          go_enter Tryd.func56, Tryd.ntmps56
          go_wp2_with (first
            | (go_at_call 43; refine (hcom _).mono ?_; rintro _ W6 ⟨rfl, N6⟩; have Q6 := HQ.out.after N6)
            | refine wpList_build1 (by rfl) 53 _ (by rfl) _ (by rfl) _ (built47_one _) ?_
            | refine wpList_build3x (by rfl) 55 _ _ _ (by rfl) _ _ _ (by rfl) (by rfl) (by rfl) _ (built49_ext _ _) ?_
            | (refine wpList_build_one (by rfl) 23 _ (by rfl) Tryd.underlying23 _ _ info49 (ndA (extN ((p0.1.drop n).take C) ((ts.length + 1 : Nat) : Int))) (by rfl) rfl (by decide) (by decide) ?_; intro W4 R4 N4; have Q4 := Q6.after N4)
            | (refine wpList_append_pl Q4 (by rfl) _ _ 23 (by rfl) Tryd.underlying23 _ _ info49 rfl (by decide) W6.heap.size (ndC (extN ((p0.1.drop n).take C) ((ts.length + 1 : Nat) : Int))) 55 R4 rfl (ndC_one _) (by omega) (by decide) (by rfl) (by rfl) ?_; intro g5 c5 W5 Q5 G5))
          have hst : Step F (fun b => F b ∨ W4.heap.size ≤ b) w W5 := ((Step.new (N6.trans N4)).trans (Step.grown G5 (fun k hk => HQ.out.foot k hk))).wide (fun k hk => hk.imp id (fun h => Nat.le_trans (N6.trans N4).size h))
          have hle : (ts ++ [ndC (extN ((p0.1.drop n).take C) ((ts.length + 1 : Nat) : Int))]).length = ts.length + 1 := by rw [List.length_append]; rfl
          have hcall := hfork hst Q5 hle
          rw [hle] at hcall
          have HS : Hid (Step F (fun b => F b ∨ W4.heap.size ≤ b) w W5) := hst
          clear hst hle hfork Q5 G5 Q4 Q6
          refine Calls.mono hcall ?_
          rintro _ W9 ⟨v9, F9, rfl, Q9, S9⟩
          have HQ9 : Hid (Pl W9 F9 55 20 v9 ((ts ++ [ndC (extN ((p0.1.drop n).take C) ((ts.length + 1 : Nat) : Int))]) ++ cellsN (forkW (fun g => grow f g (N + 1)) l N (ts.length + 1)))) := Q9
          clear Q9 hcall
          go_wp2_with fail
          go_ret
          refine ⟨v9, F9, rfl, ?_, HS.out.trans S9⟩
          rw [HG.out]
          have := HQ9.out
          rw [List.append_assoc] at this
          exact this

/-- Build's nodes. -/
def buildN (l : List Pr) : List Nd := (trieL l).map (·.1)
theorem cellsN_trie (l : List Pr) : cellsN (trieL l) = (buildN l).map ndC := by unfold cellsN buildN; rw [List.map_map]; rfl

set_option maxHeartbeats 1000000 in
theorem build_no {w : World} {v : Value} {l : List Pr} (P : Ls w 2 v (l.map prC)) (hl : l.length ≤ 10000) (hk : ∀ p ∈ l, p.1.length ≤ 4000 ∧ p.2.length ≤ 4000) (hm : mayB l = false) :
    Calls Tryd.prog 48 #[v] w fun e w' => e = .returned (.tuple #[.slice none 0 0, .bool false]) ∧ New w w' := by
  have hmay := mayBe_any P hl hk
  rw [hm] at hmay
  obtain ⟨a, c, hac⟩ := P.size
  rw [List.length_map] at hac
  subst hac
  clear P hm hk
  go_enter Tryd.func48, Tryd.ntmps48
  go_wp2_with fail
  refine Calls.mono hmay ?_
  rintro _ W1 ⟨rfl, N1⟩
  go_wp2_with fail
  go_ret2
  exact ⟨rfl, N1⟩

set_option maxHeartbeats 1000000 in
theorem build_yes {w : World} {v : Value} {l : List Pr} (P : Ls w 2 v (l.map prC)) (hl : l.length ≤ 10000) (hk : ∀ p ∈ l, p.1.length ≤ 4000 ∧ p.2.length ≤ 4000) (hm : mayB l = true) :
    Calls Tryd.prog 48 #[v] w fun e w' => ∃ v', e = .returned (.tuple #[v', .bool true]) ∧ Pl w' (Fresh w) 55 20 v' ((buildN l).map ndC) ∧ New w w' := by
  have hmay := mayBe_any P hl hk
  rw [hm] at hmay
  have hnib := fun {w1 : World} (N : New w w1) => byNibbles_any (P.after N) hl hk
  have hfit := may_fit hm
  have hlm : (l.map halfP).length = l.length := List.length_map _
  have hvm : ∀ p ∈ l.map halfP, p.2.length ≤ 4000 := fun p hp => by
    obtain ⟨q, hq, rfl⟩ := List.mem_map.1 hp
    exact (hk q hq).2
  have hgrow := fun {w2 : World} {v2 : Value} {B : Nat → Prop} (Q : Pl w2 B 25 2 v2 ((l.map halfP).map prC)) => grow_any 17 w2 (fun _ => False) (fun g => B g ∧ g < w2.heap.size) (.slice none 0 0) v2 [] (l.map halfP) 0 (by omega) hfit (by omega) (Pl.nil _ _ _ _) Q.lsA (fun g hg => ⟨hg.2, fun h => h⟩) (by omega) hvm (by rw [hlm, List.length_nil]; omega)
  obtain ⟨a, c, hac⟩ := P.size
  rw [List.length_map] at hac
  subst hac
  clear P hm hk hfit hvm
  go_enter Tryd.func48, Tryd.ntmps48
  go_wp2_with fail
  refine Calls.mono hmay ?_
  rintro _ W1 ⟨rfl, N1⟩
  go_wp2_with fail
  refine Calls.mono (hnib N1) ?_
  rintro _ W2 ⟨v2, rfl, Q2, N2⟩
  have HQ2 : Hid (Pl W2 (Fresh W1) 25 2 v2 ((l.map halfP).map prC)) := Q2
  clear Q2
  go_wp2_with fail
  refine Calls.mono (hgrow HQ2.out) ?_
  rintro _ W3 ⟨v3, F3, rfl, Q3, S3⟩
  have HQ3 : Hid (Pl W3 F3 55 20 v3 (cellsN (trieL l))) := Q3
  clear Q3
  go_wp2_with fail
  go_ret2
  have hsz : w.heap.size ≤ W2.heap.size := (N1.trans N2).size
  have N3 : New W2 W3 := ⟨S3.os, S3.tape, S3.output, S3.size, fun k hk => S3.block k hk (fun h => h)⟩
  refine ⟨v3, rfl, ?_, (N1.trans N2).trans N3⟩
  have := HQ3.out
  rw [cellsN_trie] at this
  exact this.mono fun b hb _ => by
    rcases S3.foot b hb with h | h
    · exact h.elim
    · exact Nat.le_trans hsz h

end Go.Proofs.YtjpjcojabjkaaaaDoor
namespace Go.Proofs.YtjpjcojabjkaaaaDoor
set_option maxRecDepth 20000

def noNd : Nd := ⟨0, [], false, [], no16⟩
/-- What leads to a node's children up to a half; nothing, if one does not stand behind it. -/
def kidsG (len i : Nat) (kind : Int) (e : Bt) (ks : List Int) (ps : List Bt) : Nat → Option (List Bt)
  | 0 => some ps
  | c + 1 => match kidsG len i kind e ks ps c with
    | none => none
    | some q => if ks.getD c 0 = 0 then some q else if ks.getD c 0 ≤ (i : Int) ∨ (len : Int) ≤ ks.getD c 0 then none else some (q.set (ks.getD c 0).toNat (kidP kind e c))
/-- A node more. -/
def gatS (t : List Nd) (i : Nat) (s : List Pr × List Bt) : Option (List Pr × List Bt) :=
  if goodB (s.2.getD i [] ++ (t.getD i noNd).path) = false then none
  else if ((t.getD i noNd).has && !keyB (s.2.getD i [] ++ (t.getD i noNd).path)) = true then none
  else match kidsG t.length i (t.getD i noNd).kind (s.2.getD i [] ++ (t.getD i noNd).path) (t.getD i noNd).kids s.2 16 with
    | none => none
    | some ps => some (if (t.getD i noNd).has then s.1 ++ [(joinL (s.2.getD i [] ++ (t.getD i noNd).path), (t.getD i noNd).val)] else s.1, ps)
def gatN (t : List Nd) : Nat → Option (List Pr × List Bt)
  | 0 => some ([], List.replicate t.length [])
  | i + 1 => match gatN t i with
    | none => none
    | some s => gatS t i s
theorem gatN_none {t : List Nd} {i : Nat} (h : gatN t i = none) : ∀ j, gatN t (i + j) = none
  | 0 => h
  | j + 1 => by
    show (match gatN t (i + j) with | none => none | some s => gatS t (i + j) s) = none
    rw [gatN_none h j]
theorem kidsG_none {len i : Nat} {kind : Int} {e : Bt} {ks : List Int} {ps : List Bt} {c : Nat} (h : kidsG len i kind e ks ps c = none) : ∀ j, kidsG len i kind e ks ps (c + j) = none
  | 0 => h
  | j + 1 => by
    show (match kidsG len i kind e ks ps (c + j) with | none => none | some q => _) = none
    rw [kidsG_none h j]
theorem kidsG_length {len i : Nat} {kind : Int} {e : Bt} {ks : List Int} {ps : List Bt} : ∀ {c : Nat} {q : List Bt}, kidsG len i kind e ks ps c = some q → q.length = ps.length
  | 0, q, h => by rw [← Option.some.inj h]
  | c + 1, q, h => by
    have h : (match kidsG len i kind e ks ps c with | none => none | some q => if ks.getD c 0 = 0 then some q else if ks.getD c 0 ≤ (i : Int) ∨ (len : Int) ≤ ks.getD c 0 then none else some (q.set (ks.getD c 0).toNat (kidP kind e c))) = some q := h
    cases hq : kidsG len i kind e ks ps c with
    | none => rw [hq] at h; cases h
    | some q' =>
      rw [hq] at h
      have := kidsG_length hq
      simp only at h
      split at h
      · rw [← Option.some.inj h]; exact this
      · split at h
        · cases h
        · rw [← Option.some.inj h, List.length_set]; exact this

/-- The nodes' trie, read: the pairs whose trie it is, what leads to each node. -/
def readF (t : List Nd) : Option (List Pr × List Bt) := match gatN t t.length with
  | none => none
  | some s => if mayB s.1 && decide (buildN s.1 = t) then some s else none

section
variable {l : List Pr} {T : List NP}
theorem blk_halves {P : List Pr} (F : Fit P 0) (B : Blk P 0 0 T) {m : NP} (hm : m ∈ T) : goodB (m.2 ++ m.1.path) = true := by
  obtain ⟨p, hp, r, hr⟩ := B.key m hm
  have h1 := (F.len p hp).2
  have h2 := F.half p hp
  unfold goodB
  rw [Bool.and_eq_true, decide_eq_true_eq]
  constructor
  · rw [← hr, List.length_append] at h1; omega
  · refine halvesB_good fun k c hc => h2 c ?_
    rw [← hr]
    exact List.mem_append_left _ (List.mem_of_getElem? hc)
theorem get_map1 {i : Nat} {m : NP} (h : T[i]? = some m) : (T.map (·.1)).getD i noNd = m.1 := by
  rw [List.getD_eq_getElem?_getD, List.getElem?_map, h]; rfl
theorem links_mem {k : Int} : k ∈ linksOf T ↔ ∃ (j : Nat) (m : NP), T[j]? = some m ∧ ∃ c : Nat, m.1.kids[c]? = some k ∧ k ≠ 0 := by
  unfold linksOf nz
  rw [List.mem_flatMap]
  constructor
  · rintro ⟨m, hm, hk⟩
    obtain ⟨j, hj⟩ := List.getElem?_of_mem hm
    rw [List.mem_filter] at hk
    obtain ⟨c, hc⟩ := List.getElem?_of_mem hk.1
    exact ⟨j, m, hj, c, hc, by simpa using hk.2⟩
  · rintro ⟨j, m, hj, c, hc, hk⟩
    exact ⟨m, List.mem_of_getElem? hj, List.mem_filter.2 ⟨List.mem_of_getElem? hc, by simpa using hk⟩⟩
theorem nums_mem {b n : Nat} {k : Int} : k ∈ nums b n ↔ ∃ j : Nat, k = (j : Int) ∧ b ≤ j ∧ j < b + n := by
  unfold nums
  rw [List.mem_map]
  constructor
  · rintro ⟨j, hj, rfl⟩
    rw [List.mem_range'_1] at hj
    exact ⟨j, rfl, hj.1, hj.2⟩
  · rintro ⟨j, rfl, h1, h2⟩
    exact ⟨j, List.mem_range'_1.2 ⟨h1, h2⟩, rfl⟩
/-- Each node but the first has one that leads to it, ahead of it. -/
theorem blk_parent {P : List Pr} (B : Blk P 0 0 T) {k : Nat} (h0 : 0 < k) (hk : k < T.length) : ∃ (j : Nat) (m : NP) (c : Nat), j < k ∧ T[j]? = some m ∧ m.1.kids[c]? = some (k : Int) := by
  have : (k : Int) ∈ linksOf T := B.links.mem_iff.2 (nums_mem.2 ⟨k, rfl, by omega, by omega⟩)
  obtain ⟨j, m, hj, c, hc, hne⟩ := links_mem.1 this
  obtain ⟨j', _, e, hlt, _⟩ := B.kid j m hj c _ hc hne
  exact ⟨j, m, c, by omega, hj, hc⟩
theorem blk_kid {P : List Pr} (B : Blk P 0 0 T) {i : Nat} {m : NP} (hm : T[i]? = some m) {c : Nat} {k : Int} (hk : m.1.kids[c]? = some k) (h0 : k ≠ 0) :
    ∃ (j : Nat) (m' : NP), k = (j : Int) ∧ i < j ∧ j < T.length ∧ T[j]? = some m' ∧ m'.2 = kidP m.1.kind (m.2 ++ m.1.path) c := by
  obtain ⟨j, m', e, hlt, hm', hp, _⟩ := B.kid i m hm c k hk h0
  refine ⟨j, m', by rw [e, Nat.zero_add], hlt, (List.getElem?_eq_some_iff.1 hm').1, hm', ?_⟩
  rw [hp]
  unfold childP kidP
  rcases B.shape m (List.mem_of_getElem? hm) with ⟨_, _, h3⟩ | ⟨h1, _⟩ | ⟨h1, _⟩
  · rw [h3] at hk
    unfold no16 at hk; rw [List.getElem?_replicate] at hk
    split at hk
    · exact absurd (Option.some.inj hk).symm h0
    · cases hk
  · rw [h1]; rfl
  · rw [h1]; rfl
theorem blk_kids16 {P : List Pr} (B : Blk P 0 0 T) {m : NP} (hm : m ∈ T) : m.1.kids.length = 16 := by
  rcases B.shape m hm with ⟨_, _, h3⟩ | ⟨_, _, _, _, k, _, h⟩ | ⟨_, _, h, _⟩
  · rw [h3]; rfl
  · rw [h]; rfl
  · exact h
/-- What leads to each node so far. -/
def Led (T : List NP) (ps : List Bt) (D : Nat → Prop) : Prop := ps.length = T.length ∧ ∀ k m, T[k]? = some m → D k → ps[k]? = some m.2
theorem led_kids {P : List Pr} (B : Blk P 0 0 T) {i : Nat} {m : NP} (hm : T[i]? = some m) {ps : List Bt} {D : Nat → Prop} (h : Led T ps D) :
    ∀ c, c ≤ 16 → ∃ q, kidsG T.length i m.1.kind (m.2 ++ m.1.path) m.1.kids ps c = some q ∧ Led T q (fun k => D k ∨ ∃ c' : Nat, c' < c ∧ m.1.kids[c']? = some (k : Int) ∧ k ≠ 0)
  | 0, _ => ⟨ps, rfl, h.1, fun k m' hk hD => h.2 k m' hk (hD.elim id (fun ⟨c', h', _⟩ => absurd h' (by omega)))⟩
  | c + 1, hc => by
    obtain ⟨q, hq, hl, hled⟩ := led_kids B hm h c (by omega)
    have hlen := blk_kids16 B (List.mem_of_getElem? hm)
    obtain ⟨x, hx⟩ : ∃ x, m.1.kids[c]? = some x := ⟨m.1.kids[c]'(by omega), List.getElem?_eq_getElem (by omega)⟩
    have hxD : m.1.kids.getD c 0 = x := by rw [List.getD_eq_getElem?_getD, hx]; rfl
    have e : kidsG T.length i m.1.kind (m.2 ++ m.1.path) m.1.kids ps (c + 1) = if x = 0 then some q else if x ≤ (i : Int) ∨ (T.length : Int) ≤ x then none else some (q.set x.toNat (kidP m.1.kind (m.2 ++ m.1.path) c)) := by
      show (match kidsG T.length i m.1.kind (m.2 ++ m.1.path) m.1.kids ps c with | none => none | some q => _) = _
      rw [hq]
      simp only [hxD]
    rw [e]
    by_cases hx0 : x = 0
    · rw [if_pos hx0]
      refine ⟨q, rfl, hl, fun k m' hk hD => hled k m' hk ?_⟩
      rcases hD with hD | ⟨c', h1, h2, h3⟩
      · exact .inl hD
      · by_cases ec : c' = c
        · subst ec
          rw [hx] at h2
          have := Option.some.inj h2
          omega
        · exact .inr ⟨c', by omega, h2, h3⟩
    · rw [if_neg hx0]
      obtain ⟨j, m', ej, hij, hjl, hm', hp⟩ := blk_kid B hm hx hx0
      rw [if_neg (by omega)]
      refine ⟨_, rfl, by rw [List.length_set]; exact hl, fun k mk hk hD => ?_⟩
      rw [ej, Int.toNat_natCast]
      by_cases ek : j = k
      · subst ek
        rw [List.getElem?_set_self (by omega), ← hp]
        rw [hm'] at hk
        rw [Option.some.inj hk]
      · rw [List.getElem?_set_ne ek]
        refine hled k mk hk ?_
        rcases hD with hD | ⟨c', h1, h2, h3⟩
        · exact .inl hD
        · by_cases ec : c' = c
          · subst ec
            rw [hx] at h2
            have := Option.some.inj h2
            omega
          · exact .inr ⟨c', by omega, h2, h3⟩
def joinP (p : Pr) : Pr := (joinL p.1, p.2)
theorem join_half (p : Pr) : joinP (halfP p) = p := by unfold joinP halfP; rw [join_of]
def done (T : List NP) (i : Nat) : Nat → Prop := fun k => k = 0 ∨ ∃ (j : Nat) (m : NP) (c : Nat), j < i ∧ T[j]? = some m ∧ m.1.kids[c]? = some (k : Int) ∧ k ≠ 0
theorem filterMap_take {α β : Type} (f : α → Option β) (t : List α) (i : Nat) (m : α) (h : t[i]? = some m) : (t.take (i + 1)).filterMap f = (t.take i).filterMap f ++ (f m).toList := by
  rw [List.take_add_one, h, List.filterMap_append]
  cases hf : f m <;> simp [hf]
theorem gat_blk (F : Fit (l.map halfP) 0) (B : Blk (l.map halfP) 0 0 T) : ∀ i, i ≤ T.length → ∃ ps, gatN (T.map (·.1)) i = some (((T.take i).filterMap valOf).map joinP, ps) ∧ Led T ps (done T i)
  | 0, _ => by
    refine ⟨List.replicate T.length [], ?_, by simp, fun k m hk hD => ?_⟩
    · show some ([], List.replicate (T.map (·.1)).length []) = _
      rw [List.length_map]; rfl
    · rcases hD with rfl | ⟨j, _, _, hj, _⟩
      · obtain ⟨m0, r0, e, h0⟩ := B.head
        subst e
        obtain rfl := Option.some.inj hk
        rw [h0]; rfl
      · exact absurd hj (by omega)
  | i + 1, hi => by
    obtain ⟨ps, hg, hL⟩ := gat_blk F B i (by omega)
    obtain ⟨m, hm⟩ : ∃ m, T[i]? = some m := ⟨T[i]'(by omega), List.getElem?_eq_getElem (by omega)⟩
    have hD : done T i i := by
      rcases Nat.eq_zero_or_pos i with h0 | h0
      · exact .inl h0
      · obtain ⟨j, mj, c, hj, hmj, hc⟩ := blk_parent B h0 (by omega)
        exact .inr ⟨j, mj, c, hj, hmj, hc, by omega⟩
    have hpi : ps.getD i [] = m.2 := by rw [List.getD_eq_getElem?_getD, hL.2 i m hm hD]; rfl
    have hgood := blk_halves F B (List.mem_of_getElem? hm)
    obtain ⟨q, hq, hLq⟩ := led_kids B hm hL 16 (Nat.le_refl _)
    refine ⟨q, ?_, hLq.1, fun k mk hk hDk => hLq.2 k mk hk ?_⟩
    · show (match gatN (T.map fun m : NP => m.1) i with | none => none | some s => gatS (T.map fun m : NP => m.1) i s) = _
      rw [hg]
      show gatS (T.map fun m : NP => m.1) i _ = _
      unfold gatS
      simp only [get_map1 hm, hpi, hgood, List.length_map, hq, filterMap_take _ _ _ _ hm]
      rw [if_neg (by simp)]
      cases hh : m.1.has
      · rw [if_neg (by simp)]
        simp [valOf, hh]
      · have hmem : (m.2 ++ m.1.path, m.1.val) ∈ l.map halfP := by
          rw [← B.vals]
          exact List.mem_filterMap.2 ⟨m, List.mem_of_getElem? hm, by unfold valOf; rw [if_pos hh]⟩
        obtain ⟨p, hp, he⟩ := List.mem_map.1 hmem
        have hk : keyB (m.2 ++ m.1.path) = true := by
          have e1 : m.2 ++ m.1.path = ofL p.1 := (congrArg Prod.fst he).symm
          rw [e1]
          unfold keyB
          rw [halvesB_of, ofL_length, Bool.and_true]
          unfold oddB
          rw [decide_eq_false (by omega)]; rfl
        rw [if_neg (by rw [hk]; simp)]
        simp [valOf, hh, joinP]
    · rcases hDk with h0 | ⟨j, mj, c, hj, hmj, hc, h0⟩
      · exact .inl (.inl h0)
      · by_cases ej : j = i
        · subst ej
          rw [hm] at hmj
          obtain rfl := Option.some.inj hmj
          have hlen := blk_kids16 B (List.mem_of_getElem? hm)
          exact .inr ⟨c, by have := (List.getElem?_eq_some_iff.1 hc).1; omega, hc, h0⟩
        · exact .inl (.inr ⟨j, mj, c, by omega, hmj, hc, h0⟩)
end
theorem trie_blk {l : List Pr} (h : mayB l = true) (hne : l ≠ []) : Blk (l.map halfP) 0 0 (trieL l) := grow_blk 17 _ 0 0 (by omega) (may_fit h) (by simpa using hne)
theorem trie_nil : trieL [] = [] := grow_none 17 0 0
/-- Of pairs' nodes the pairs are these, and what leads to each is what led there. -/
theorem gat_trie {l : List Pr} (h : mayB l = true) : gatN (buildN l) (buildN l).length = some (l, (trieL l).map (·.2)) := by
  by_cases hne : l = []
  · subst hne
    unfold buildN; rw [trie_nil]; rfl
  · have B := trie_blk h hne
    obtain ⟨ps, hg, hl, hled⟩ := gat_blk (may_fit h) B _ (Nat.le_refl _)
    unfold buildN
    rw [List.length_map, hg, List.take_length, B.vals, List.map_map]
    have e1 : l.map (joinP ∘ halfP) = l := by
      conv => rhs; rw [← List.map_id l]
      exact List.map_congr_left fun p _ => join_half p
    have e2 : ps = (trieL l).map (·.2) := by
      apply List.ext_getElem?
      intro k
      by_cases hk : k < (trieL l).length
      · have hm := List.getElem?_eq_getElem hk
        rw [List.getElem?_map, hm]
        refine hled k _ hm ?_
        rcases Nat.eq_zero_or_pos k with h0 | h0
        · exact .inl h0
        · obtain ⟨j, mj, c, hj, hmj, hc⟩ := blk_parent B h0 hk
          exact .inr ⟨j, mj, c, by omega, hmj, hc, by omega⟩
      · rw [List.getElem?_eq_none (by omega), List.getElem?_eq_none (by rw [List.length_map]; omega)]
    rw [e1, e2]
/-- What is read of nodes: the pairs whose nodes they are. -/
theorem readF_iff {t : List Nd} {l : List Pr} {ps : List Bt} : readF t = some (l, ps) ↔ mayB l = true ∧ t = buildN l ∧ ps = (trieL l).map (·.2) := by
  constructor
  · intro h
    unfold readF at h
    cases hg : gatN t t.length with
    | none => rw [hg] at h; cases h
    | some s =>
      rw [hg] at h
      simp only at h
      split at h
      · next hb =>
        obtain rfl := Option.some.inj h
        rw [Bool.and_eq_true, decide_eq_true_eq] at hb
        obtain ⟨h1, h2⟩ := hb
        have := gat_trie h1
        simp only at h1 h2 this
        rw [h2, hg] at this
        exact ⟨h1, h2.symm, (Prod.mk.inj (Option.some.inj this)).2⟩
      · cases h
  · rintro ⟨h1, rfl, rfl⟩
    unfold readF
    rw [gat_trie h1]
    simp [h1]
theorem build_inj {l m : List Pr} (hl : mayB l = true) (hm : mayB m = true) (h : buildN l = buildN m) : l = m := by
  have h1 := gat_trie hl
  rw [h, gat_trie hm] at h1
  exact (Prod.mk.inj (Option.some.inj h1)).1.symm

end Go.Proofs.YtjpjcojabjkaaaaDoor
