/-
  Operations over many cells at once, as the walk meets them: a struct boxed, made, built, laid into its block, copied into from a text; results that are a struct and a value. What a frame's own functions tell: the page that it holds; its bytes. A region that draws its order and ends in a store: what reads is taken first, all of it in one walk, while the cells that it reads are held; then one operation behind the other; behind the store, which waits for all, nothing need be held. What Put and Right return: a page's bytes, or none; whether bytes are as long as a page and end in their sum. A pool in memory: its own cells, its frames, its map, its disk. What the document's own Of and Add return, bit by bit, for every text: the same sum. What the document's own big returns: a number's bytes, the highest first; and its Right. What the document's own Put returns: a page's bytes, or nothing.
-/
import Derived.Test.YtkcoclpbkealgaaDoorGah
import Derived.Deep.RegionHeld3
import Derived.Deep.Cut
import Derived.Deep.AppendLies
import Derived.OrdersHeld
import Derived.Deep.RegionHeld
import Derived.Test.YtkcoclpbkealgaaDoorGaa
import Derived.Maps.OwnSet
namespace Go.Proofs.YtkcoclpbkealgaaDoor
open Go.RowKit
set_option maxRecDepth 20000

theorem Row.but {w w' : World} {g b : Nat} {cs : Array Value} {t : TypeId} (h : Row w g cs t) (k : But b w w') (hg : g ≠ b) : Row w' g cs t := h.of (k.block g hg)
theorem Row.has {w : World} {g : Nat} {cs : Array Value} {t : TypeId} (h : Row w g cs t) (j : Nat) {v : Value} (hv : cs[j]? = some v) : w.cell? ⟨g, j, none⟩ = some v := (h.cell j).trans hv

section
variable {P : Program} {w : World} {ops : Array Oper} {rest : List Oper} {o : Oper} {a : Act} {Q : Exit → Act → World → Prop}
theorem wpList_box_at (hgd : o.guard = none) (d : Tmp) (hd : o.dst = some d) (t : TypeId) (x : Operand) (ho : o.op = .box t x) (cs : Array Value) (hx : a.eval x = .agg cs)
    (h : ∀ W', Row W' w.heap.size cs t → New w W' → wpList P ops Q rest (a.put (some d) (.pointer (some ⟨w.heap.size, 0, none⟩))) W') : wpList P ops Q (o :: rest) a w := by
  refine wpList_run hgd (.pointer (some ⟨w.heap.size, 0, none⟩)) (w.alloc (.cells cs t)) ?_ (by rw [hd]; exact h _ (Row.new w cs t) ((New.refl w).alloc _))
  unfold execOp
  simp [ho, hx, Instr.box, newVar, newRow, Value.cells]
theorem wpList_alloc_at (hgd : o.guard = none) (d : Tmp) (hd : o.dst = some d) (t : TypeId) (ho : o.op = .alloc t) (z : Array Value) (n b : Nat) (hi : (P.info? t).map (fun i => (i.zero, i.size, i.bytes)) = some (some (.agg z), n, b))
    (h : ∀ W', Row W' w.heap.size z t → New w W' → wpList P ops Q rest (a.put (some d) (.pointer (some ⟨w.heap.size, 0, none⟩))) W') : wpList P ops Q (o :: rest) a w :=
  wpList_alloc_zero hgd t ho z n b hi (by rw [hd]; exact h _ (Row.new w z t) ((New.refl w).alloc _))
theorem wpList_build4 (hgd : o.guard = none) (t : TypeId) (x0 x1 x2 x3 : Operand) (ho : o.op = .build t #[(0, x0), (1, x1), (2, x2), (3, x3)]) (v0 v1 v2 v3 : Value) (h0 : a.eval x0 = v0) (h1 : a.eval x1 = v1) (h2 : a.eval x2 = v2) (h3 : a.eval x3 = v3) (cs : Array Value) (hb : P.built t [(0, v0), (1, v1), (2, v2), (3, v3)] = some cs)
    (h : wpList P ops Q rest (a.put o.dst (.agg cs)) w) : wpList P ops Q (o :: rest) a w := by
  have hv : ((#[(0, x0), (1, x1), (2, x2), (3, x3)] : Array (Nat × Operand)).map fun (i, x) => (i, a.eval x)).toList = [(0, v0), (1, v1), (2, v2), (3, v3)] := by simp [h0, h1, h2, h3]
  refine wpList_build hgd t _ ho (by rw [hv, hb]; rfl) ?_
  rw [hv, hb]
  exact h
theorem wpList_build3 (hgd : o.guard = none) (t : TypeId) (x0 x1 x2 : Operand) (ho : o.op = .build t #[(0, x0), (1, x1), (2, x2)]) (v0 v1 v2 : Value) (h0 : a.eval x0 = v0) (h1 : a.eval x1 = v1) (h2 : a.eval x2 = v2) (cs : Array Value) (hb : P.built t [(0, v0), (1, v1), (2, v2)] = some cs)
    (h : wpList P ops Q rest (a.put o.dst (.agg cs)) w) : wpList P ops Q (o :: rest) a w := by
  have hv : ((#[(0, x0), (1, x1), (2, x2)] : Array (Nat × Operand)).map fun (i, x) => (i, a.eval x)).toList = [(0, v0), (1, v1), (2, v2)] := by simp [h0, h1, h2]
  refine wpList_build hgd t _ ho (by rw [hv, hb]; rfl) ?_
  rw [hv, hb]
  exact h
theorem wpList_build2 (hgd : o.guard = none) (t : TypeId) (x0 x1 : Operand) (ho : o.op = .build t #[(0, x0), (1, x1)]) (v0 v1 : Value) (h0 : a.eval x0 = v0) (h1 : a.eval x1 = v1) (cs : Array Value) (hb : P.built t [(0, v0), (1, v1)] = some cs)
    (h : wpList P ops Q rest (a.put o.dst (.agg cs)) w) : wpList P ops Q (o :: rest) a w := by
  have hv : ((#[(0, x0), (1, x1)] : Array (Nat × Operand)).map fun (i, x) => (i, a.eval x)).toList = [(0, v0), (1, v1)] := by simp [h0, h1]
  refine wpList_build hgd t _ ho (by rw [hv, hb]; rfl) ?_
  rw [hv, hb]
  exact h
theorem wpList_build0 (hgd : o.guard = none) (t : TypeId) (ho : o.op = .build t #[]) (cs : Array Value) (hb : P.built t [] = some cs)
    (h : wpList P ops Q rest (a.put o.dst (.agg cs)) w) : wpList P ops Q (o :: rest) a w := by
  refine wpList_build hgd t _ ho (by simp [hb]) ?_
  simpa [hb] using h
theorem results_cell_tmp {fn : Func} {p q : Tmp} {ty : TypeId} (h : fn.results = #[.cell p ty, .tmp q]) (tmps : Array Value) (w : World) (g : Nat) (t : TypeId) (cs : Array Value) (fr : Nat × Nat) (d : TypeDesc) (v : Value)
    (hp : tmps.getD p undef = .pointer (some ⟨g, 0, none⟩)) (hq : tmps.getD q undef = v) (hg : w.heap[g]? = some (.cells cs t fr))
    (hu : P.underlying ty = some d) (hd : (match d with | .struct _ | .array _ _ => true | _ => false) = true) (hi : (P.info? ty).map (·.size) = some cs.size) :
    (results fn tmps).run P w = .ok (.tuple #[.agg cs, v]) w := by
  have hp' : tmps[p]?.getD undef = .pointer (some ⟨g, 0, none⟩) := by simpa using hp
  have hq' : tmps[q]?.getD undef = v := by simpa using hq
  simp [results, h, hp', hq', asAddr, run_loadVar_row w g t ty cs fr d hg hu hd hi]
end

/-- A text over a piece of a row of bytes that has room for it. -/
theorem run_copy_text {w : World} {g o m : Nat} (t : ByteArray) (hm : t.size ≤ m) (ht : w.there g o t.size) (ty : TypeId) :
    (Builtin.copy_ #[22, 9] ty #[.slice (some ⟨g, o, none⟩) m m, .string t]).run Tryd.prog w = .ok (goInt t.size) (w.setCells g o (cellsL (L t))) := by
  obtain ⟨i0, hi0, _, _, _⟩ := info_parts info5
  have hl : (cellsL (L t)).length = t.size := by rw [cellsL_length, L_size]
  have hs := run_storeCells_cells (P := Tryd.prog) g o (cellsL (L t)) 0 w (fun j hj => (ht j (by omega)).1) (fun j hj => (ht j (by omega)).2) (cellsL_one _)
  have he : (List.map (fun b => Value.int .u8 (b.toNat : Int)) t.data.toList).take t.size = cellsL (L t) := by
    unfold cellsL L
    rw [List.take_of_length_le]
    rw [List.length_map]
    exact Nat.le_of_eq (L_size t)
  have hmm : Nat.min t.size m = t.size := Nat.min_eq_left hm
  simp [Builtin.copy_, run_underlying Tryd.underlying22, Builtin.lenOf, Builtin.firstCells, sizeOf, typeInfo, hi0, hmm]
  rw [he, hs]
  rfl
theorem wpList_copy_text {w : World} {ops : Array Oper} {rest : List Oper} {o : Oper} {a : Act} {Q : Exit → Act → World → Prop} (hgd : o.guard = none) (d s : Operand)
    (ho : o.op = .call { callee := .builtin .copy, args := #[d, s], argTypes := #[22, 9] }) (g off m : Nat) (t : ByteArray) (hd : a.eval d = .slice (some ⟨g, off, none⟩) m m) (hs : a.eval s = .string t)
    (hm : t.size ≤ m) (ht : w.there g off t.size)
    (h : ∀ W', W' = w.setCells g off (cellsL (L t)) → wpList Tryd.prog ops Q rest (a.put o.dst (goInt t.size)) W') : wpList Tryd.prog ops Q (o :: rest) a w := by
  refine wpList_plain hgd fun K hK => ?_
  have hrun := run_copy_text t hm ht o.type
  unfold Oper.wp
  simp [execOp, ho, resolve, invoke, builtin, hd, hs, hrun, Result.andThen]
  exact hK _ _ (h _ rfl)

end Go.Proofs.YtkcoclpbkealgaaDoor
namespace Go.Proofs.YtkcoclpbkealgaaDoor
open Go.RowKit
set_option maxRecDepth 20000

theorem built23 (k g : Int) (s : ByteArray) : Tryd.prog.built 111 [(0, .int .i64 k), (1, .int .i64 g), (2, .string s)] = some #[.int .i64 k, .int .i64 g, .string s] := by kernel_rfl

theorem pg_all (k g : Int) (s : ByteArray) : (#[.int .i64 k, .int .i64 g, .string s] : Array Value).all (·.oneCell') = true := all_oneCell_toArray (cs := [.int .i64 k, .int .i64 g, .string s]) fun v hv => by
  simp only [List.mem_cons, List.not_mem_nil, or_false] at hv
  rcases hv with rfl | rfl | rfl <;> rfl

theorem own_after {w w' : World} {B : Nat} {t : TypeId} {k n : Nat} {v : Value} {xs : List Value} (h : w.ownsRow B t k v n xs) (N : New w w') : w'.ownsRow B t k v n xs := by
  rcases h with ⟨h1, h2 | ⟨g, cap, cur, hv, hb, h3, h4⟩⟩
  · exact ⟨h1, .inl h2⟩
  · exact ⟨h1, .inr ⟨g, cap, cur, hv, hb, (N.block g (Array.getElem?_eq_some_iff.1 h3).1).trans h3, h4⟩⟩
end Go.Proofs.YtkcoclpbkealgaaDoor
namespace Go.Proofs.YtkcoclpbkealgaaDoor
open Go
set_option maxRecDepth 20000

section
variable {P : Program} {ops : Array Oper} {Q : Exit → Act → World → Prop} {md : Region.Mode} {S : World → Prop} {z : Nat}

variable {rest : List Oper} {ks : List Nat} {k : Nat} {o : Oper} {a : Act} {w : World}
/-- What an operation does hangs on neither of two states. -/
def Same (ops : Array Oper) (o : Oper) (a a' : Act) : Prop := execOp a'.eval o = execOp a.eval o ∧ Region.wanted o (yielded ops a'.tmps) = Region.wanted o (yielded ops a.tmps)
theorem wpOp_same {j : Nat} {oi oj : Oper} (hj : ops[j]? = some oj) (hsi : ∀ cs b, oi.op ≠ .select cs b) (h3 : ∀ d, oj.dst = some d → d ∉ oi.looksAt ops) {K : Act → World → Prop} {a : Act} {w : World} (h : wpOp P ops Q j K a w) :
    wpOp P ops Q j (fun a' w' => Same ops oi a a' ∧ K a' w') a w := by
  have keep : ∀ (b : Act) (u : Value), Same ops oi b (b.put oj.dst u) := fun b u => ⟨execOp_put oi hsi b oj.dst u h3, wanted_put oi b oj.dst u h3⟩
  unfold Go.wpOp at *
  simp only [hj] at *
  by_cases hw : Region.wanted oj (yielded ops a.tmps) = true
  · rw [if_pos hw] at h ⊢
    rcases h with h | h
    · refine .inl ?_
      unfold Oper.wp at *
      revert h
      cases (execOp a.eval oj).run P w with
      | ok n w' =>
        cases n
        all_goals simp only [Oper.upon]
        all_goals intro h
        all_goals first
          | exact ⟨keep _ _, h⟩
          | exact h
          | (refine Rows.mono h fun u w'' he => ⟨keep _ _, he⟩)
          | (refine Calls.mono h fun e w'' he => ?_
             cases e
             all_goals first
               | exact ⟨keep _ _, he⟩
               | exact he)
      | halt x w' =>
        cases x
        all_goals simp only [Oper.upon]
        all_goals exact fun h => h
    · exact .inr h
  · rw [if_neg hw] at h ⊢
    exact ⟨keep _ _, h⟩

/-- A call that tells v and leaves the world as it was. -/
def Still (P : Program) (ops : Array Oper) (S : World → Prop) (o : Oper) (v : Value) (a : Act) : Prop :=
  Region.wanted o (yielded ops a.tmps) = true ∧ ∃ f args, (∀ w, S w → (execOp a.eval o).run P w = .ok (.enter f args) w) ∧ ∀ w, S w → Calls P f args w fun e w' => e = .returned v ∧ w' = w
theorem Still.same {oi : Oper} {v : Value} {a a' : Act} (h : Still P ops S oi v a) (k : Same ops oi a a') : Still P ops S oi v a' := by
  obtain ⟨h1, f, args, h2, h3⟩ := h
  exact ⟨by rw [k.2]; exact h1, f, args, fun w hw => by rw [k.1]; exact h2 w hw, h3⟩
theorem Still.wpOp {i : Nat} {oi : Oper} {v : Value} {a : Act} {w : World} (h : Still P ops S oi v a) (hi : ops[i]? = some oi) (hS : S w) {K : Act → World → Prop} (hK : K (a.put oi.dst v) w) : Go.wpOp P ops Q i K a w := by
  obtain ⟨h1, f, args, h2, h3⟩ := h
  refine wpOp_call oi.dst f args hi rfl h1 (h2 w hS) ((h3 w hS).mono ?_)
  rintro _ w' ⟨rfl, rfl⟩
  exact ⟨v, rfl, hK⟩
theorem wpG.putStill {i : Nat} {oi : Oper} {v : Value} (hi : ops[i]? = some oi) (hsel : ∀ (j : Nat) (o : Oper) cs b, ops[j]? = some o → o.op ≠ .select cs b) (hQ : ∀ c a w, Q (.panic c) (a.put oi.dst v) w → Q (.panic c) a w)
    (hz : waitsFor md ops z i = true) : ∀ (n : Nat) (li : Array Bool) (a : Act) (w : World), Free md ops oi i li → i ∈ Region.ready md ops li → Still P ops S oi v a → S w →
      wpG P md ops Q S z n (li.setIfInBounds i true) (a.put oi.dst v) w → wpG P md ops Q S z (n + 1) li a w := by
  intro n
  induction n with
  | zero =>
    intro li a w _ hr hy hS H
    refine ⟨fun h => absurd (h ▸ hr) (List.not_mem_nil), fun j hj => ?_⟩
    by_cases e : j = i
    · exact e ▸ hy.wpOp hi hS ⟨fun _ => hS, H⟩
    · exact absurd (H.1 ▸ ready_mono hj e) (List.not_mem_nil)
  | succ n ih =>
    intro li a w hf hr hy hS H
    refine ⟨fun h => absurd (h ▸ hr) (List.not_mem_nil), fun j hj => ?_⟩
    by_cases e : j = i
    · exact e ▸ hy.wpOp hi hS ⟨fun _ => hS, H⟩
    · obtain ⟨hun, oj, hoj, _⟩ := mem_ready.1 hj
      have hjz : j ≠ z := fun h => waitsFor.not hz hr (h ▸ hj)
      have hap := hf j oj hoj e hun (ready_apart hr hj hoj)
      have h1 := wpOp_putIf (S := fun _ => False) hoj hap (fun cs b => hsel i oi cs b hi) (fun cs b => hsel j oj cs b hoj) hQ (.inl ⟨hy.1, fun _ h => h.elim⟩) (H.2 j (ready_mono hj e))
      refine wpOp_mono (fun a' w' k => ?_) (wpOp_same (oi := oi) hoj (fun cs b => hsel i oi cs b hi) (Oper.apart_spec hap).2.2 h1)
      obtain ⟨hsame, _, hS', H'⟩ := k
      rw [Array.setIfInBounds_comm _ _ (Ne.symm e)] at H'
      exact ⟨hS', ih _ a' w' (hf.set hj) (ready_mono hr (Ne.symm e)) (hy.same hsame) (hS' hjz) H'⟩
theorem wpG.takeCall (i : Nat) {oi : Oper} {n : Nat} (d : Option Tmp) (f : FuncId) (args : Array Value) (v : Value) {li : Array Bool} {a : Act} {w : World} (hi : ops[i]? = some oi)
    (hB : (Region.noSelect ops && Region.free md ops li i && (Region.ready md ops li).contains i && waitsFor md ops z i) = true)
    (hQ : ∀ c a w, Q (.panic c) (a.put oi.dst v) w → Q (.panic c) a w) (hd : oi.dst = d) (hw : Region.wanted oi (yielded ops a.tmps) = true) (hS : S w) (hrun : ∀ w, S w → (execOp a.eval oi).run P w = .ok (.enter f args) w)
    (hc : ∀ w, S w → Calls P f args w fun e w' => e = .returned v ∧ w' = w)
    (h : wpG P md ops Q S z n (li.setIfInBounds i true) (a.put d v) w) : wpG P md ops Q S z (n + 1) li a w := by
  simp only [Bool.and_eq_true] at hB
  subst hd
  exact wpG.putStill hi (Region.noSelect_spec hB.1.1.1) hQ hB.2 n li a w (Region.free_spec hi hB.1.1.2) (by simpa using hB.1.2) ⟨hw, f, args, hrun, hc⟩ hS h

end
end Go.Proofs.YtkcoclpbkealgaaDoor
namespace Go.Proofs.YtkcoclpbkealgaaDoor
open Go.RowKit
set_option maxRecDepth 20000

theorem bs_append (l m : List UInt8) : bs l ++ bs m = bs (l ++ m) := eq_of_L (by rw [L_append, L_bs, L_bs, L_bs])
theorem new_of_eq {w w' : World} (h : w' = w) : New w w' := by rw [h]; exact New.refl w

set_option maxRecDepth 20000 in
set_option maxHeartbeats 2000000 in
theorem right_any (s : ByteArray) (w : World) (hT : Tab w) :
    Calls Tryd.prog 62 #[.string s] w fun e w' => e = .returned (.bool (rightB (L s))) ∧ New w w' := by
  by_cases h : s.size = 256
  · obtain ⟨t, ht⟩ : ∃ t, s.extract 0 252 = t := ⟨_, rfl⟩
    obtain ⟨u, hu⟩ : ∃ u, s.extract 252 256 = u := ⟨_, rfl⟩
    have hL : (L s).length = 256 := by rw [L_size]; exact h
    have hLt : L t = (L s).take 252 := by rw [← ht, L_extract, List.drop_zero]
    have hLu : L u = (L s).drop 252 := by rw [← hu, L_extract, List.take_of_length_le (by omega)]
    have hts : t.size = 252 := by rw [← L_size, hLt, List.length_take]; omega
    obtain ⟨v, hv⟩ : ∃ v, sumL 0 (L t) = v := ⟨_, rfl⟩
    have hvl : v < 4294967296 := by rw [← hv]; exact sumL_lt (by decide) _
    have hof : ∀ w, Tab w → Calls Tryd.prog 79 #[.string t] w fun e w' => e = .returned (.int .u32 (v : Int)) ∧ w' = w := fun w h => by
      have := of_any t (by omega) w h
      rw [hv] at this
      exact this
    have HR : Hid (rightB (L s) = (u.toList == (bs (putL v)).toList)) := by
      show _ = _
      unfold rightB
      rw [← hLt, ← hLu, hv, hL, ByteArray.toList_eq, ByteArray.toList_eq]
      rfl
    clear hv hLt hLu hL
    go_enter Tryd.func62, Tryd.ntmps62
    go_wp2_with fail
    have hne := NewW.ne w
    refine region_first 13 0 w (New.refl w) (by kernel_rfl) (by kernel_rfl) ?_
    simp only [List.take_succ_cons, List.take_zero, List.drop_succ_cons, List.drop_zero]
    repeat (go_big_quiet_step (first | (go_at_call 79; exact Calls.neww_same (hof _ (hT.after (NewW.h _)))) | (go_at_call 78; exact Calls.neww (put_any v hvl _))))
    refine wpQuiet_nil ?_
    rintro w5 ⟨⟨_, hk5⟩, rfl⟩
    go_wp2_with fail
    go_ret
    exact ⟨by rw [HR.out]; rfl, hk5⟩
  · have h1 : ((s.size : Int) == 256) = false := by rw [beq_eq_false_iff_ne]; omega
    have h2 : (s.size == 256) = false := by rw [beq_eq_false_iff_ne]; omega
    have HR : Hid (rightB (L s) = false) := rightB_false (fun h0 => h (by rw [← L_size]; exact h0.1))
    clear h
    go_enter Tryd.func62, Tryd.ntmps62
    go_wp2_with fail
    have hne := NewW.ne w
    refine region_first 13 0 w (New.refl w) (by kernel_rfl) (by kernel_rfl) ?_
    simp only [List.take_succ_cons, List.take_zero, List.drop_succ_cons, List.drop_zero]
    repeat (go_big_quiet_step (fail))
    refine wpQuiet_nil ?_
    rintro w5 ⟨⟨_, hk5⟩, rfl⟩
    go_wp2_with fail
    go_ret
    exact ⟨by rw [HR.out]; rfl, hk5⟩

end Go.Proofs.YtkcoclpbkealgaaDoor
namespace Go.Proofs.YtkcoclpbkealgaaDoor
open Go.RowKit Go.Maps
set_option maxRecDepth 20000

def fmL (f : Fm) : List Value := [.int .i64 (f.at_ : Int), .string (bs f.data), .int .i64 (f.pins : Int), .bool f.dirty, .bool f.used]
theorem fmL_length (f : Fm) : (fmL f).length = 5 := rfl
theorem fmL_one (f : Fm) : ∀ v ∈ fmL f, v.oneCell' = true := fun v hv => by
  simp only [fmL, List.mem_cons, List.not_mem_nil, or_false] at hv
  rcases hv with rfl | rfl | rfl | rfl | rfl <;> rfl

def Apart (ks : List (Option Nat)) : Prop := ∀ i j x : Nat, ks[i]? = some (some x) → ks[j]? = some (some x) → i = j
theorem idx_iff {a : Int} {ks : List (Option Nat)} (hA : Apart ks) (i : Nat) : idx a ks = some i ↔ ∃ x : Nat, ks[i]? = some (some x) ∧ (x : Int) = a :=
  ⟨idx_at, fun ⟨_, h1, h2⟩ => idx_eq hA h1 h2⟩
theorem idx_ext {a : Int} {ks ks' : List (Option Nat)} (hA' : Apart ks') (h : ∀ i x : Nat, (x : Int) = a → (ks[i]? = some (some x) ↔ ks'[i]? = some (some x))) : idx a ks = idx a ks' := by
  cases h1 : idx a ks with
  | some i => obtain ⟨x, h2, h3⟩ := idx_at h1; exact (idx_eq hA' ((h i x h3).1 h2) h3).symm
  | none =>
    cases h2 : idx a ks' with
    | none => rfl
    | some j => obtain ⟨x, h3, h4⟩ := idx_at h2; exact absurd h4 (idx_none h1 j x ((h j x h4).2 h3))
theorem Apart.put {ks : List (Option Nat)} (hA : Apart ks) {i a : Nat} (hn : idx (a : Int) ks = none) : Apart (ks.set i (some a)) := by
  have key : ∀ j x : Nat, (ks.set i (some a))[j]? = some (some x) → (i = j ∧ x = a) ∨ (i ≠ j ∧ ks[j]? = some (some x) ∧ x ≠ a) := fun j x hj => by
    by_cases e : i = j
    · subst e
      by_cases hi : i < ks.length
      · rw [List.getElem?_set_self hi] at hj; simp at hj; exact .inl ⟨rfl, hj.symm⟩
      · rw [List.getElem?_eq_none (by rw [List.length_set]; omega)] at hj; cases hj
    · rw [List.getElem?_set_ne e] at hj; exact .inr ⟨e, hj, fun e2 => idx_none hn j x hj (by rw [e2])⟩
  intro j k x hj hk
  rcases key j x hj with ⟨h1, h2⟩ | ⟨h1, h2, h3⟩ <;> rcases key k x hk with ⟨k1, k2⟩ | ⟨k1, k2, k3⟩
  · omega
  · exact absurd h2 k3
  · exact absurd k2 h3
  · exact hA j k x h2 k2
theorem Apart.del {ks : List (Option Nat)} (hA : Apart ks) (i : Nat) : Apart (ks.set i none) := by
  have key : ∀ j x : Nat, (ks.set i none)[j]? = some (some x) → ks[j]? = some (some x) := fun j x hj => by
    by_cases e : i = j
    · subst e
      by_cases hi : i < ks.length
      · rw [List.getElem?_set_self hi] at hj; cases hj
      · rw [List.getElem?_eq_none (by rw [List.length_set]; omega)] at hj; cases hj
    · rwa [List.getElem?_set_ne e] at hj
  exact fun j k x hj hk => hA j k x (key j x hj) (key k x hk)

/-- What the map reads as: by a page's number, which frame has it. -/
def MapOf (D : DataW Unit) (ks : List (Option Nat)) : Prop :=
  ∀ a : Int, Maps.has D (.int .i64 a) = (idx a ks).isSome ∧ D.atKey (.int .i64 a) (.lit (.int .i64 0)) = .lit (.int .i64 (((idx a ks).getD 0 : Nat) : Int))
theorem lit_ne {a x : Int} (h : x ≠ a) : (Lit.int .i64 x) ≠ .int .i64 a := fun e => h (by injection e)
theorem MapOf.put {D : DataW Unit} {ks : List (Option Nat)} (h : MapOf D ks) (hD : IsMap D) (hA : Apart ks) {i a : Nat} (hi : i < ks.length) (hk : ks[i]? = some none) (hn : idx (a : Int) ks = none) : MapOf (D.put (.int .i64 (a : Int)) (.lit (.int .i64 (i : Int)))) (ks.set i (some a)) := by
  intro x
  have hA' := hA.put (i := i) hn
  by_cases e : x = (a : Int)
  · subst e
    have : idx (a : Int) (ks.set i (some a)) = some i := idx_eq hA' (List.getElem?_set_self hi) rfl
    have hkl : WideAt.IsKeyLit (Lit.int .i64 (a : Int)) := trivial
    rw [this, has_put_same hD hkl, atKey_put_same hD hkl]
    exact ⟨rfl, rfl⟩
  · rw [has_put_other (lit_ne e), atKey_put_other (lit_ne e)]
    have : idx x (ks.set i (some a)) = idx x ks := idx_ext hA fun j y hy => by
      by_cases e2 : i = j
      · subst e2
        rw [List.getElem?_set_self hi, hk]
        simp only [Option.some.injEq, reduceCtorEq, iff_false]
        intro e3; apply e; rw [← hy, e3]
      · rw [List.getElem?_set_ne e2]
    rw [this]; exact h x
theorem MapOf.del {D : DataW Unit} {ks : List (Option Nat)} (h : MapOf D ks) (hA : Apart ks) {i a : Nat} (hk : ks[i]? = some (some a)) : MapOf (D.del (.int .i64 (a : Int))) (ks.set i none) := by
  intro x
  have hA' := hA.del i
  have hi : i < ks.length := (List.getElem?_eq_some_iff.1 hk).1
  by_cases e : x = (a : Int)
  · subst e
    have : idx (a : Int) (ks.set i none) = none := by
      cases h1 : idx (a : Int) (ks.set i none) with
      | none => rfl
      | some j =>
        obtain ⟨y, hy, hya⟩ := idx_at h1
        have e3 : y = a := by omega
        subst e3
        by_cases e2 : i = j
        · subst e2; rw [List.getElem?_set_self hi] at hy; cases hy
        · rw [List.getElem?_set_ne e2] at hy; exact absurd (hA i j _ hk hy) e2
    rw [this, has_del_same, atKey_del_same]
    exact ⟨rfl, rfl⟩
  · rw [has_del_other (lit_ne e), atKey_del_other (lit_ne e)]
    have : idx x (ks.set i none) = idx x ks := idx_ext hA fun j y hy => by
      by_cases e2 : i = j
      · subst e2
        rw [List.getElem?_set_self hi, hk]
        simp only [Option.some.injEq, reduceCtorEq, false_iff]
        intro e3; apply e; rw [← hy, ← e3]
      · rw [List.getElem?_set_ne e2]
    rw [this]; exact h x

/-- The blocks of a pool and of its disk. -/
def own (p g b : Nat) (Fd : Nat → Prop) (k : Nat) : Prop := k = p ∨ k = g ∨ k = b ∨ Fd k
theorem mapLaw : Keyed Tryd.prog 3 := int_keyed Tryd.underlying3
theorem zero3 (w : World) : (zeroValue 3).run Tryd.prog w = .ok (.int .i64 0) w := by kernel_rfl
theorem i103 : (Tryd.prog.info? 103).map (·.size) = some 5 := by kernel_rfl
theorem info103 : (Tryd.prog.info? 103).map (fun i => (i.zero, i.size, i.bytes)) = some (some (.agg (fmL noFm).toArray), 5, 40) := by kernel_rfl

/-- A pool's parts; ks: what its map says. -/
structure Bits (w : World) (m p g b q : Nat) (Fd : Nat → Prop) (d : St) (fs : List Fm) (hand : Nat) (ks : List (Option Nat)) : Prop where
  tab : Tab w
  row : Row w p #[.pointer (some ⟨q, 0, none⟩), .slice (some ⟨g, 0, none⟩) fs.length fs.length, .map (some b), .int .i64 (hand : Int)] 92
  pl : Pl w (fun x => x = g) 103 5 (.slice (some ⟨g, 0, none⟩) fs.length fs.length) (fs.map fmL)
  map : ∃ D : DataW Unit, w.ownsMap Tryd.prog 3 (plainElem Tryd.prog 3) b m D ∧ MapOf D ks
  disk : Disk w Fd q d
  keys : Apart ks
  pg : p ≠ g
  pb : p ≠ b
  gb : g ≠ b
  np : ¬ Fd p
  ng : ¬ Fd g
  nb : ¬ Fd b
  n0 : ¬ Fd 0
  p0 : p ≠ 0
  g0 : g ≠ 0
  b0 : b ≠ 0
section
variable {w w' : World} {m p g b q : Nat} {Fd : Nat → Prop} {d : St} {fs : List Fm} {hand : Nat} {ks : List (Option Nat)}
theorem Tab.of (h : Tab w) (h0 : w'.heap[0]? = w.heap[0]?) (hs : w.heap.size ≤ w'.heap.size) : Tab w' := by
  refine ⟨Nat.lt_of_lt_of_le h.1 hs, fun i hi => ?_⟩
  have := h.2 i hi
  unfold World.cell? at this ⊢
  simp only at this ⊢
  rw [h0]; exact this
theorem owns_of {D : DataW Unit} (h : w.ownsMap Tryd.prog 3 (plainElem Tryd.prog 3) b m D) (e : w'.heap[b]? = w.heap[b]?) : w'.ownsMap Tryd.prog 3 (plainElem Tryd.prog 3) b m D := by
  obtain ⟨es, clock, hb, r⟩ := h
  exact ⟨es, clock, e.trans hb, r⟩
theorem Bits.g_lt (h : Bits w m p g b q Fd d fs hand ks) : g < w.heap.size := h.pl.lt rfl
theorem Bits.b_lt (h : Bits w m p g b q Fd d fs hand ks) : b < w.heap.size := by obtain ⟨D, h1, _⟩ := h.map; exact h1.lt
theorem Bits.mono (h : Bits w m p g b q Fd d fs hand ks) {n : Nat} (hn : m ≤ n) : Bits w n p g b q Fd d fs hand ks :=
  { h with map := by obtain ⟨D, h1, h2⟩ := h.map; exact ⟨D, h1.mono hn, h2⟩ }
/-- New memory alone. -/
theorem Bits.after (h : Bits w m p g b q Fd d fs hand ks) (n : New w w') : Bits w' m p g b q Fd d fs hand ks :=
  { h with
    tab := h.tab.after n
    row := h.row.after n
    pl := h.pl.after n
    map := by obtain ⟨D, h1, h2⟩ := h.map; exact ⟨D, owns_of h1 (n.block b h1.lt), h2⟩
    disk := h.disk.after n }
/-- The hand. -/
theorem Bits.setHand (h : Bits w m p g b q Fd d fs hand ks) (k : Nat) : Bits (w.setCell ⟨p, 3, none⟩ (.int .i64 (k : Int))) m p g b q Fd d fs k ks := by
  have e : ∀ x, x ≠ p → (w.setCell ⟨p, 3, none⟩ (.int .i64 (k : Int))).heap[x]? = w.heap[x]? := fun x hx => Below.heap_setCell _ _ _ _ hx
  have hs : w.heap.size ≤ (w.setCell ⟨p, 3, none⟩ (.int .i64 (k : Int))).heap.size := by simp [World.setCell]
  exact { h with
    tab := h.tab.of (e 0 h.p0.symm) hs
    row := h.row.set 3 _
    pl := h.pl.of (fun x hx _ => e x (hx ▸ h.pg.symm)) (fun _ h _ => h)
    map := by obtain ⟨D, h1, h2⟩ := h.map; exact ⟨D, owns_of h1 (e b h.pb.symm), h2⟩
    disk := h.disk.of (fun x hx => e x (fun e2 => h.np (e2 ▸ hx))) hs }
/-- A frame. -/
theorem Bits.frames {fs' : List Fm} (h : Bits w m p g b q Fd d fs hand ks) (hb : But g w w') (hl : fs'.length = fs.length) (hp : Pl w' (fun x => x = g) 103 5 (.slice (some ⟨g, 0, none⟩) fs.length fs.length) (fs'.map fmL)) : Bits w' m p g b q Fd d fs' hand ks :=
  { h with
    tab := h.tab.of (hb.block 0 h.g0.symm) (by rw [hb.size]; exact Nat.le_refl _)
    row := by rw [hl]; exact h.row.of (hb.block p h.pg)
    pl := by rw [hl]; exact hp
    map := by obtain ⟨D, h1, h2⟩ := h.map; exact ⟨D, owns_of h1 (hb.block b h.gb.symm), h2⟩
    disk := h.disk.of (fun x hx => hb.block x (fun e2 => h.ng (e2 ▸ hx))) (by rw [hb.size]; exact Nat.le_refl _) }
theorem Pl.setField {F : Nat → Prop} {t : TypeId} {k n c : Nat} {es : List (List Value)} (h : Pl w F t k (.slice (some ⟨g, 0, none⟩) n c) es) {i : Nat} (hi : i < es.length) {j : Nat} (hj : j < k) (v : Value) :
    Pl (w.setCell ⟨g, i * k + j, none⟩ v) F t k (.slice (some ⟨g, 0, none⟩) n c) (es.set i (es[i].set j v)) := by
  obtain ⟨cur, R, rfl, h4, h5, h6, h7⟩ := h.row
  have hik : i * k + k ≤ es.length * k := by rw [← Nat.succ_mul]; exact Nat.mul_le_mul_right _ hi
  have hck : es.length * k ≤ c * k := Nat.mul_le_mul_right _ h4
  have hei := h.each _ (List.getElem_mem hi)
  have := Pl.make (w := w.setCell ⟨g, i * k + j, none⟩ v) (F := F) (t := t) (k := k) (g := g) (c := c) (es := es.set i (es[i].set j v)) (cur := cur.setIfInBounds (i * k + j) v) ?_ (R.set _ _) (by rw [List.length_set]; exact h4) h5 (by rw [Array.size_setIfInBounds, h6]) ?_ (h.foot g rfl)
  · rw [List.length_set] at this; exact this
  · intro x hx
    rcases List.mem_or_eq_of_mem_set hx with h1 | rfl
    · exact h.each x h1
    · rw [List.length_set]; exact hei
  · rw [List.length_set, Array.toList_setIfInBounds, List.take_set, h7, ← flat_set i hi h.each _ (by rw [List.length_set]; exact hei)]
    unfold put
    rw [List.length_set, hei]
    apply List.ext_getElem?
    intro x
    have hfl := flat_length h.each
    by_cases h1 : x < i * k
    · rw [List.getElem?_set_ne (by omega), List.getElem?_append_left (by rw [List.length_take]; omega), List.getElem?_take, if_pos h1]
    · rw [List.getElem?_append_right (by rw [List.length_take]; omega), List.length_take, show min (i * k) es.flatten.length = i * k by omega]
      by_cases h2 : x < i * k + k
      · rw [List.getElem?_append_left (by rw [List.length_set]; omega)]
        by_cases h3 : x = i * k + j
        · subst h3
          rw [List.getElem?_set_self (by omega), show i * k + j - i * k = j by omega, List.getElem?_set_self (by omega)]
        · rw [List.getElem?_set_ne (by omega), List.getElem?_set_ne (by omega), show x = i * k + (x - i * k) by omega, flat_cell h.each hi (by omega)]
          congr 1; omega
      · rw [List.getElem?_set_ne (by omega), List.getElem?_append_right (by rw [List.length_set]; omega), List.length_set, hei, List.getElem?_drop]
        congr 1; omega
theorem But.setCell' (w : World) (g i : Nat) (v : Value) : But g w (w.setCell ⟨g, i, none⟩ v) := ⟨rfl, rfl, rfl, by simp [World.setCell], fun k hk => Below.heap_setCell _ _ _ _ hk⟩
theorem Bits.field (h : Bits w m p g b q Fd d fs hand ks) {i j : Nat} (hi : i < fs.length) (hj : j < 5) {v : Value} {f : Fm} (hf : (fmL (fs.getD i noFm)).set j v = fmL f) : Bits (w.setCell ⟨g, i * 5 + j, none⟩ v) m p g b q Fd d (fs.set i f) hand ks := by
  have h1 := h.pl.setField (i := i) (by rw [List.length_map]; exact hi) hj v
  refine h.frames (But.setCell' w g _ v) (List.length_set ..) ?_
  rw [List.map_set, ← hf]
  have : (fs.map fmL)[i]'(by rw [List.length_map]; exact hi) = fmL (fs.getD i noFm) := by rw [List.getElem_map, List.getD_eq_getElem?_getD, List.getElem?_eq_getElem hi]; rfl
  rw [← this]; exact h1
/-- The cells of a frame. -/
theorem Bits.cells (h : Bits w m p g b q Fd d fs hand ks) {i : Nat} (hi : i < fs.length) : w.rangeAt g (i * 5) (fmL (fs.getD i noFm)) := by
  have := h.pl.range (i := i) (by rw [List.length_map]; exact hi)
  rwa [List.getElem_map, show fs[i] = fs.getD i noFm by rw [List.getD_eq_getElem?_getD, List.getElem?_eq_getElem hi]; rfl] at this
theorem Bits.frozen (h : Bits w m p g b q Fd d fs hand ks) (j : Nat) : w.frozen? ⟨g, j, none⟩ = false := by
  obtain ⟨cur, R, _⟩ := h.pl.row
  exact R.frozen j
/-- The map. -/
theorem Bits.look (h : Bits w m p g b q Fd d fs hand ks) (a : Int) (ha : -9223372036854775808 ≤ a) (ha2 : a ≤ 9223372036854775807) :
    (Instr.lookup 90 (.map (some b)) (.int .i64 a) true).run Tryd.prog w = .ok (.tuple #[.int .i64 (((idx a ks).getD 0 : Nat) : Int), .bool (idx a ks).isSome]) w := by
  obtain ⟨D, h1, h2⟩ := h.map
  have hkey : keyOf Tryd.prog 3 (.int .i64 a) = some (.int .i64 a) := keyOf_int_mk Tryd.underlying3 (WalkArith.wf_i64 (by omega))
  obtain ⟨v, ps, hr, hv⟩ := h1.look_ok mapLaw Tryd.underlying90 (zero3 w) (plainElem_int Tryd.underlying3 (by decide)) hkey
  obtain ⟨c, rfl, hc, _⟩ := plainElem_int_inv Tryd.underlying3 hv
  rw [hr, (h2 a).1]
  have := (h2 a).2
  have e := congrArg Prod.fst hc
  simp only at e
  rw [this] at e
  injection e with e
  injection e with e1 e2
  rw [e2]
theorem Bits.look1 (h : Bits w m p g b q Fd d fs hand ks) (a : Int) (ha : -9223372036854775808 ≤ a) (ha2 : a ≤ 9223372036854775807) :
    (Instr.lookup 90 (.map (some b)) (.int .i64 a) false).run Tryd.prog w = .ok (.int .i64 (((idx a ks).getD 0 : Nat) : Int)) w := by
  obtain ⟨D, h1, h2⟩ := h.map
  have hkey : keyOf Tryd.prog 3 (.int .i64 a) = some (.int .i64 a) := keyOf_int_mk Tryd.underlying3 (WalkArith.wf_i64 (by omega))
  obtain ⟨c, hr, hc, _⟩ := h1.lookup_int mapLaw Tryd.underlying90 Tryd.underlying3 (zero3 w) hkey
  rw [hr]
  rw [(h2 a).2] at hc
  injection hc with e
  injection e with e1 e2
  rw [e2]
theorem Bits.turned {D : DataW Unit} {ks' : List (Option Nat)} {m' : Nat} (h : Bits w m p g b q Fd d fs hand ks) (hg : w.grownBy w' (some b)) (ho : w'.ownsMap Tryd.prog 3 (plainElem Tryd.prog 3) b m' D) (hm : MapOf D ks') (hk : Apart ks') : Bits w' m' p g b q Fd d fs hand ks' :=
  { h with
    tab := h.tab.of (hg.block 0 h.tab.1 (by simpa using h.b0.symm)) hg.size
    row := h.row.of (hg.block p h.row.lt (by simpa using h.pb))
    pl := h.pl.of (fun x hx hlt => hg.block x hlt (by rw [hx]; simpa using h.gb)) (fun _ h _ => h)
    map := ⟨D, ho, hm⟩
    disk := h.disk.of (fun x hx => hg.block x (h.disk.inside x hx) (by simp only [ne_eq, Option.some.injEq]; exact fun e => h.nb (e ▸ hx))) hg.size
    keys := hk }
theorem Bits.put (h : Bits w m p g b q Fd d fs hand ks) (hm : m < 100000) {i a : Nat} (hi : i < ks.length) (hl : ks.length ≤ 64) (ha : a ≤ 1000) (hk : ks[i]? = some none) (hn : idx (a : Int) ks = none) :
    ∃ w', (Instr.mapUpdate 90 (.map (some b)) (.int .i64 (a : Int)) (.int .i64 (i : Int))).run Tryd.prog w = .ok () w' ∧ Bits w' (m + 1) p g b q Fd d fs hand (ks.set i (some a)) ∧ Step (own p g b Fd) (own p g b Fd) w w' := by
  obtain ⟨D, h1, h2⟩ := h.map
  have hkey : keyOf Tryd.prog 3 (.int .i64 (a : Int)) = some (.int .i64 (a : Int)) := keyOf_int_mk Tryd.underlying3 (WalkArith.wf_i64 (by omega))
  obtain ⟨w', hr, ho, hg⟩ := h1.update mapLaw Tryd.underlying90 (by unfold maxLen; omega) hkey (plainElem_int Tryd.underlying3 (a := (i : Int)) (WalkArith.wf_i64 (by omega)))
  exact ⟨w', hr, h.turned hg ho (h2.put h1.isMap h.keys hi hk hn) (h.keys.put hn), Step.grown hg fun k hk => .inr (.inr (.inl (by simpa using hk.symm)))⟩
theorem Bits.del (h : Bits w m p g b q Fd d fs hand ks) {i a : Nat} (ha : a ≤ 1000) (hk : ks[i]? = some (some a)) (ty : TypeId) :
    ∃ w', (Builtin.delete_ #[90, 3] ty #[.map (some b), .int .i64 (a : Int)]).run Tryd.prog w = .ok (.tuple #[]) w' ∧ Bits w' m p g b q Fd d fs hand (ks.set i none) ∧ Step (own p g b Fd) (own p g b Fd) w w' := by
  obtain ⟨D, h1, h2⟩ := h.map
  have hkey : keyOf Tryd.prog 3 (.int .i64 (a : Int)) = some (.int .i64 (a : Int)) := keyOf_int_mk Tryd.underlying3 (WalkArith.wf_i64 (by omega))
  obtain ⟨w', hr, ho, ht⟩ := h1.drop mapLaw Tryd.underlying90 hkey ty
  have hg := ht.grown
  exact ⟨w', hr, h.turned hg ho (h2.del h.keys hk) (h.keys.del i), Step.grown hg fun k hk => .inr (.inr (.inl (by simpa using hk.symm)))⟩
/-- The disk's own call. -/
theorem Bits.call {d' : St} (h : Bits w m p g b q Fd d fs hand ks) (k : Left Fd q w d' w') : ∃ Fd', Bits w' m p g b q Fd' d' fs hand ks ∧ Step (own p g b Fd) (own p g b Fd') w w' := by
  obtain ⟨Fd', hd, hs⟩ := k
  have lt0 := h.tab.1
  have ltp := h.row.lt
  have ltg := h.g_lt
  have ltb := h.b_lt
  have out : ∀ x, x < w.heap.size → ¬ Fd x → ¬ Fd' x := fun x hx hn hf => by rcases hs.foot x hf with h1 | h1; exact hn h1; omega
  refine ⟨Fd', { h with
    tab := h.tab.of (hs.block 0 lt0 h.n0) hs.size
    row := h.row.of (hs.block p ltp h.np)
    pl := h.pl.of (fun x hx hlt => hs.block x hlt (hx ▸ h.ng)) (fun _ h _ => h)
    map := by obtain ⟨D, h1, h2⟩ := h.map; exact ⟨D, owns_of h1 (hs.block b ltb h.nb), h2⟩
    disk := hd
    np := out p ltp h.np
    ng := out g ltg h.ng
    nb := out b ltb h.nb
    n0 := out 0 lt0 h.n0 }, ⟨hs.os, hs.tape, hs.output, hs.size, fun x hx hn => hs.block x hx (fun hf => hn (.inr (.inr (.inr hf)))), fun x hx => ?_⟩⟩
  rcases hx with rfl | rfl | rfl | hx
  · exact .inl (.inl rfl)
  · exact .inl (.inr (.inl rfl))
  · exact .inl (.inr (.inr (.inl rfl)))
  · exact (hs.foot x hx).imp (fun h => .inr (.inr (.inr h))) id
end

/-- How many are dirty. -/
def nd (fs : List Fm) : Nat := (fs.filter (·.dirty)).length
/-- A pool in memory; m: how often it was called. -/
structure Pool (w : World) (m p g b q : Nat) (Fd : Nat → Prop) (S : PS) : Prop where
  inv : Inv S
  bits : Bits w m p g b q Fd S.d S.fs S.hand (keys S.fs)
  pins : ∀ f ∈ S.fs, f.pins ≤ m
  room : S.d.ws.length + nd S.fs ≤ m
/-- Behind a call. -/
def PLeft (p g b q : Nat) (Fd : Nat → Prop) (m : Nat) (w : World) (S : PS) (w' : World) : Prop := ∃ Fd', Pool w' m p g b q Fd' S ∧ Step (own p g b Fd) (own p g b Fd') w w'
theorem Pool.after {w w' : World} {m p g b q : Nat} {Fd : Nat → Prop} {S : PS} (h : Pool w m p g b q Fd S) (n : New w w') : Pool w' m p g b q Fd S := ⟨h.inv, h.bits.after n, h.pins, h.room⟩
theorem Pool.mono {w : World} {m n p g b q : Nat} {Fd : Nat → Prop} {S : PS} (h : Pool w m p g b q Fd S) (hn : m ≤ n) : Pool w n p g b q Fd S := ⟨h.inv, h.bits.mono hn, fun f hf => Nat.le_trans (h.pins f hf) hn, Nat.le_trans h.room hn⟩
end Go.Proofs.YtkcoclpbkealgaaDoor
namespace Go.Proofs.YtkcoclpbkealgaaDoor
open Go.RowKit
set_option maxRecDepth 20000

theorem one_odd (x : Nat) (h : x % 2 = 1) : (x / 2) ^^^ 2197175160 = one x := by
  unfold one
  rw [if_pos h, Nat.shiftRight_eq_div_pow]; rfl
theorem one_even (x : Nat) (h : ¬ x % 2 = 1) : x / 2 = one x := by
  unfold one
  rw [if_neg h, Nat.shiftRight_eq_div_pow, Nat.xor_zero]

set_option maxHeartbeats 2000000 in
theorem refOf_core  (s : ByteArray) (hs : s.size ≤ 140737488351232) (v : Nat) (hv : Hid (sumL 0 (L s) = v)) (w : World) :
    Calls Tryd.prog 65 #[.string s] w fun e w' => e = .returned (.int .u32 (v : Int)) ∧ w' = w := by
  obtain ⟨n, hn⟩ : ∃ n, ones ^^^ 0 = n := ⟨_, rfl⟩
  have HN : Hid (ones ^^^ 0 = n) := hn
  have hnl : n < 4294967296 := by rw [← hn]; exact xor_lt ones_lt (by decide)
  clear hn
  go_enter Tryd.func65, Tryd.ntmps65
  go_wp2_with fail
  go_loop [3, 4, 5] (fun r i j => ∃ k : Nat, k ≤ s.size ∧ i = .int .i64 k ∧ r = .int .u32 ((crc n ((L s).take k) : Nat) : Int)) (fun _ i _ => s.size - (intOf i).toNat)
  case atStart => exact ⟨0, by omega, rfl, by rw [show crc n ((L s).take 0) = n from rfl, ← HN.out]; rfl⟩
  case round =>
    obtain ⟨k, hk, rfl, rfl⟩ := hrel
    have hrl := crc_lt hnl ((L s).take k)
    by_cases hlt : k < s.size
    · have HS : Hid (_ = _) := crc_step n (L s) k s[k] (L_get s k hlt)
      generalize crc n ((L s).take k) = r at hrl HS
      have hxor := xor_u32 r s[k].toNat hrl (byte_lt _)
      have hxl : r ^^^ s[k].toNat < 4294967296 := xor_lt hrl (byte_lt _)
      generalize r ^^^ s[k].toNat = x at hxor hxl HS
      have hw : IntKind.u32.wrap (s[k].toNat : Int) = (s[k].toNat : Int) := wraps_u32 _ (Int.natCast_nonneg _) (by have := byte_lt s[k]; omega)
      go_wp2_with fail
      go_loop [3, 5] (fun r j => ∃ m : Nat, m ≤ 8 ∧ j = .int .i64 m ∧ r = .int .u32 ((many m x : Nat) : Int)) (fun _ j => 8 - (intOf j).toNat)
      case atStart => exact ⟨0, by omega, rfl, rfl⟩
      case round =>
        obtain ⟨m, hm, rfl, rfl⟩ := hrel
        by_cases hm8 : m < 8
        · have hyl := many_lt m hxl
          have HO : Hid (_ = _) := many_succ m x
          generalize many m x = y at hyl HO
          have ha := and1 y hyl
          have hd : (y : Int) / 2 = ((y / 2 : Nat) : Int) := by omega
          by_cases ho : y % 2 = 1
          · rw [ho] at ha
            have HP : Hid (_ = _) := one_odd y ho
            have hx2 : bits .xor .u32 ((y / 2 : Nat) : Int) 2197175160 = ((y / 2 ^^^ 2197175160 : Nat) : Int) := xor_u32 (y / 2) 2197175160 (by omega) (by decide)
            generalize y / 2 = z at hd hx2 HP
            clear ho
            go_wp2_with fail
            go_round
            case rel => exact ⟨m + 1, by omega, by go_num, by rw [HO.out, ← HP.out]⟩
            case measure => simp [intOf]; omega
          · have h0 : y % 2 = 0 := by omega
            rw [h0] at ha
            have HP : Hid (_ = _) := one_even y ho
            generalize y / 2 = z at hd HP
            clear ho h0
            go_wp2_with fail
            go_round
            case rel => exact ⟨m + 1, by omega, by go_num, by rw [HO.out, ← HP.out]⟩
            case measure => simp [intOf]; omega
        · obtain rfl : m = 8 := by omega
          go_wp2_with fail
          go_round
          case rel => exact ⟨k + 1, by omega, by go_num, by rw [HS.out]⟩
          case measure => simp [intOf]; omega
    · obtain rfl : k = s.size := by omega
      have hnot2 := not_u32 _ hrl
      have HV : Hid (ones ^^^ crc n ((L s).take s.size) = v) := by
        show _ = _
        rw [← hv.out, ← L_size, List.take_length]
        unfold sumL
        rw [HN.out]
      generalize crc n ((L s).take s.size) = r at hrl hnot2 HV
      rw [HV.out] at hnot2
      go_wp2_with fail
      go_ret
      exact ⟨rfl, rfl⟩

theorem refOf_any (s : ByteArray) (hs : s.size ≤ 140737488351232) (w : World) :
    Calls Tryd.prog 65 #[.string s] w fun e w' => e = .returned (.int .u32 ((sumL 0 (L s) : Nat) : Int)) ∧ w' = w := refOf_core s hs _ rfl w

end Go.Proofs.YtkcoclpbkealgaaDoor
namespace Go.Proofs.YtkcoclpbkealgaaDoor
open Go.RowKit
set_option maxRecDepth 20000

/-- A row of bytes of the call's own, that grows. -/
structure Own (w0 W : World) (v : Value) (l : List UInt8) : Prop where
  own : W.ownsRow w0.heap.size 5 1 v l.length (cellsL l)
  new : New w0 W
theorem Own.after {w0 W W' : World} {v : Value} {l : List UInt8} (h : Own w0 W v l) (k : New W W') : Own w0 W' v l := ⟨own_after h.own k, h.new.trans k⟩
theorem wpList_append_byte {w0 W : World} {v : Value} {l : List UInt8} {ops : Array Oper} {rest : List Oper} {o : Oper} {a : Act} {Q : Exit → Act → World → Prop} (H : Own w0 W v l) (hgd : o.guard = none) (s x : Operand)
    (ho : o.op = .call { callee := .builtin .append, args := #[s, x], argTypes := #[22, 22] }) (hs : a.eval s = v) (c : UInt8) (z : Int) (hx : a.eval x = .slice (some ⟨W.heap.size, 0, none⟩) 1 1) (hz : z = (c.toNat : Int)) (hl : l.length + 1 ≤ 1000)
    (h : ∀ v' W', Own w0 W' v' (l ++ [c]) → wpList Tryd.prog ops Q rest (a.put o.dst v') W') : wpList Tryd.prog ops Q (o :: rest) a (W.alloc (.cells #[.int .u8 z] 5)) := by
  obtain ⟨i0, hi0, hz0, hz1, hz2⟩ := info_parts info5
  have R := Row.new W #[.int .u8 z] 5
  have H' := H.after ((New.refl W).alloc (.cells #[.int .u8 z] 5))
  refine wpList_append_lies _ hgd s x 22 ho w0.heap.size 5 i0 _ 1 1 Tryd.underlying22 hi0 hz0 hz1 hz2 rfl (by decide) v l.length (cellsL l) hs H'.own ⟨W.heap.size, 0, none⟩ 1 1 (cellsL [c]) hx rfl (fun j u hu => ?_) (cellsL_one _) (by decide) (by unfold maxLen; omega) (by omega) H'.new.size _ rfl ?_
  · rw [Addr.add_mid, Nat.zero_add, R.cell, hz]
    rw [← hu]
    exact List.getElem?_toArray
  · intro g cap w' h1 h2 h3 h4
    refine h _ w' ⟨by rw [List.length_append, cellsL_append]; exact h1, H'.new.grown h2 (fun b hb => (H'.own.lt b hb).1)⟩

/-- The bytes of a number, the highest first. -/
def bigL (v : Nat) : Nat → List UInt8
  | 0 => []
  | k + 1 => UInt8.ofNat (v / 256 ^ k % 256) :: bigL v k
theorem bigL_length (v : Nat) : ∀ n, (bigL v n).length = n
  | 0 => rfl
  | k + 1 => by show (bigL v k).length + 1 = k + 1; rw [bigL_length v k]
theorem bigL_at (v : Nat) : ∀ (n j : Nat), j < n → (bigL v n)[j]? = some (UInt8.ofNat (v / 256 ^ (n - 1 - j) % 256))
  | 0, _, h => by omega
  | k + 1, 0, _ => by show some _ = some _; rw [show k + 1 - 1 - 0 = k by omega]
  | k + 1, j + 1, h => by
    show (bigL v k)[j]? = _
    rw [bigL_at v k j (by omega), show k + 1 - 1 - (j + 1) = k - 1 - j by omega]
theorem big1 (v : Nat) : bigL v 1 = [UInt8.ofNat (v % 256)] := by show [UInt8.ofNat (v / 256 ^ 0 % 256)] = _; rw [Nat.pow_zero, Nat.div_one]
theorem big2 (v : Nat) : bigL v 2 = be2 v := by
  show [UInt8.ofNat (v / 256 ^ 1 % 256), UInt8.ofNat (v / 256 ^ 0 % 256)] = _
  rw [Nat.pow_zero, Nat.div_one]; rfl
theorem big4 (v : Nat) : bigL v 4 = putL v := by
  show [UInt8.ofNat (v / 256 ^ 3 % 256), UInt8.ofNat (v / 256 ^ 2 % 256), UInt8.ofNat (v / 256 ^ 1 % 256), UInt8.ofNat (v / 256 ^ 0 % 256)] = _
  rw [Nat.pow_zero, Nat.div_one]; rfl

set_option maxRecDepth 20000 in
set_option maxHeartbeats 2000000 in
theorem big_any (v n : Nat) (hn : n ≤ 4) (w : World) :
    Calls Tryd.prog 70 #[.int .i64 (v : Int), .int .i64 (n : Int)] w fun e w' => e = .returned (.string (bs (bigL v n))) ∧ New w w' := by
  go_enter Tryd.func70, Tryd.ntmps70
  go_wp2_with fail
  go_loopw [5, 6] (fun x i wr => ∃ j : Nat, j ≤ n ∧ i = .int .i64 ((n : Int) - 1 - (j : Int)) ∧ Own w wr x ((bigL v n).take j)) (fun _ i _ => ((intOf i) + 1).toNat)
  case atStart => exact ⟨0, by omega, by simp, by rw [List.take_zero]; exact World.ownsRow_nil _ _ _ _, New.refl w⟩
  case round =>
    obtain ⟨j, hj, rfl, H⟩ := hrel
    by_cases hlt : j < n
    · obtain ⟨t, ht⟩ : ∃ t, n - 1 - j = t := ⟨_, rfl⟩
      have htI : (n : Int) - 1 - (j : Int) = (t : Int) := by omega
      have hb := bigL_at v n j hlt
      have hl : ((bigL v n).take j).length + 1 ≤ 1000 := by rw [List.length_take, bigL_length]; omega
      rw [ht] at hb
      obtain ⟨c, hc⟩ : ∃ c, UInt8.ofNat (v / 256 ^ t % 256) = c := ⟨_, rfl⟩
      have hcv : c.toNat = v / 256 ^ t % 256 := by rw [← hc, byte_of _ (by omega)]
      rw [hc] at hb
      have HN : Hid ((bigL v n).take j ++ [c] = (bigL v n).take (j + 1)) := by show _ = _; rw [List.take_add_one, hb]; rfl
      have HJ : Hid (t = n - 1 - j) := ht.symm
      have ht4 : t = 0 ∨ t = 1 ∨ t = 2 ∨ t = 3 := by omega
      clear hc hb ht
      generalize (bigL v n).take j = l at *
      rw [htI]
      clear htI
      rcases ht4 with rfl | rfl | rfl | rfl
      all_goals
        simp only [Nat.reducePow, Nat.div_one] at hcv
        go_wp2_with (refine wpList_append_byte H (by rfl) (.tmp 13) (.tmp 20) (by rfl) (by rfl) c _ (by rfl) (by omega) hl ?_; intro x' W' H')
        have hJ := HJ.out
        exact ⟨⟨j + 1, by omega, by congr 1; omega, by rw [← HN.out]; exact H'⟩, by simp [intOf]⟩
    · obtain rfl : j = n := by omega
      have HT : Hid ((bigL v j).take j = bigL v j) := by show _ = _; exact List.take_of_length_le (by rw [bigL_length]; exact Nat.le_refl _)
      rw [HT.out] at H
      have hcv := conv_own rfl H.own
      have hd : (j : Int) - 1 - (j : Int) = -1 := by omega
      rw [hd]
      have N := H.new
      clear H hd
      go_wp2_with fail
      go_ret
      exact ⟨rfl, N⟩

set_option maxRecDepth 20000 in
set_option maxHeartbeats 2000000 in
theorem refRight_any (s : ByteArray) (w : World) :
    Calls Tryd.prog 46 #[.string s] w fun e w' => e = .returned (.bool (rightB (L s))) ∧ New w w' := by
  by_cases h : s.size = 256
  · obtain ⟨t, ht⟩ : ∃ t, s.extract 0 252 = t := ⟨_, rfl⟩
    obtain ⟨u, hu⟩ : ∃ u, s.extract 252 256 = u := ⟨_, rfl⟩
    have hL : (L s).length = 256 := by rw [L_size]; exact h
    have hLt : L t = (L s).take 252 := by rw [← ht, L_extract, List.drop_zero]
    have hLu : L u = (L s).drop 252 := by rw [← hu, L_extract, List.take_of_length_le (by omega)]
    have hts : t.size = 252 := by rw [← L_size, hLt, List.length_take]; omega
    obtain ⟨v, hv⟩ : ∃ v, sumL 0 (L t) = v := ⟨_, rfl⟩
    have hvl : v < 4294967296 := by rw [← hv]; exact sumL_lt (by decide) _
    have hof : ∀ w, Calls Tryd.prog 65 #[.string t] w fun e w' => e = .returned (.int .u32 (v : Int)) ∧ w' = w := fun w => by
      have := refOf_any t (by omega) w
      rw [hv] at this
      exact this
    have HR : Hid (rightB (L s) = ((bs (putL v)).toList == u.toList)) := by
      show _ = _
      unfold rightB
      rw [← hLt, ← hLu, hv, hL, ByteArray.toList_eq, ByteArray.toList_eq]
      show (true && (L u == putL v)) = (putL v == L u)
      rw [Bool.true_and, Bool.beq_comm]
    clear hv hLt hLu hL
    go_enter Tryd.func46, Tryd.ntmps46
    go_wp2_with fail
    have hne := NewW.ne w
    refine region_first 13 0 w (New.refl w) (by kernel_rfl) (by kernel_rfl) ?_
    simp only [List.take_succ_cons, List.take_zero, List.drop_succ_cons, List.drop_zero]
    repeat (go_big_quiet_step (first | (go_at_call 65; exact Calls.neww_same (hof _)) | (go_at_call 64; exact Calls.neww (refPut_any v hvl _))))
    refine wpQuiet_nil ?_
    rintro w5 ⟨⟨_, hk5⟩, rfl⟩
    go_wp2_with fail
    go_ret
    exact ⟨by rw [HR.out]; rfl, hk5⟩
  · have h1 : ((s.size : Int) == 256) = false := by rw [beq_eq_false_iff_ne]; omega
    have h2 : (s.size == 256) = false := by rw [beq_eq_false_iff_ne]; omega
    have HR : Hid (rightB (L s) = false) := rightB_false (fun h0 => h (by rw [← L_size]; exact h0.1))
    clear h
    go_enter Tryd.func46, Tryd.ntmps46
    go_wp2_with fail
    have hne := NewW.ne w
    refine region_first 13 0 w (New.refl w) (by kernel_rfl) (by kernel_rfl) ?_
    simp only [List.take_succ_cons, List.take_zero, List.drop_succ_cons, List.drop_zero]
    repeat (go_big_quiet_step (fail))
    refine wpQuiet_nil ?_
    rintro w5 ⟨⟨_, hk5⟩, rfl⟩
    go_wp2_with fail
    go_ret
    exact ⟨by rw [HR.out]; rfl, hk5⟩

end Go.Proofs.YtkcoclpbkealgaaDoor
namespace Go.Proofs.YtkcoclpbkealgaaDoor
open Go.RowKit
set_option maxRecDepth 20000

/-- make([]byte, n), and its text. -/
theorem make_noughts (m : Nat) (hm : m ≤ 1000) (w : World) : ∃ v W, (Instr.makeSlice 22 (.int .i64 (m : Int)) (.int .i64 (m : Int))).run Tryd.prog w = .ok v W ∧ (convert 22 9 v).run Tryd.prog W = .ok (.string (bs (List.replicate m 0))) W ∧ New w W := by
  obtain ⟨i0, hi0, hz0, hz1, hz2⟩ := info_parts info5
  obtain ⟨W, h1, h2, h3⟩ := run_make_full (P := Tryd.prog) w w.heap.size 22 5 i0 _ 1 Tryd.underlying22 hi0 hz0 hz1 .i64 .i64 m (by rw [hz2]; omega) (by unfold maxLen; omega) (Nat.le_refl _)
  refine ⟨_, W, h1, conv_own (B := w.heap.size) (n := m) (List.length_replicate ..) ?_, (New.refl w).grown h3 (fun _ h => by cases h)⟩
  have e : (madeCells (Value.int .u8 0).cells (m * 1)).toList = cellsL (List.replicate m 0) := by
    show (madeCells #[Value.int .u8 0] (m * 1)).toList = _
    rw [toList_madeCells_one, Nat.mul_one]
    unfold cellsL
    rw [List.map_replicate]
    rfl
  rw [e] at h2
  exact h2

set_option maxRecDepth 20000 in
set_option maxHeartbeats 2000000 in
theorem refPut_no (k a g : Int) (s : ByteArray) (h : ¬ Fits k a g (s.size : Int)) (w : World) :
    Calls Tryd.prog 49 #[.agg #[.int .i64 k, .int .i64 g, .string s], .int .i64 a] w fun e w' => e = .returned (.string ⟨#[]⟩) ∧ New w w' := by
  rcases not_fits h with h1 | ⟨h1, h2⟩ | ⟨h1, h2, h3⟩ | ⟨h1, h2, h3, h4⟩ | ⟨h1, h2, h3, h4, h5⟩ | ⟨h1, h2, h3, h4, h5, h6⟩ | ⟨h1, h2, h3, h4, h5, h6, h7⟩
  all_goals
    clear h
    go_enter Tryd.func49, Tryd.ntmps49
    go_wp2_with (refine wpList_box_at (by rfl) 2 (by rfl) 111 _ (by rfl) _ (by rfl) ?_; intro W1 R1 N1; have ha0 := R1.has 0 (by rfl); have ha1 := R1.has 1 (by rfl); have ha2 := R1.has 2 (by rfl))
    go_ret
    exact ⟨rfl, N1⟩

set_option maxRecDepth 20000 in
set_option maxHeartbeats 4000000 in
theorem refPut_yes (k n g : Nat) (hk1 : 1 ≤ k) (hk2 : k < 256) (hn : n < 65536) (hg : g < 2147483648) (s : ByteArray) (hs : s.size ≤ 243) (w : World) :
    Calls Tryd.prog 49 #[.agg #[.int .i64 (k : Int), .int .i64 (g : Int), .string s], .int .i64 (n : Int)] w fun e w' => e = .returned (.string (bs (pageB (frOf k n g (L s))))) ∧ New w w' := by
  have t1 : decide ((k : Int) < 1) = false := decide_eq_false (by omega)
  have t2 : decide ((255 : Int) < (k : Int)) = false := decide_eq_false (by omega)
  have t3 : decide ((n : Int) < 0) = false := decide_eq_false (by omega)
  have t4 : decide ((65535 : Int) < (n : Int)) = false := decide_eq_false (by omega)
  have t5 : decide ((g : Int) < 0) = false := decide_eq_false (by omega)
  have t6 : decide ((2147483647 : Int) < (g : Int)) = false := decide_eq_false (by omega)
  have t7 : decide ((243 : Int) < (s.size : Int)) = false := decide_eq_false (by omega)
  have hL : (L s).length ≤ 243 := by rw [L_size]; exact hs
  have hO : (frOf k n g (L s)).Ok := frOf_ok hk2 hn (by omega) hL
  obtain ⟨s1, hs1⟩ : ∃ x, bs (bigL k 1) = x := ⟨_, rfl⟩
  obtain ⟨s2, hs2⟩ : ∃ x, bs (bigL n 2) = x := ⟨_, rfl⟩
  obtain ⟨s3, hs3⟩ : ∃ x, bs (bigL g 4) = x := ⟨_, rfl⟩
  obtain ⟨s4, hs4⟩ : ∃ x, bs (bigL s.size 2) = x := ⟨_, rfl⟩
  have z1 : s1.size = 1 := by rw [← hs1, bs_size, bigL_length]
  have z2 : s2.size = 2 := by rw [← hs2, bs_size, bigL_length]
  have z3 : s3.size = 4 := by rw [← hs3, bs_size, bigL_length]
  have z4 : s4.size = 2 := by rw [← hs4, bs_size, bigL_length]
  have b1 : ∀ w, Calls Tryd.prog 70 #[.int .i64 (k : Int), .int .i64 1] w fun e w' => e = .returned (.string s1) ∧ New w w' := fun w => by rw [← hs1]; exact big_any k 1 (by decide) w
  have b2 : ∀ w, Calls Tryd.prog 70 #[.int .i64 (n : Int), .int .i64 2] w fun e w' => e = .returned (.string s2) ∧ New w w' := fun w => by rw [← hs2]; exact big_any n 2 (by decide) w
  have b3 : ∀ w, Calls Tryd.prog 70 #[.int .i64 (g : Int), .int .i64 4] w fun e w' => e = .returned (.string s3) ∧ New w w' := fun w => by rw [← hs3]; exact big_any g 4 (by decide) w
  have b4 : ∀ w, Calls Tryd.prog 70 #[.int .i64 (s.size : Int), .int .i64 2] w fun e w' => e = .returned (.string s4) ∧ New w w' := fun w => by rw [← hs4]; exact big_any s.size 2 (by decide) w
  obtain ⟨a1, ha1⟩ : ∃ x, s1 ++ s2 = x := ⟨_, rfl⟩
  obtain ⟨a2, ha2⟩ : ∃ x, a1 ++ s3 = x := ⟨_, rfl⟩
  obtain ⟨a3, ha3⟩ : ∃ x, a2 ++ s4 = x := ⟨_, rfl⟩
  obtain ⟨a4, ha4⟩ : ∃ x, a3 ++ s = x := ⟨_, rfl⟩
  have y1 : a1.size = 3 := by rw [← ha1, ByteArray.size_append]; omega
  have y2 : a2.size = 7 := by rw [← ha2, ByteArray.size_append]; omega
  have y3 : a3.size = 9 := by rw [← ha3, ByteArray.size_append]; omega
  have y4 : a4.size = 9 + s.size := by rw [← ha4, ByteArray.size_append]; omega
  have hL4 : L a4 = (frOf k n g (L s)).head ++ L s := by
    rw [← ha4, L_append, ← ha3, L_append, ← ha2, L_append, ← ha1, L_append, ← hs1, ← hs2, ← hs3, ← hs4, L_bs, L_bs, L_bs, L_bs, big1, big2, big4, big2, ← L_size s]
    rfl
  obtain ⟨m, hm⟩ : ∃ m, 243 - s.size = m := ⟨_, rfl⟩
  have hmI : (252 : Int) - (9 + (s.size : Int)) = (m : Int) := by omega
  have hml : m ≤ 1000 := by omega
  obtain ⟨t, ht⟩ : ∃ t, a4 ++ bs (List.replicate m 0) = t := ⟨_, rfl⟩
  have hLt : L t = (frOf k n g (L s)).text := by
    rw [← ht, L_append, hL4, L_bs, ← hm, ← L_size s, List.append_assoc]
    rfl
  have hts : t.size = 252 := by rw [← L_size, hLt, Fr.text_length hO.p]
  obtain ⟨v, hv⟩ : ∃ v, sumL 0 (L t) = v := ⟨_, rfl⟩
  have hvl : v < 4294967296 := by rw [← hv]; exact sumL_lt (by decide) _
  have hof : ∀ w, Calls Tryd.prog 65 #[.string t] w fun e w' => e = .returned (.int .u32 (v : Int)) ∧ w' = w := fun w => by
    have := refOf_any t (by omega) w
    rw [hv] at this
    exact this
  have HP : Hid (t ++ bs (putL v) = bs (pageB (frOf k n g (L s)))) := by
    show _ = _
    refine eq_of_L ?_
    rw [L_append, L_bs, L_bs, ← hv, hLt]
    rfl
  have zr : (bs (List.replicate m (0 : UInt8))).size = m := by rw [bs_size, List.length_replicate]
  have zp : (bs (putL v)).size = 4 := rfl
  have HM : Hid (∀ W : World, ∃ v W', (Instr.makeSlice 22 (.int .i64 (m : Int)) (.int .i64 (m : Int))).run Tryd.prog W = .ok v W' ∧ (convert 22 9 v).run Tryd.prog W' = .ok (.string (bs (List.replicate m 0))) W' ∧ New W W') := fun W => make_noughts m hml W
  generalize bs (List.replicate m (0 : UInt8)) = zz at *
  clear hs1 hs2 hs3 hs4 hL hL4 hLt hv hO hm
  go_enter Tryd.func49, Tryd.ntmps49
  go_wp2_with (refine wpList_box_at (by rfl) 2 (by rfl) 111 _ (by rfl) _ (by rfl) ?_; intro W1 R1 N1; have hc0 := R1.has 0 (by rfl); have hc1 := R1.has 1 (by rfl); have hc2 := R1.has 2 (by rfl))
  have q0 := fun p => NewW.cell hc0 p
  have q1 := fun p => NewW.cell hc1 p
  have q2 := fun p => NewW.cell hc2 p
  have hne := NewW.ne W1
  clear hc0 hc1 hc2 t1 t2 t3 t4 t5 t6 t7 R1
  refine region_first 19 0 W1 (New.refl W1) (by kernel_rfl) (by kernel_rfl) ?_
  simp only [List.take_succ_cons, List.take_zero, List.drop_succ_cons, List.drop_zero]
  iterate 3 (go_big_quiet_step (exact Calls.neww (b1 _)))
  iterate 3 (go_big_quiet_step (exact Calls.neww (b2 _)))
  iterate 4 (go_big_quiet_step (exact Calls.neww (b3 _)))
  iterate 9 (go_big_quiet_step (exact Calls.neww (b4 _)))
  refine wpQuiet_nil ?_
  rintro w5 ⟨⟨_, hk5⟩, rfl⟩
  obtain ⟨x, W6, hmk, hcv, N6⟩ := HM.out w5
  clear q0 q1 q2 hne b1 b2 b3 b4
  go_wp2_with fail
  refine (hof _).mono ?_
  rintro _ w7 ⟨rfl, rfl⟩
  go_wp2_with fail
  refine (refPut_any v hvl _).mono ?_
  rintro _ W8 ⟨rfl, N8⟩
  go_wp2_with fail
  go_ret
  exact ⟨by rw [← HP.out]; rfl, ((N1.trans hk5).trans N6).trans N8⟩

end Go.Proofs.YtkcoclpbkealgaaDoor
