/-
  What a disk's lists tell: a copy of the pages, all pages as they are read, one page as it is read, what waits below a place. What last and below tell: the page as it was written last; what waits below a place. What Read and Write tell, and what they leave. What Sync and Grow tell, and what they leave.
-/
import Derived.Test.YtkcoclpbkealgaaDoorGaf
import Derived.Lib.LazyBuf
import Derived.Test.YtkcoclpbkealgaaDoorGac
namespace Go.Proofs.YtkcoclpbkealgaaDoor
open Go.RowKit
set_option maxRecDepth 20000

/-- New memory alone. -/
def Fresh (w : World) : Nat → Prop := fun g => w.heap.size ≤ g

/-- Just this block may have changed. -/
structure But (g : Nat) (w w' : World) : Prop where
  os : w'.os = w.os
  tape : w'.tape = w.tape
  output : w'.output = w.output
  size : w'.heap.size = w.heap.size
  block : ∀ k, k ≠ g → w'.heap[k]? = w.heap[k]?
theorem But.new {g : Nat} {w0 w w' : World} (h : But g w w') (k : New w0 w) (hg : w0.heap.size ≤ g) : New w0 w' := ⟨h.os.trans k.os, h.tape.trans k.tape, h.output.trans k.output, by rw [h.size]; exact k.size, fun i hi => (h.block i (by omega)).trans (k.block i hi)⟩
theorem But.step {g : Nat} {w w' : World} {F : Nat → Prop} (h : But g w w') (hF : F g) : Step F F w w' := ⟨h.os, h.tape, h.output, by rw [h.size]; exact Nat.le_refl _, fun i _ hi => h.block i (fun e => hi (e ▸ hF)), fun _ h => .inl h⟩
theorem Pl.but {w w' : World} {F : Nat → Prop} {t : TypeId} {k g : Nat} {v : Value} {es : List (List Value)} (h : Pl w F t k v es) (b : But g w w') (hg : ¬ F g) : Pl w' F t k v es := h.of (fun i hi _ => b.block i (fun e => hg (e ▸ hi))) (fun _ h _ => h)

section
variable {P : Program} {w : World} {ops : Array Oper} {rest : List Oper} {o : Oper} {a : Act} {Q : Exit → Act → World → Prop}
theorem wpList_alloc_new (hgd : o.guard = none) (t : TypeId) (ho : o.op = .alloc t) (z : Array Value) (n b : Nat) (hi : (P.info? t).map (fun i => (i.zero, i.size, i.bytes)) = some (some (.agg z), n, b))
    (h : ∀ W', Row W' w.heap.size z t → New w W' → wpList P ops Q rest (a.put o.dst (.pointer (some ⟨w.heap.size, 0, none⟩))) W') : wpList P ops Q (o :: rest) a w :=
  wpList_alloc_zero hgd t ho z n b hi (h _ (Row.new w z t) ((New.refl w).alloc _))
theorem wpList_store_new (hgd : o.guard = none) (ty : TypeId) (x y : Operand) (ho : o.op = .store ty x y) (g : Nat) (cells : Array Value) (hx : a.eval x = .pointer (some ⟨g, 0, none⟩)) (hy : a.eval y = .agg cells)
    (t : TypeId) (cur : Array Value) (R : Row w g cur t) (hi : (P.info? ty).map (·.size) = some cells.size) (hs : cur.size = cells.size) (h1 : cells.all (·.oneCell') = true)
    (h : ∀ W', Row W' g cells t → But g w W' → wpList P ops Q rest (a.put o.dst undef) W') : wpList P ops Q (o :: rest) a w :=
  wpList_store_row hgd ty x y ho g cells hx hy t cur R hi hs h1 (h _ (R.setRow cells) ⟨rfl, rfl, rfl, by simp [World.setRow], fun k hk => setRow_other w g k cells hk⟩)
theorem wpList_load_pl (hgd : o.guard = none) (ty : TypeId) (x : Operand) (ho : o.op = .load ty x) (F : Nat → Prop) (t : TypeId) (k g n c i : Nat) (es : List (List Value)) (e : List Value) (d : TypeDesc)
    (H : Pl w F t k (.slice (some ⟨g, 0, none⟩) n c) es) (he : es[i]? = some e) (hx : a.eval x = .pointer (some ⟨g, i * k, none⟩))
    (hu : P.underlying ty = some d) (hd : d.isRow = true) (hi : (P.info? ty).map (·.size) = some e.length)
    (h : wpList P ops Q rest (a.put o.dst (.agg e.toArray)) w) : wpList P ops Q (o :: rest) a w := by
  obtain ⟨hlt, rfl⟩ := List.getElem?_eq_some_iff.1 he
  exact wpList_load_mid hgd ty x ho g (i * k) hx _ d (H.range hlt) hu hd hi h
theorem wpList_store_pl (hgd : o.guard = none) (ty : TypeId) (x y : Operand) (ho : o.op = .store ty x y) (F : Nat → Prop) (t : TypeId) (k g n c i : Nat) (es : List (List Value)) (e : List Value)
    (H : Pl w F t k (.slice (some ⟨g, 0, none⟩) n c) es) (hlt : i < es.length) (hx : a.eval x = .pointer (some ⟨g, i * k, none⟩)) (hy : a.eval y = .agg e.toArray) (he : e.length = k)
    (hi : (P.info? ty).map (·.size) = some e.toArray.size) (h1 : ∀ v ∈ e, v.oneCell' = true)
    (h : ∀ W', Pl W' F t k (.slice (some ⟨g, 0, none⟩) n c) (es.set i e) → But g w W' → wpList P ops Q rest (a.put o.dst undef) W') : wpList P ops Q (o :: rest) a w := by
  obtain ⟨q1, q2, q3⟩ := setCells_rest g e (i * k) w
  exact wpList_store_mid hgd ty x y ho g (i * k) e.toArray hx hy (by rw [List.size_toArray, he]; exact H.there hlt) hi (all_oneCell_toArray h1) (h _ (H.set hlt he) ⟨q1, q2, q3, setCells_size _ _ _ _, fun b hb => setCells_other _ _ _ _ _ hb⟩)
end
theorem wpList_appends {P : Program} {w : World} {ops : Array Oper} {rest : List Oper} {o : Oper} {a : Act} {Q : Exit → Act → World → Prop} (hgd : o.guard = none) (s x : Operand) (t ty : TypeId) (v1 v2 v : Value) (w' : World)
    (ho : o.op = .call { callee := .builtin .append, args := #[s, x], argTypes := #[t, t] }) (hty : o.type = ty) (h1 : a.eval s = v1) (h2 : a.eval x = v2) (hr : (Builtin.append_ #[t, t] ty #[v1, v2]).run P w = .ok v w')
    (h : wpList P ops Q rest (a.put o.dst v) w') : wpList P ops Q (o :: rest) a w := by
  refine wpList_plain hgd fun K hK => ?_
  subst hty
  unfold Oper.wp execOp
  simp only [ho, resolve, invoke, builtin, Sem.run_bind, Sem.run_pure, Result.andThen_ok, List.map_toArray, List.map_cons, List.map_nil, h1, h2, hr]
  exact hK _ _ h

section
variable {w : World} {F : Nat → Prop} {t : TypeId} {k : Nat} {v : Value} {es : List (List Value)}
theorem run_append_pl (H : Pl w F t k v es) (T ty : TypeId) (hT : Tryd.prog.underlying T = some (.slice t)) (z : Value) (bytes : Nat) (hi : (Tryd.prog.info? t).map (fun i => (i.zero, i.size, i.bytes)) = some (some z, k, bytes)) (hz : z.cells.size = k) (hk : 0 < k)
    (B : Nat) (e : List Value) (tb : TypeId) (R : Row w B e.toArray tb) (he : e.length = k) (hone : ∀ u ∈ e, u.oneCell' = true) (hn : es.length ≤ 1000000) (hb : bytes ≤ 1000) :
    ∃ g cap w', (Builtin.append_ #[T, T] ty #[v, .slice (some ⟨B, 0, none⟩) 1 1]).run Tryd.prog w = .ok (.slice (some ⟨g, 0, none⟩) (es.length + 1) cap) w' ∧
      Pl w' (fun b => F b ∨ w.heap.size ≤ b) t k (.slice (some ⟨g, 0, none⟩) (es.length + 1) cap) (es ++ [e]) ∧ w.grownBy w' v.ownBlock := by
  obtain ⟨i0, hi0, hz0, hz1, hz2⟩ := info_parts hi
  have hbb : (es.length + 1) * bytes ≤ 1000001 * 1000 := Nat.mul_le_mul (by omega) hb
  obtain ⟨g, cap, w', hr, h2, h3, h4, h5⟩ := run_append_lies (P := Tryd.prog) w T ty 0 t i0 z k bytes hT hi0 hz0 hz1 hz2 hz hk v es.length es.flatten H.own ⟨B, 0, none⟩ 1 1 e (by rw [he, Nat.one_mul]) (World.news_of_block (cs := e.toArray) R) hone (by decide) (by unfold maxLen; omega) (by omega) (Nat.zero_le _) w.heap.size rfl
  refine ⟨g, cap, w', hr, ⟨?_, ?_, ?_⟩, h3⟩
  · intro x hx
    rcases List.mem_append.1 hx with h | h
    · exact H.each x h
    · obtain rfl : x = e := by simpa using h
      exact he
  · rw [List.length_append, List.length_singleton, List.flatten_append]
    simpa using h2
  · intro b hb
    cases hb
    rcases h4 with h | h
    · exact .inl (H.foot _ h)
    · exact .inr (Nat.le_of_eq h.symm)
theorem wpList_append_pl {ops : Array Oper} {rest : List Oper} {o : Oper} {a : Act} {Q : Exit → Act → World → Prop} (H : Pl w F t k v es) (hgd : o.guard = none) (s x : Operand) (T : TypeId) (ho : o.op = .call { callee := .builtin .append, args := #[s, x], argTypes := #[T, T] }) (hT : Tryd.prog.underlying T = some (.slice t)) (z : Value) (bytes : Nat) (hi : (Tryd.prog.info? t).map (fun i => (i.zero, i.size, i.bytes)) = some (some z, k, bytes)) (hz : z.cells.size = k) (hk : 0 < k)
    (B : Nat) (e : List Value) (tb : TypeId) (R : Row w B e.toArray tb) (he : e.length = k) (hone : ∀ u ∈ e, u.oneCell' = true) (hn : es.length ≤ 1000000) (hb : bytes ≤ 1000) (h1 : a.eval s = v) (h2 : a.eval x = .slice (some ⟨B, 0, none⟩) 1 1)
    (h : ∀ g cap W', Pl W' (fun b => F b ∨ w.heap.size ≤ b) t k (.slice (some ⟨g, 0, none⟩) (es.length + 1) cap) (es ++ [e]) → w.grownBy W' v.ownBlock → wpList Tryd.prog ops Q rest (a.put o.dst (.slice (some ⟨g, 0, none⟩) (es.length + 1) cap)) W') : wpList Tryd.prog ops Q (o :: rest) a w := by
  obtain ⟨g, cap, w', hr, h3, h4⟩ := run_append_pl H T o.type hT z bytes hi hz hk B e tb R he hone hn hb
  exact wpList_appends hgd s x T o.type v _ _ w' ho rfl h1 h2 hr (h g cap w' h3 h4)
theorem wpList_build_one {ops : Array Oper} {rest : List Oper} {o : Oper} {a : Act} {Q : Exit → Act → World → Prop} (hgd : o.guard = none) (T : TypeId) (x : Operand) (ho : o.op = .buildSlice T 1 #[(0, x)]) (hT : Tryd.prog.underlying T = some (.slice t)) (z : Value) (bytes : Nat) (hi : (Tryd.prog.info? t).map (fun i => (i.zero, i.size, i.bytes)) = some (some z, k, bytes))
    (cs : Array Value) (hx : a.eval x = .agg cs) (hc : cs.size = k) (hk : 0 < k) (hk' : k ≤ 1000)
    (h : ∀ W', Row W' w.heap.size cs t → New w W' → wpList Tryd.prog ops Q rest (a.put o.dst (.slice (some ⟨w.heap.size, 0, none⟩) 1 1)) W') : wpList Tryd.prog ops Q (o :: rest) a w := by
  refine wpList_run hgd _ (w.alloc (.cells cs t)) ?_ (h _ (Row.new w cs t) ((New.refl w).alloc _))
  unfold execOp
  simp only [ho, List.map_toArray, List.map_cons, List.map_nil, hx, Sem.run_bind, run_buildOne w T t cs z bytes k hT hi hc hk hk', Result.andThen_ok, Sem.run_pure]
end
theorem wait_cell {w : World} {g o : Nat} {x : Nat × List UInt8} (h : w.rangeAt g o (waitL x)) : w.cell? ⟨g, o, none⟩ = some (.int .i64 (x.1 : Int)) := h 0 _ rfl
theorem wait_data {w : World} {g o : Nat} {x : Nat × List UInt8} (h : w.rangeAt g o (waitL x)) : w.rangeAt g (o + 1) (cellsL x.2) := fun j v hv => by
  have := h (j + 1) v (by unfold waitL; rw [List.getElem?_cons_succ]; exact hv)
  rwa [show o + (j + 1) = o + 1 + j by omega] at this
theorem map_getD {α β : Type} (f : α → β) (l : List α) (i : Nat) (d : α) (h : i < l.length) : (l.map f)[i]? = some (f (l.getD i d)) := by
  rw [List.getElem?_map, List.getElem?_eq_getElem h, List.getD_eq_getElem?_getD, List.getElem?_eq_getElem h]; rfl
theorem cells_one_map (ps : List (List UInt8)) : ∀ e ∈ ps.map cellsL, ∀ v ∈ e, v.oneCell' = true := fun e he => by
  obtain ⟨p, _, rfl⟩ := List.mem_map.1 he; exact cellsL_one p
theorem waitL_length {x : Nat × List UInt8} (h : x.2.length = 256) : (waitL x).length = 257 := by unfold waitL; rw [List.length_cons, cellsL_length, h]
theorem waitL_all (x : Nat × List UInt8) : (waitL x).toArray.all (·.oneCell') = true := all_oneCell_toArray (waitL_one x)
theorem waitL_at {w : World} {g : Nat} {x : Nat × List UInt8} (R : Row w g (waitL x).toArray 113) : w.cell? ⟨g, 0, none⟩ = some (.int .i64 (x.1 : Int)) := by rw [R.cell]; simp [waitL]
theorem waitL_range {w : World} {g : Nat} {x : Nat × List UInt8} (R : Row w g (waitL x).toArray 113) (h : x.2.length = 256) : w.rangeAt g 1 (cellsL x.2) := by
  have := R.range 1 256
  simp only [waitL, List.drop_one, List.tail_cons] at this
  rw [List.take_of_length_le (by rw [cellsL_length]; omega)] at this
  exact this

theorem run_clone {w : World} {F : Nat → Prop} {a : Option Addr} {n c : Nat} {es : List (List Value)} (h : Pl w F 85 256 (.slice a n c) es) (hone : ∀ e ∈ es, ∀ v ∈ e, v.oneCell' = true) (h0 : a ≠ none) (hn : es.length ≤ 1000000) (ty : TypeId) :
    ∃ v w', (Builtin.append_ #[78, 78] ty #[.slice (some ⟨w.heap.size, 0, none⟩) 0 0, .slice a n c]).run Tryd.prog (w.alloc (.cells #[] 85)) = .ok v w' ∧ Pl w' (Fresh w) 85 256 v es ∧ New w w' := by
  obtain ⟨i0, hi0, hz0, hz1, hz2⟩ := info_parts info77
  obtain ⟨g, hg⟩ : ∃ g, a = some g := Option.ne_none_iff_exists'.1 h0
  subst hg
  obtain ⟨g', c', hv, _⟩ : ∃ g' c', Value.slice (some g) n c = .slice (some ⟨g', 0, none⟩) es.length c' ∧ True := by
    rcases h.own.2 with ⟨h1, _⟩ | ⟨g', cap, cur, hv, _⟩
    · cases h1
    · exact ⟨g', cap, hv, trivial⟩
  cases hv
  have hN : New w (w.alloc (.cells #[] 85)) := (New.refl w).alloc _
  have ho : (w.alloc (.cells #[] 85)).ownsRow w.heap.size 85 256 (.slice (some ⟨w.heap.size, 0, none⟩) 0 0) 0 [] :=
    ⟨rfl, .inr ⟨w.heap.size, 0, #[], rfl, Nat.le_refl _, heap_alloc_new w _, Nat.le_refl _, by unfold maxLen; omega, rfl, rfl⟩⟩
  have hl := flat_length h.each
  obtain ⟨v', w', hr, h2, h3, _, h5⟩ := run_append_own_at (P := Tryd.prog) (w.alloc (.cells #[] 85)) w.heap.size 78 ty 85 i0 _ 256 256 Tryd.underlying78 hi0 hz0 hz1 hz2 (by show (cellsL zeros).toArray.size = 256; rw [cellsL_size, zeros_length]) (by decide) _ 0 [] ho ⟨g', 0, none⟩ es.length c es.flatten hl
    (fun j u hu => by have := h.own.cells (g := g') rfl j u hu; rw [Addr.add_mid] at this ⊢; exact (hN.cell (p := ⟨g', 0 + j, none⟩) (h.lt (g := g') rfl)).trans this) (fun u hu => by obtain ⟨e, he, hue⟩ := List.mem_flatten.1 hu; exact hone e he u hue) (by unfold maxLen; omega) (by omega) (by simp)
  have hfr : ∀ k, v'.ownBlock = some k → w.heap.size ≤ k := fun k hk => (h2.lt k hk).1
  refine ⟨v', w', by simpa using hr, ⟨h.each, ?_, hfr⟩, hN.grown h3 (fun k hk => by cases hk; exact Nat.le_refl _)⟩
  rw [Nat.zero_add, List.nil_append] at h2
  exact ⟨h2.1, h2.2.imp id fun ⟨g, c, cur, hv, _, r⟩ => ⟨g, c, cur, hv, Nat.zero_le _, r⟩⟩

theorem clone_any {w : World} {F : Nat → Prop} {a : Option Addr} {n c : Nat} {es : List (List Value)} (h : Pl w F 85 256 (.slice a n c) es) (hone : ∀ e ∈ es, ∀ v ∈ e, v.oneCell' = true) (hn : es.length ≤ 1000000) :
    Calls Tryd.prog 77 #[.slice a n c] w fun e w' => ∃ v, e = .returned v ∧ Pl w' (Fresh w) 85 256 v es ∧ New w w' := by
  cases a with
  | none =>
    have h1 : Value.slice none n c = .slice none 0 0 ∧ es = [] := by
      rcases h.own.2 with ⟨h1, h2⟩ | ⟨g', cap, cur, hv, _⟩
      · exact ⟨h1, List.eq_nil_of_length_eq_zero h2⟩
      · cases hv
    obtain ⟨h1, rfl⟩ := h1
    cases h1
    clear h hone hn
    have hq := run_eql_slice_nil (P := Tryd.prog) w 78 85 none 0 0 Tryd.underlying78
    go_enter Tryd.func77, Tryd.ntmps77
    go_wp2_with fail
    go_ret
    exact ⟨_, rfl, Pl.nil _ _ _ _, New.refl w⟩
  | some g =>
    obtain ⟨v, w', hr, h2, h3⟩ := run_clone h hone (by simp) hn 78
    have HP : Hid (Pl w' (Fresh w) 85 256 v es ∧ New w w') := ⟨h2, h3⟩
    clear h hone h2 h3
    have hq := run_eql_slice_nil (P := Tryd.prog) w 78 85 (some g) n c Tryd.underlying78
    go_enter Tryd.func77, Tryd.ntmps77
    go_wp2_with (refine wpList_appends (by rfl) _ _ 78 78 _ _ v w' (by rfl) (by rfl) (by rfl) (by rfl) hr ?_)
    go_ret
    exact ⟨v, rfl, HP.out⟩

set_option maxHeartbeats 1000000 in
theorem latest_any {w : World} {F : Nat → Prop} {p : Nat} {S : St} (D : Disk w F p S) :
    Calls Tryd.prog 58 #[.pointer (some ⟨p, 0, none⟩)] w fun e w' => ∃ v, e = .returned v ∧ Pl w' (Fresh w) 85 256 v ((latest S.ps S.ws).map cellsL) ∧ New w w' := by
  obtain ⟨a1, c1, a2, c2, h0, h1, h2, h3, h4, hf, R, P1, P2⟩ := D.open
  have hok := D.ok
  have hcl := clone_any P1 (cells_one_map _) (by rw [List.length_map]; have := hok.len; have := hok.lim; omega)
  have hpl : p < w.heap.size := D.lt
  have HP : Hid (Pl w (fun g => F g ∧ g ≠ p ∧ (Value.slice a1 S.ps.length c1).ownBlock ≠ some g) 113 257 (.slice a2 S.ws.length c2) (S.ws.map waitL)) := P2
  clear D R P1 P2
  go_enter Tryd.func58, Tryd.ntmps58
  go_wp2_with fail
  refine hcl.mono ?_
  rintro _ w1 ⟨v, rfl, Q1, N1⟩
  clear hcl
  have k2 := (N1.cell (p := ⟨p, 2, none⟩) hpl).trans h2
  clear h0 h1 h2 h3 h4 hf
  go_wp2_with fail
  clear k2
  go_loopw [16] (fun i wr => ∃ k : Nat, k ≤ S.ws.length ∧ i = .int .i64 (k : Int) ∧ Pl wr (Fresh w) 85 256 v ((latestN S.ps S.ws k).map cellsL) ∧ New w wr) (fun i _ => S.ws.length - (intOf i).toNat)
  case atStart => exact ⟨0, by omega, rfl, Q1, N1⟩
  case round =>
    clear Q1 N1
    obtain ⟨k, hk, rfl, Q1, N1⟩ := hrel
    by_cases hlt : k < S.ws.length
    · have hlt' : (k : Int) < (S.ws.length : Int) := by omega
      obtain ⟨g2, c2', e2, _, hg2, _⟩ := HP.out.full (by rw [List.length_map]; omega)
      rw [List.length_map] at e2
      cases e2
      have hx := map_getD waitL S.ws k (0, []) hlt
      obtain ⟨hx1, hx2⟩ := hok.at hlt
      have HL : Hid (latestN S.ps S.ws (k + 1) = (latestN S.ps S.ws k).set (S.ws.getD k (0, [])).1 (S.ws.getD k (0, [])).2) := rfl
      have hll := latestN_length S.ps S.ws k
      obtain ⟨x, hxe⟩ : ∃ x, S.ws.getD k (0, []) = x := ⟨_, rfl⟩
      rw [hxe] at hx hx1 hx2 HL
      clear hxe
      obtain ⟨at_, d⟩ := x
      simp only at hx1 hx2
      generalize latestN S.ps S.ws k = lp at Q1 HL hll
      obtain ⟨g1, c1', e1, hg1, hg1', _⟩ := Q1.full (by rw [List.length_map]; omega)
      rw [List.length_map, hll] at e1
      subst e1
      have P2 := HP.out.after N1
      have hx1' : (at_ : Int) < (S.ps.length : Int) := by omega
      have hfew := hok.few
      go_wp2_with (first
        | refine wpList_load_pl (by rfl) 113 _ (by rfl) _ 113 257 g2 _ _ k _ _ _ P2 hx (by rfl) Tryd.underlying113 rfl (by rw [waitL_length hx2]; exact i80) ?_
        | (refine wpList_alloc_new (by rfl) 113 (by rfl) _ _ _ info80 ?_; intro W1 R1 M1)
        | (refine wpList_store_new (by rfl) 113 _ _ (by rfl) wr.heap.size (waitL (at_, d)).toArray (by rfl) (by rfl) 113 _ R1 (by rw [List.size_toArray, waitL_length hx2]; exact i80) (by rw [List.size_toArray, List.size_toArray, waitL_length (x := (at_, d)) hx2, waitL_length (x := (0, zeros)) zeros_length]) (waitL_all _) ?_; intro W2 R2 B2; have hc0 : W2.cell? ⟨wr.heap.size, 0, none⟩ = some (.int .i64 (at_ : Int)) := waitL_at R2; have hrg := waitL_range R2 hx2; have M2 : New wr W2 := B2.new M1 (Nat.le_refl _); have Q2 := Q1.after M2)
        | refine wpList_load_mid (by rfl) 85 _ (by rfl) wr.heap.size 1 (by rfl) (cellsL d) _ hrg Tryd.underlying85 rfl (by rw [cellsL_length, hx2]; exact i77) ?_
        | (refine wpList_store_pl (by rfl) 85 _ _ (by rfl) _ 85 256 g1 _ _ at_ _ (cellsL d) Q2 (by rw [List.length_map]; omega) (by rfl) (by rfl) (by rw [cellsL_length, hx2]) (by rw [cellsL_size, hx2]; exact i77) (cellsL_one d) ?_; intro W3 Q3 B3))
      refine ⟨⟨k + 1, by omega, by go_num, ?_, B3.new (N1.trans M2) hg1⟩, by simp [intOf]; omega⟩
      rw [HL.out, List.map_set]
      exact Q3
    · obtain rfl : k = S.ws.length := by omega
      go_wp2_with fail
      go_ret
      exact ⟨v, rfl, Q1, N1⟩

end Go.Proofs.YtkcoclpbkealgaaDoor
namespace Go.Proofs.YtkcoclpbkealgaaDoor
open Go.RowKit
set_option maxRecDepth 20000

set_option maxRecDepth 20000 in
set_option maxHeartbeats 1000000 in
theorem last_any {w : World} {F : Nat → Prop} {p : Nat} {S : St} (D : Disk w F p S) (at_ : Nat) (hat : at_ < S.ps.length) :
    Calls Tryd.prog 61 #[.pointer (some ⟨p, 0, none⟩), .int .i64 (at_ : Int)] w fun e w' => e = .returned (.agg (cellsL ((latest S.ps S.ws).getD at_ [])).toArray) ∧ New w w' := by
  have hok := D.ok
  have HD : Hid (Disk w F p S) := D
  have hpl : p < w.heap.size := D.lt
  obtain ⟨a1, c1, a2, c2, h0, h1, h2, h3, h4, hf, R, P1, P2⟩ := D.open
  clear D R P1 P2 h0 h3 h4 hf
  have hfew := hok.few
  go_enter Tryd.func61, Tryd.ntmps61
  go_wp2_with (refine wpList_alloc_new (by rfl) 85 (by rfl) _ _ _ info77 ?_; intro W1 R1 N1; have k2 := (N1.cell (p := ⟨p, 2, none⟩) hpl).trans h2)
  clear k2
  go_loopw [5] (fun i wr => ∃ k : Nat, k ≤ S.ws.length ∧ i = .int .i64 ((k : Int) - 1) ∧ (∀ j, k ≤ j → j < S.ws.length → (S.ws.getD j (0, [])).1 ≠ at_) ∧ Row wr w.heap.size (cellsL zeros).toArray 85 ∧ New w wr) (fun i _ => (intOf i + 1).toNat)
  case atStart => exact ⟨S.ws.length, by omega, rfl, fun j h1 h2 => absurd h1 (by omega), R1, N1⟩
  case round =>
    clear R1 N1
    obtain ⟨k, hk, rfl, hno, R1, N1⟩ := hrel
    have k1 := (N1.cell (p := ⟨p, 1, none⟩) hpl).trans h1
    have k2 := (N1.cell (p := ⟨p, 2, none⟩) hpl).trans h2
    have HN : Hid (∀ j, k ≤ j → j < S.ws.length → (S.ws.getD j (0, [])).1 ≠ at_) := hno
    clear hno h1 h2
    obtain ⟨_, _, _, _, _, j1, j2, _, _, _, _, P1, P2⟩ := HD.out.open
    have e1 := (N1.cell (p := ⟨p, 1, none⟩) hpl).trans j1
    have e2 := (N1.cell (p := ⟨p, 2, none⟩) hpl).trans j2
    rw [k1] at e1
    rw [k2] at e2
    cases e1
    cases e2
    clear j1 j2
    have P1' := P1.after N1
    have P2' := P2.after N1
    clear P1 P2
    cases k with
    | zero =>
      obtain ⟨g1, c1', e1, _, hg1, _⟩ := P1'.full (by rw [List.length_map]; omega)
      rw [List.length_map] at e1
      cases e1
      have hx := map_getD cellsL S.ps at_ [] hat
      have hv : (latest S.ps S.ws).getD at_ [] = S.ps.getD at_ [] := latest_none HN.out
      have hl : (S.ps.getD at_ []).length = 256 := by rw [List.getD_eq_getElem?_getD, List.getElem?_eq_getElem hat]; exact hok.page _ (List.getElem_mem hat)
      have HV : Hid ((latest S.ps S.ws).getD at_ [] = S.ps.getD at_ []) := hv
      clear hv
      generalize S.ps.getD at_ [] = d at hx hl HV
      have hat' : (at_ : Int) < (S.ps.length : Int) := by omega
      go_wp2_with (first
        | refine wpList_load_pl (by rfl) 85 _ (by rfl) _ 85 256 g1 _ _ at_ _ _ _ P1' hx (by rfl) Tryd.underlying85 rfl (by rw [cellsL_length, hl]; exact i77) ?_
        | (refine wpList_store_new (by rfl) 85 _ _ (by rfl) w.heap.size (cellsL d).toArray (by rfl) (by rfl) 85 _ R1 (by rw [cellsL_size, hl]; exact i77) (by rw [cellsL_size, cellsL_size, hl, zeros_length]) (cellsL_all _) ?_; intro W2 R2 B2))
      exact bodyPost_ret (results_cell_row rfl _ _ w.heap.size 85 (cellsL d).toArray (0, 0) _ rfl R2 Tryd.underlying85 rfl (by rw [cellsL_size, hl]; exact i77)) rfl ⟨by rw [HV.out], B2.new N1 (Nat.le_refl _)⟩
    | succ j =>
      rw [show ((j + 1 : Nat) : Int) - 1 = (j : Int) by omega]
      have hlt : j < S.ws.length := by omega
      obtain ⟨g2, c2', e2, _, hg2, _⟩ := P2'.full (by rw [List.length_map]; omega)
      rw [List.length_map] at e2
      cases e2
      have hx := map_getD waitL S.ws j (0, []) hlt
      obtain ⟨hx1, hx2⟩ := hok.at hlt
      have HV : Hid ((S.ws.getD j (0, [])).1 = at_ → (latest S.ps S.ws).getD at_ [] = (S.ws.getD j (0, [])).2) := fun he => latest_found hlt hat he HN.out
      have HM : Hid ((S.ws.getD j (0, [])).1 ≠ at_ → ∀ i, j ≤ i → i < S.ws.length → (S.ws.getD i (0, [])).1 ≠ at_) := fun he i h1 h2 => by
        by_cases e : i = j
        · rw [e]; exact he
        · exact HN.out i (by omega) h2
      obtain ⟨hlt0, hxe⟩ := List.getElem?_eq_some_iff.1 hx
      have hrg := P2'.range hlt0
      rw [hxe] at hrg
      clear hxe hx hlt0
      generalize S.ws.getD j (0, []) = x at hx1 hx2 HV HM hrg
      obtain ⟨xa, d⟩ := x
      have hc0 := wait_cell hrg
      have hrd := wait_data hrg
      simp only at hx1 hx2 hc0 hrd
      have hlt' : (j : Int) < (S.ws.length : Int) := by omega
      clear hrg
      by_cases he : xa = at_
      · have HW : Hid ((latest S.ps S.ws).getD at_ [] = d) := HV.out he
        clear HV HM
        subst he
        go_wp2_with (first
          | refine wpList_load_mid (by rfl) 85 _ (by rfl) g2 (j * 257 + 1) (by rfl) (cellsL d) _ hrd Tryd.underlying85 rfl (by rw [cellsL_length, hx2]; exact i77) ?_
          | (refine wpList_store_new (by rfl) 85 _ _ (by rfl) w.heap.size (cellsL d).toArray (by rfl) (by rfl) 85 _ R1 (by rw [cellsL_size, hx2]; exact i77) (by rw [cellsL_size, cellsL_size, hx2, zeros_length]) (cellsL_all _) ?_; intro W2 R2 B2))
        exact bodyPost_ret (results_cell_row rfl _ _ w.heap.size 85 (cellsL d).toArray (0, 0) _ rfl R2 Tryd.underlying85 rfl (by rw [cellsL_size, hx2]; exact i77)) rfl ⟨by rw [HW.out], B2.new N1 (Nat.le_refl _)⟩
      · have he' : ¬ (xa : Int) = (at_ : Int) := by omega
        clear HV hrd
        have HE : Hid (xa ≠ at_) := he
        clear he
        go_wp2_with fail
        exact ⟨⟨j, by omega, rfl, HM.out HE.out, R1, N1⟩, by simp [intOf]⟩

theorem filter_next {ws : List (Nat × List UInt8)} {q : Nat × List UInt8 → Bool} {k : Nat} (h : k < ws.length) :
    (ws.take (k + 1)).filter q = (ws.take k).filter q ++ (if q (ws.getD k (0, [])) then [ws.getD k (0, [])] else []) := by
  rw [List.take_add_one, List.getElem?_eq_getElem h, List.filter_append, List.getD_eq_getElem?_getD, List.getElem?_eq_getElem h]
  simp [List.filter_cons]
theorem info80_size : (Value.agg (waitL (0, zeros)).toArray).cells.size = 257 := by show (waitL (0, zeros)).toArray.size = 257; rw [List.size_toArray, waitL_length (x := (0, zeros)) zeros_length]

end Go.Proofs.YtkcoclpbkealgaaDoor
namespace Go.Proofs.YtkcoclpbkealgaaDoor
open Go.RowKit
set_option maxRecDepth 20000

theorem Pl.refoot {w : World} {F G : Nat → Prop} {t : TypeId} {k : Nat} {v : Value} {es : List (List Value)} (h : Pl w F t k v es) (hG : ∀ g, v.ownBlock = some g → G g) : Pl w G t k v es := ⟨h.each, h.own, hG⟩
/-- What was the disk's, and what is new. -/
def Wide (F : Nat → Prop) (w w' : World) : Nat → Prop := fun b => (F b ∨ w.heap.size ≤ b) ∧ b < w'.heap.size
theorem Disk.build {w w' : World} {F G1 G2 : Nat → Prop} {p : Nat} {S : St} {v1 v2 : Value} (hp : F p) (hok : Ok S) (R : Row w' p #[.int .i64 (S.lim : Int), v1, v2, .int .i64 S.fuse, .bool S.down] 81)
    (P1 : Pl w' G1 85 256 v1 (S.ps.map cellsL)) (P2 : Pl w' G2 113 257 v2 (S.ws.map waitL)) (h1 : ∀ g, v1.ownBlock = some g → (F g ∨ w.heap.size ≤ g) ∧ g ≠ p) (h2 : ∀ g, v2.ownBlock = some g → (F g ∨ w.heap.size ≤ g) ∧ g ≠ p ∧ v1.ownBlock ≠ some g) :
    Disk w' (Wide F w w') p S :=
  ⟨hok, ⟨.inl hp, R.lt⟩, fun _ hb => hb.2, v1, v2, R, P1.refoot fun g hg => ⟨⟨(h1 g hg).1, P1.lt hg⟩, (h1 g hg).2⟩, P2.refoot fun g hg => ⟨⟨(h2 g hg).1, P2.lt hg⟩, (h2 g hg).2⟩⟩
theorem Step.widen {F F' : Nat → Prop} {w w' : World} (h : Step F F' w w') : Step F (Wide F w w') w w' := h.wide fun _ hk => hk.1

theorem wpQuiet_build80 {ops : Array Oper} {Q : Act → Prop} {a : Act} {o : Oper} {rest : List Oper} {C : World → Prop} (hw : Region.wanted o (yielded ops a.tmps) = true) (x y : Operand) (ho : o.op = .build 113 #[(0, x), (1, y)]) (n : Nat) (l : List UInt8) (hl : l.length = 256) (hx : a.eval x = .int .i64 (n : Int)) (hy : a.eval y = .agg (cellsL l).toArray)
    (h : wpQuiet Tryd.prog ops C Q rest (a.put o.dst (.agg (waitL (n, l)).toArray))) : wpQuiet Tryd.prog ops C Q (o :: rest) a := by
  refine wpQuiet_run hw _ (fun w _ => ?_) h
  have hb := built80 (n : Int) (cellsL l).toArray (by rw [cellsL_size, hl])
  unfold execOp
  simp only [ho, List.map_toArray, List.map_cons, List.map_nil, hx, hy, Sem.run_bind, run_build w 113 #[(0, .int .i64 (n : Int)), (1, .agg (cellsL l).toArray)] _ hb, Result.andThen_ok, Sem.run_pure]
  rfl

set_option maxHeartbeats 1000000 in
theorem read_any {w : World} {F : Nat → Prop} {p : Nat} {S : St} (D : Disk w F p S) (at_ : Int) :
    Calls Tryd.prog 37 #[.pointer (some ⟨p, 0, none⟩), .int .i64 at_] w fun e w' => e = .returned (.tuple #[.string (bs (S.read at_).2), .int .i64 (S.read at_).1]) ∧ New w w' := by
  have hr := ready_any D
  have hh := has_any D at_
  have HD : Hid (Disk w F p S) := D
  clear D
  have HR : Hid (S.read at_ = if S.down then (2, []) else if ¬ (0 ≤ at_ ∧ at_ < S.ps.length) then (4, []) else (0, (latest S.ps S.ws).getD at_.toNat [])) := rfl
  generalize S.read at_ = r at HR ⊢
  cases hd : S.down
  · rw [hd] at hr
    rw [hd, if_neg (by simp)] at HR
    by_cases hin : 0 ≤ at_ ∧ at_ < S.ps.length
    · rw [if_neg (by simpa using hin)] at HR
      rw [decide_eq_true hin] at hh
      obtain ⟨n, rfl⟩ : ∃ n : Nat, at_ = (n : Int) := ⟨at_.toNat, by omega⟩
      have hl := last_any HD.out n (by omega)
      rw [Int.toNat_natCast] at HR
      have hpl : ((latest S.ps S.ws).getD n []).length = 256 := by
        have hlt : n < (latest S.ps S.ws).length := by rw [latest_length]; omega
        rw [List.getD_eq_getElem?_getD, List.getElem?_eq_getElem hlt]
        exact HD.out.ok.latest _ (Nat.le_refl _) _ (List.getElem_mem hlt)
      generalize (latest S.ps S.ws).getD n [] = d at HR hl hpl
      have ht := text_any d hpl
      go_enter Tryd.func37, Tryd.ntmps37
      go_wp2_with fail
      refine hr.mono ?_
      rintro _ w1 ⟨rfl, rfl⟩
      go_wp2_with fail
      refine hh.mono ?_
      rintro _ w2 ⟨rfl, rfl⟩
      go_wp2_with fail
      refine hl.mono ?_
      rintro _ w3 ⟨rfl, N3⟩
      go_wp2_with fail
      refine (ht _).mono ?_
      rintro _ w4 ⟨rfl, N4⟩
      go_wp2_with fail
      go_ret2
      exact ⟨by rw [HR.out]; rfl, N3.trans N4⟩
    · rw [if_pos (by simpa using hin)] at HR
      rw [decide_eq_false hin] at hh
      clear hin
      go_enter Tryd.func37, Tryd.ntmps37
      go_wp2_with fail
      refine hr.mono ?_
      rintro _ w1 ⟨rfl, rfl⟩
      go_wp2_with fail
      refine hh.mono ?_
      rintro _ w2 ⟨rfl, rfl⟩
      go_wp2_with fail
      go_ret2
      exact ⟨by rw [HR.out]; rfl, New.refl _⟩
  · rw [hd] at hr
    rw [hd, if_pos rfl] at HR
    go_enter Tryd.func37, Tryd.ntmps37
    go_wp2_with fail
    refine hr.mono ?_
    rintro _ w1 ⟨rfl, rfl⟩
    go_wp2_with fail
    go_ret2
    exact ⟨by rw [HR.out]; rfl, New.refl _⟩
theorem read_nil (at_ : Int) (w : World) : Calls Tryd.prog 37 #[.pointer none, .int .i64 at_] w fun e w' => e = .returned (.tuple #[.string ⟨#[]⟩, .int .i64 1]) ∧ w' = w := by
  go_enter Tryd.func37, Tryd.ntmps37
  go_wp2_with fail
  refine (ready_nil _).mono ?_
  rintro _ w1 ⟨rfl, rfl⟩
  go_wp2_with fail
  go_ret2
  exact ⟨rfl, rfl⟩

/-- What stands behind a call of a disk: the same disk, in another state. -/
def Left (F : Nat → Prop) (p : Nat) (w : World) (S : St) (w' : World) : Prop := ∃ F', Disk w' F' p S ∧ Step F F' w w'
theorem Left.refl {w : World} {F : Nat → Prop} {p : Nat} {S : St} (D : Disk w F p S) : Left F p w S w := ⟨F, D, Step.refl F w⟩

theorem Disk.addWait {w0 w W2 W3 : World} {F : Nat → Prop} {p : Nat} {S : St} {a1 a2 : Option Addr} {c1 c2 g3 m cap3 : Nat} {n : Nat} {l : List UInt8} (S0 : Step F F w0 w) (D : Disk w F p S)
    (R : Row w p #[.int .i64 (S.lim : Int), .slice a1 S.ps.length c1, .slice a2 S.ws.length c2, .int .i64 S.fuse, .bool S.down] 81)
    (P1 : Pl w (fun g => F g ∧ g ≠ p) 85 256 (.slice a1 S.ps.length c1) (S.ps.map cellsL)) (P2 : Pl w (fun g => F g ∧ g ≠ p ∧ (Value.slice a1 S.ps.length c1).ownBlock ≠ some g) 113 257 (.slice a2 S.ws.length c2) (S.ws.map waitL))
    (M2 : New w W2) (G3 : W2.grownBy W3 (Value.slice a2 S.ws.length c2).ownBlock) (Q3 : Pl W3 (fun b => (F b ∧ b ≠ p ∧ (Value.slice a1 S.ps.length c1).ownBlock ≠ some b) ∨ W2.heap.size ≤ b) 113 257 (.slice (some ⟨g3, 0, none⟩) m cap3) (S.ws.map waitL ++ [waitL (n, l)]))
    (hn : n < S.ps.length) (hl : l.length = 256) (hfew : S.ws.length < 1000) : Left F p w0 { S with ws := S.ws ++ [(n, l)] } (W3.setCell ⟨p, 2, none⟩ (.slice (some ⟨g3, 0, none⟩) m cap3)) := by
  have hpl := D.lt
  have hsz := M2.size
  have hR3 : Row W3 p _ 81 := (R.after M2).of (G3.block p (Nat.lt_of_lt_of_le hpl hsz) (fun e => (P2.foot p e.symm).2.1 rfl))
  have hg3 : g3 ≠ p ∧ (Value.slice a1 S.ps.length c1).ownBlock ≠ some g3 ∧ (F g3 ∨ w.heap.size ≤ g3) := by
    rcases Q3.foot g3 rfl with ⟨h1, h2, h3⟩ | h
    · exact ⟨h2, h3, .inl h1⟩
    · refine ⟨by omega, fun e => ?_, .inr (by omega)⟩
      have := P1.lt e
      omega
  have e : ∀ b, b ≠ p → (W3.setCell ⟨p, 2, none⟩ (.slice (some ⟨g3, 0, none⟩) m cap3)).heap[b]? = W3.heap[b]? := fun b hb => Below.heap_setCell _ _ _ _ hb
  refine ⟨Wide F w0 (W3.setCell ⟨p, 2, none⟩ (.slice (some ⟨g3, 0, none⟩) m cap3)), Disk.build (F := F) (w := w0) (v1 := .slice a1 S.ps.length c1) (v2 := .slice (some ⟨g3, 0, none⟩) m cap3) (G1 := fun g => (Value.slice a1 S.ps.length c1).ownBlock = some g) (G2 := fun g => g = g3) D.base ⟨D.ok.page, ?_, D.ok.lim, D.ok.len, ?_, D.ok.lo, D.ok.hi⟩ (hR3.set 2 _) ?_ ?_ ?_ ?_, ?_⟩
  · intro x hx
    rcases List.mem_append.1 hx with h | h
    · exact D.ok.wait x h
    · obtain rfl : x = (n, l) := by simpa using h
      exact ⟨hn, hl⟩
  · show (S.ws ++ [(n, l)]).length ≤ 1000
    rw [List.length_append, List.length_singleton]; omega
  · exact ((P1.refoot (G := fun g => (Value.slice a1 S.ps.length c1).ownBlock = some g) fun _ h => h).after M2).of (fun b hb hlt => (e b (P1.foot b hb).2).trans (G3.block b hlt fun h => (P2.foot b h.symm).2.2 hb)) (fun _ h _ => h)
  · show Pl _ _ 113 257 _ ((S.ws ++ [(n, l)]).map waitL)
    rw [List.map_append]
    exact (Q3.refoot (G := fun g => g = g3) fun g hg => by cases hg; rfl).of (fun b hb _ => e b (hb ▸ hg3.1)) (fun _ h _ => h)
  · exact fun g hg => ⟨.inl (P1.foot g hg).1, (P1.foot g hg).2⟩
  · intro g hg
    obtain rfl : g3 = g := by cases hg; rfl
    exact ⟨hg3.2.2.imp id fun h => Nat.le_trans S0.size h, hg3.1, hg3.2.1⟩
  · exact (((S0.trans (Step.new M2)).trans (Step.grown G3 fun k hk => (P2.foot k hk).1)).trans (Step.setCell W3 D.base _)).widen

theorem write_nil (at_ : Int) (s : ByteArray) (w : World) : Calls Tryd.prog 71 #[.pointer none, .int .i64 at_, .string s] w fun e w' => e = .returned (.int .i64 1) ∧ w' = w := by
  go_enter Tryd.func71, Tryd.ntmps71
  go_wp2_with fail
  refine (ready_nil _).mono ?_
  rintro _ w1 ⟨rfl, rfl⟩
  go_wp2_with fail
  go_ret
  exact ⟨rfl, rfl⟩

set_option maxRecDepth 20000 in
set_option maxHeartbeats 2000000 in
theorem write_any {w : World} {F : Nat → Prop} {p : Nat} {S : St} (D : Disk w F p S) (at_ : Int) (s : ByteArray) (hfew : S.ws.length < 1000) :
    Calls Tryd.prog 71 #[.pointer (some ⟨p, 0, none⟩), .int .i64 at_, .string s] w fun e w' => e = .returned (.int .i64 (S.write at_ (L s)).1) ∧ Left F p w (S.write at_ (L s)).2 w' := by
  have hr := ready_any D
  have hh := has_any D at_
  have hac := act_any D
  have HD : Hid (Disk w F p S) := D
  clear D
  have HR : Hid (S.write at_ (L s) = if S.down then (2, S) else if (L s).length ≠ 256 then (1, S) else if ¬ (0 ≤ at_ ∧ at_ < S.ps.length) then (4, S) else if S.fuse = 0 then (2, S.dead) else (0, { S.burn with ws := S.ws ++ [(at_.toNat, L s)] })) := rfl
  generalize S.write at_ (L s) = r at HR ⊢
  cases hd : S.down
  · rw [hd] at hr
    rw [hd, if_neg (by simp)] at HR
    by_cases hs : s.size = 256
    · rw [if_neg (by rw [L_size]; simpa using hs)] at HR
      by_cases hin : 0 ≤ at_ ∧ at_ < S.ps.length
      · rw [if_neg (by simpa using hin)] at HR
        rw [decide_eq_true hin] at hh
        obtain ⟨n, rfl⟩ : ∃ n : Nat, at_ = (n : Int) := ⟨at_.toNat, by omega⟩
        rw [Int.toNat_natCast] at HR
        have hL : (L s).length = 256 := by rw [L_size]; exact hs
        have hn : n < S.ps.length := by omega
        clear hin
        by_cases hz : S.fuse = 0
        · rw [if_pos hz] at HR
          simp only [if_pos hz] at hac
          go_enter Tryd.func71, Tryd.ntmps71
          go_wp2_with fail
          refine hr.mono ?_
          rintro _ w1 ⟨rfl, rfl⟩
          go_wp2_with fail
          refine hh.mono ?_
          rintro _ w2 ⟨rfl, rfl⟩
          go_wp2_with fail
          refine hac.mono ?_
          rintro _ w3 ⟨rfl, D3, S3⟩
          go_wp2_with fail
          go_ret
          exact ⟨by rw [HR.out]; rfl, by rw [HR.out]; exact ⟨F, D3, S3⟩⟩
        · rw [if_neg hz] at HR
          simp only [if_neg hz] at hac
          go_enter Tryd.func71, Tryd.ntmps71
          go_wp2_with fail
          refine hr.mono ?_
          rintro _ w1 ⟨rfl, rfl⟩
          go_wp2_with fail
          refine hh.mono ?_
          rintro _ w2 ⟨rfl, rfl⟩
          go_wp2_with fail
          refine hac.mono ?_
          rintro _ w3 ⟨rfl, D3, S3⟩
          obtain ⟨a1, c1, a2, c2, _, _, h2, _, _, hf, R, P1, P2⟩ := D3.open
          have hpl := D3.lt
          go_wp2_with fail
          have hfw : S.burn.ws.length ≤ 1000 := Nat.le_of_lt hfew
          have hS : HasCell ⟨p, 2, none⟩ (.slice a2 S.burn.ws.length c2) w3.drew := HasCell.of h2
          refine region_take [0, 1, 2, 3, 4, 5, 6] [7, 8, 9, 10, 11, 12] 13 (HasCell ⟨p, 2, none⟩ (.slice a2 S.burn.ws.length c2)) hS (by kernel_rfl) (by kernel_rfl) (fun d _ _ _ _ h => by cases d <;> exact h) ?_
          simp only [pick, List.getElem?_cons_succ, List.getElem?_cons_zero, Option.toList_some, List.cons_append, List.nil_append]
          have hne : Nonempty (CellW ⟨p, 2, none⟩ (.slice a2 S.burn.ws.length c2)) := ⟨⟨w3, h2⟩⟩
          have hq2 : ∀ q : CellW ⟨p, 2, none⟩ (.slice a2 S.burn.ws.length c2), q.v.cell? ⟨p, 2, none⟩ = some (.slice a2 S.burn.ws.length c2) := fun q => q.h
          unfold HasCell
          repeat (go_big_quiet_step (fail))
          refine wpQuiet_nil ?_
          have NW0 : New w3 w3.drew := New.drew w3
          clear hq2 hne hS
          refine wpPre_call (some 33) 38 #[.string s] (by rfl) (by rfl) (by rfl) (by go_simp) ?_
          refine (pageOf_any s hs _).mono ?_
          rintro _ W1 ⟨rfl, N1⟩
          have M1 : New w3 W1 := NW0.trans N1
          refine ⟨_, rfl, HasCell.of ((M1.cell hpl).trans h2), ?_⟩
          simp only [Act.put, List.setIfInBounds_toArray, List.set_cons_zero, List.set_cons_succ]
          refine wpPre_run (some 34) (.agg (waitL (n, L s)).toArray) W1 (by rfl) (by rfl) (by rfl) (exec_build2 (by rfl) (by rfl) (by rfl) (run_build W1 113 _ _ (built80 (n : Int) (cellsL (L s)).toArray (by rw [cellsL_size, hL])))) (HasCell.of ((M1.cell hpl).trans h2)) ?_
          simp only [Act.put, List.setIfInBounds_toArray, List.set_cons_zero, List.set_cons_succ]
          have hb1 := run_buildOne W1 79 113 (waitL (n, L s)).toArray _ _ _ Tryd.underlying79 info80 (by rw [List.size_toArray, waitL_length (x := (n, L s)) hL]) (by decide) (by decide)
          have R2 := Row.new W1 (waitL (n, L s)).toArray 113
          have M2 : New w3 (W1.alloc (.cells (waitL (n, L s)).toArray 113)) := M1.alloc _
          generalize W1.alloc (.cells (waitL (n, L s)).toArray 113) = W2 at hb1 R2 M2
          refine wpPre_run (some 35) _ W2 (by rfl) (by rfl) (by rfl) (exec_buildSlice (by rfl) (by rfl) hb1) (HasCell.of ((M2.cell hpl).trans h2)) ?_
          simp only [Act.put, List.setIfInBounds_toArray, List.set_cons_zero, List.set_cons_succ]
          obtain ⟨g3, cap3, W3, hb2, Q3, G3⟩ := run_append_pl (P2.after M2) 79 79 Tryd.underlying79 _ _ info80 info80_size (by decide) W1.heap.size (waitL (n, L s)) 113 R2 (waitL_length (x := (n, L s)) hL) (waitL_one _) (by rw [List.length_map]; omega) (by decide)
          have R3 : Row W3 p _ 81 := (R.after M2).of (G3.block p (Nat.lt_of_lt_of_le hpl M2.size) (fun e => (P2.foot p e.symm).2.1 rfl))
          have hs3 : W3.cell? ⟨p, 2, none⟩ = some (.slice a2 S.burn.ws.length c2) := R3.cell 2
          have hf3 := R3.frozen 2
          refine wpPre_run (some 36) _ W3 (by rfl) (by rfl) (by rfl) (exec_append (by rfl) (by rfl) (by rfl) hb2) (HasCell.of hs3) ?_
          simp only [Act.put, List.setIfInBounds_toArray, List.set_cons_zero, List.set_cons_succ]
          refine wpPre_run (some 37) (.pointer (some ⟨p, 0, none⟩)) W3 (by rfl) (by rfl) (by rfl) (by go_simp) (HasCell.of hs3) ?_
          simp only [Act.put, List.setIfInBounds_toArray, List.set_cons_zero, List.set_cons_succ]
          refine wpPre_run (some 38) (.pointer (some ⟨p, 2, none⟩)) W3 (by rfl) (by rfl) (by rfl) (by go_simp) (HasCell.of hs3) ?_
          simp only [Act.put, List.setIfInBounds_toArray, List.set_cons_zero, List.set_cons_succ]
          refine wpPre_nil ?_
          clear hb1 hb2 h2 hf
          go_wp2_with fail
          go_ret
          refine ⟨by rw [HR.out]; rfl, ?_⟩
          rw [HR.out]
          have hlen : (S.burn.ws.map waitL).length + 1 = S.burn.ws.length + 1 := by rw [List.length_map]
          rw [hlen] at Q3
          exact Disk.addWait S3 D3 R P1 P2 M2 G3 Q3 hn hL hfew
      · rw [if_pos (by simpa using hin)] at HR
        rw [decide_eq_false hin] at hh
        clear hin hac
        go_enter Tryd.func71, Tryd.ntmps71
        go_wp2_with fail
        refine hr.mono ?_
        rintro _ w1 ⟨rfl, rfl⟩
        go_wp2_with fail
        refine hh.mono ?_
        rintro _ w2 ⟨rfl, rfl⟩
        go_wp2_with fail
        go_ret
        exact ⟨by rw [HR.out]; rfl, by rw [HR.out]; exact Left.refl HD.out⟩
    · rw [if_pos (by rw [L_size]; simpa using hs)] at HR
      have hs' : ¬ (s.size : Int) = 256 := by omega
      clear hac hh
      go_enter Tryd.func71, Tryd.ntmps71
      go_wp2_with fail
      refine hr.mono ?_
      rintro _ w1 ⟨rfl, rfl⟩
      go_wp2_with fail
      go_ret
      exact ⟨by rw [HR.out]; rfl, by rw [HR.out]; exact Left.refl HD.out⟩
  · rw [hd] at hr
    rw [hd, if_pos rfl] at HR
    clear hac hh
    go_enter Tryd.func71, Tryd.ntmps71
    go_wp2_with fail
    refine hr.mono ?_
    rintro _ w1 ⟨rfl, rfl⟩
    go_wp2_with fail
    go_ret
    exact ⟨by rw [HR.out]; rfl, by rw [HR.out]; exact Left.refl HD.out⟩

end Go.Proofs.YtkcoclpbkealgaaDoor
namespace Go.Proofs.YtkcoclpbkealgaaDoor
open Go.RowKit
set_option maxRecDepth 20000

theorem Disk.newStable {w0 w W2 : World} {F : Nat → Prop} {p : Nat} {S : St} {v1 v2 v : Value} {ps : List (List UInt8)} {F' : Nat → Prop} (S0 : Step F F' w0 w) (D : Disk w F p S)
    (R : Row w p #[.int .i64 (S.lim : Int), v1, v2, .int .i64 S.fuse, .bool S.down] 81) (M2 : New w W2) (Q : Pl W2 (Fresh w) 85 256 v (ps.map cellsL)) (hps : ∀ q ∈ ps, q.length = 256) (hlen : ps.length ≤ S.lim) :
    Left F p w0 { S with ps := ps, ws := [] } ((W2.setCell ⟨p, 1, none⟩ v).setCell ⟨p, 2, none⟩ (.slice none 0 0)) := by
  have hpl := D.lt
  have e : ∀ b, b ≠ p → ((W2.setCell ⟨p, 1, none⟩ v).setCell ⟨p, 2, none⟩ (.slice none 0 0)).heap[b]? = W2.heap[b]? := fun b hb => (Below.heap_setCell _ _ _ _ hb).trans (Below.heap_setCell _ _ _ _ hb)
  refine ⟨Wide F w0 _, Disk.build (F := F) (w := w0) (v1 := v) (v2 := .slice none 0 0) (G1 := fun g => w.heap.size ≤ g) (G2 := fun _ => True) D.base ⟨hps, (by intro x hx; cases hx), D.ok.lim, hlen, Nat.zero_le _, D.ok.lo, D.ok.hi⟩ (((R.after M2).set 1 _).set 2 _) ?_ (Pl.nil _ _ _ _) ?_ (fun g hg => by cases hg), ?_⟩
  · exact Q.of (fun b hb _ => e b (by have : w.heap.size ≤ b := hb; omega)) (fun _ h _ => h)
  · intro g hg
    have : w.heap.size ≤ g := Q.foot g hg
    exact ⟨.inr (Nat.le_trans S0.size this), by omega⟩
  · exact ((((S0.wide (G := F) fun k hk => .inl hk).trans (Step.new M2)).trans (Step.setCell W2 (a := ⟨p, 1, none⟩) D.base _)).trans (Step.setCell _ (a := ⟨p, 2, none⟩) D.base _)).widen

theorem Disk.addPage {w0 w W2 W3 : World} {F F0 : Nat → Prop} {p : Nat} {S : St} {v1 v2 : Value} {g3 m cap3 : Nat} {q : List UInt8} (S0 : Step F0 F w0 w) (h0 : F0 p) (D : Disk w F p S)
    (R : Row w p #[.int .i64 (S.lim : Int), v1, v2, .int .i64 S.fuse, .bool S.down] 81)
    (P2 : Pl w (fun g => F g ∧ g ≠ p ∧ v1.ownBlock ≠ some g) 113 257 v2 (S.ws.map waitL)) (P1 : Pl w (fun g => F g ∧ g ≠ p ∧ v2.ownBlock ≠ some g) 85 256 v1 (S.ps.map cellsL))
    (M2 : New w W2) (G3 : W2.grownBy W3 v1.ownBlock) (Q3 : Pl W3 (fun b => (F b ∧ b ≠ p ∧ v2.ownBlock ≠ some b) ∨ W2.heap.size ≤ b) 85 256 (.slice (some ⟨g3, 0, none⟩) m cap3) (S.ps.map cellsL ++ [cellsL q]))
    (hl : q.length = 256) (hlim : S.ps.length < S.lim) : Left F0 p w0 { S with ps := S.ps ++ [q] } (W3.setCell ⟨p, 1, none⟩ (.slice (some ⟨g3, 0, none⟩) m cap3)) := by
  have hpl := D.lt
  have hsz := M2.size
  have hR3 : Row W3 p _ 81 := (R.after M2).of (G3.block p (Nat.lt_of_lt_of_le hpl hsz) (fun e => (P1.foot p e.symm).2.1 rfl))
  have hg3 : g3 ≠ p ∧ v2.ownBlock ≠ some g3 ∧ (F g3 ∨ w.heap.size ≤ g3) := by
    rcases Q3.foot g3 rfl with ⟨h1, h2, h3⟩ | h
    · exact ⟨h2, h3, .inl h1⟩
    · refine ⟨by omega, fun e => ?_, .inr (by omega)⟩
      have := P2.lt e
      omega
  have e : ∀ b, b ≠ p → (W3.setCell ⟨p, 1, none⟩ (.slice (some ⟨g3, 0, none⟩) m cap3)).heap[b]? = W3.heap[b]? := fun b hb => Below.heap_setCell _ _ _ _ hb
  have hF : ∀ g, F g ∨ w.heap.size ≤ g → F0 g ∨ w0.heap.size ≤ g := fun g h => by
    rcases h with h | h
    · exact S0.foot g h
    · exact .inr (Nat.le_trans S0.size h)
  refine ⟨Wide F0 w0 (W3.setCell ⟨p, 1, none⟩ (.slice (some ⟨g3, 0, none⟩) m cap3)), Disk.build (F := F0) (w := w0) (v1 := .slice (some ⟨g3, 0, none⟩) m cap3) (v2 := v2) (G1 := fun g => g = g3) (G2 := fun g => v2.ownBlock = some g) h0 ⟨?_, ?_, D.ok.lim, ?_, D.ok.few, D.ok.lo, D.ok.hi⟩ (hR3.set 1 _) ?_ ?_ ?_ ?_, ?_⟩
  · intro x hx
    rcases List.mem_append.1 hx with h | h
    · exact D.ok.page x h
    · obtain rfl : x = q := by simpa using h
      exact hl
  · intro x hx
    have := D.ok.wait x hx
    exact ⟨by show x.1 < (S.ps ++ [q]).length; rw [List.length_append]; omega, this.2⟩
  · show (S.ps ++ [q]).length ≤ S.lim
    rw [List.length_append, List.length_singleton]; omega
  · show Pl _ _ 85 256 _ ((S.ps ++ [q]).map cellsL)
    rw [List.map_append]
    exact (Q3.refoot (G := fun g => g = g3) fun g hg => by cases hg; rfl).of (fun b hb _ => e b (hb ▸ hg3.1)) (fun _ h _ => h)
  · exact ((P2.refoot (G := fun g => v2.ownBlock = some g) fun _ h => h).after M2).of (fun b hb hlt => (e b (P2.foot b hb).2.1).trans (G3.block b hlt fun h => (P1.foot b h.symm).2.2 hb)) (fun _ h _ => h)
  · intro g hg
    obtain rfl : g3 = g := by cases hg; rfl
    exact ⟨hF _ hg3.2.2, hg3.1⟩
  · intro g hg
    refine ⟨hF _ (.inl (P2.foot g hg).1), (P2.foot g hg).2.1, fun h => ?_⟩
    have : g3 = g := by cases h; rfl
    exact hg3.2.1 (this ▸ hg)
  · exact (((S0.trans (Step.new M2)).trans (Step.grown G3 fun k hk => (P1.foot k hk).1)).trans (Step.setCell W3 (a := ⟨p, 1, none⟩) D.base _)).widen
theorem Disk.turned {w : World} {F : Nat → Prop} {p : Nat} {v1 v2 : Value} {es1 es2 : List (List Value)} (P1 : Pl w (fun g => F g ∧ g ≠ p) 85 256 v1 es1) (P2 : Pl w (fun g => F g ∧ g ≠ p ∧ v1.ownBlock ≠ some g) 113 257 v2 es2) :
    Pl w (fun g => F g ∧ g ≠ p ∧ v2.ownBlock ≠ some g) 85 256 v1 es1 := P1.refoot fun g hg => ⟨(P1.foot g hg).1, (P1.foot g hg).2, fun h => (P2.foot g h).2.2 hg⟩
theorem built77 : Tryd.prog.built 85 [] = some (cellsL zeros).toArray := by kernel_rfl
theorem info77_size : (Value.agg (cellsL zeros).toArray).cells.size = 256 := by show (cellsL zeros).toArray.size = 256; rw [cellsL_size, zeros_length]
theorem wpList_build_zero {w : World} {ops : Array Oper} {rest : List Oper} {o : Oper} {a : Act} {Q : Exit → Act → World → Prop} (hgd : o.guard = none) (ho : o.op = .build 85 #[]) (h : wpList Tryd.prog ops Q rest (a.put o.dst (.agg (cellsL zeros).toArray)) w) : wpList Tryd.prog ops Q (o :: rest) a w := by
  refine wpList_run hgd _ w ?_ h
  unfold execOp
  simp only [ho, List.map_toArray, List.map_nil, Sem.run_bind, run_build w 85 #[] _ built77, Result.andThen_ok, Sem.run_pure]
theorem growTo_length {ps : List (List UInt8)} {m : Nat} (h : ps.length ≤ m) : (growTo ps m).length = m := by unfold growTo; rw [List.length_append, List.length_replicate]; omega
theorem growTo_next {ps : List (List UInt8)} {m : Nat} (h : ps.length ≤ m) : growTo ps m ++ [zeros] = growTo ps (m + 1) := by
  unfold growTo
  rw [show m + 1 - ps.length = (m - ps.length) + 1 by omega, List.replicate_succ', List.append_assoc]
theorem growTo_same {ps : List (List UInt8)} {m : Nat} (h : m ≤ ps.length) : growTo ps m = ps := by unfold growTo; rw [show m - ps.length = 0 by omega]; simp
/-- How long the file is, by its cell. -/
def longAt (w : World) (p : Nat) : Nat := match w.cell? ⟨p, 1, none⟩ with | some (.slice _ l _) => l | _ => 0

end Go.Proofs.YtkcoclpbkealgaaDoor
