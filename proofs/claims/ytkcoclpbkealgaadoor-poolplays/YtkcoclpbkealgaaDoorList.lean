/-
  What a disk's lists tell: a copy of the pages, all pages as they are read, one page as it is read, what waits below a place.
-/
import Derived.Test.YtkcoclpbkealgaaDoorLeaf
import Derived.Lib.LazyBuf
namespace Go.Proofs.YtkcoclpbkealgaaDoor
open Go.RowKit
set_option maxRecDepth 20000

/-- New memory alone. -/
def Fresh (w : World) : Nat → Prop := fun g => w.heap.size ≤ g

/-- Just this block may have changed. -/
structure But (g : Nat) (w w' : World) : Prop where
  os : w'.os = w.os
  tape : w'.tape = w.tape
  output : w'.output = w.output
  size : w'.heap.size = w.heap.size
  block : ∀ k, k ≠ g → w'.heap[k]? = w.heap[k]?
theorem But.new {g : Nat} {w0 w w' : World} (h : But g w w') (k : New w0 w) (hg : w0.heap.size ≤ g) : New w0 w' := ⟨h.os.trans k.os, h.tape.trans k.tape, h.output.trans k.output, by rw [h.size]; exact k.size, fun i hi => (h.block i (by omega)).trans (k.block i hi)⟩
theorem But.step {g : Nat} {w w' : World} {F : Nat → Prop} (h : But g w w') (hF : F g) : Step F F w w' := ⟨h.os, h.tape, h.output, by rw [h.size]; exact Nat.le_refl _, fun i _ hi => h.block i (fun e => hi (e ▸ hF)), fun _ h => .inl h⟩
theorem Pl.but {w w' : World} {F : Nat → Prop} {t : TypeId} {k g : Nat} {v : Value} {es : List (List Value)} (h : Pl w F t k v es) (b : But g w w') (hg : ¬ F g) : Pl w' F t k v es := h.of (fun i hi _ => b.block i (fun e => hg (e ▸ hi))) (fun _ h _ => h)

section
variable {P : Program} {w : World} {ops : Array Oper} {rest : List Oper} {o : Oper} {a : Act} {Q : Exit → Act → World → Prop}
theorem wpList_alloc_new (hgd : o.guard = none) (t : TypeId) (ho : o.op = .alloc t) (z : Array Value) (n b : Nat) (hi : (P.info? t).map (fun i => (i.zero, i.size, i.bytes)) = some (some (.agg z), n, b))
    (h : ∀ W', Row W' w.heap.size z t → New w W' → wpList P ops Q rest (a.put o.dst (.pointer (some ⟨w.heap.size, 0, none⟩))) W') : wpList P ops Q (o :: rest) a w :=
  wpList_alloc_zero hgd t ho z n b hi (h _ (Row.new w z t) ((New.refl w).alloc _))
theorem wpList_store_new (hgd : o.guard = none) (ty : TypeId) (x y : Operand) (ho : o.op = .store ty x y) (g : Nat) (cells : Array Value) (hx : a.eval x = .pointer (some ⟨g, 0, none⟩)) (hy : a.eval y = .agg cells)
    (t : TypeId) (cur : Array Value) (R : Row w g cur t) (hi : (P.info? ty).map (·.size) = some cells.size) (hs : cur.size = cells.size) (h1 : cells.all (·.oneCell') = true)
    (h : ∀ W', Row W' g cells t → But g w W' → wpList P ops Q rest (a.put o.dst undef) W') : wpList P ops Q (o :: rest) a w :=
  wpList_store_row hgd ty x y ho g cells hx hy t cur R hi hs h1 (h _ (R.setRow cells) ⟨rfl, rfl, rfl, by simp [World.setRow], fun k hk => setRow_other w g k cells hk⟩)
theorem wpList_load_pl (hgd : o.guard = none) (ty : TypeId) (x : Operand) (ho : o.op = .load ty x) (F : Nat → Prop) (t : TypeId) (k g n c i : Nat) (es : List (List Value)) (e : List Value) (d : TypeDesc)
    (H : Pl w F t k (.slice (some ⟨g, 0, none⟩) n c) es) (he : es[i]? = some e) (hx : a.eval x = .pointer (some ⟨g, i * k, none⟩))
    (hu : P.underlying ty = some d) (hd : d.isRow = true) (hi : (P.info? ty).map (·.size) = some e.length)
    (h : wpList P ops Q rest (a.put o.dst (.agg e.toArray)) w) : wpList P ops Q (o :: rest) a w := by
  obtain ⟨hlt, rfl⟩ := List.getElem?_eq_some_iff.1 he
  exact wpList_load_mid hgd ty x ho g (i * k) hx _ d (H.range hlt) hu hd hi h
theorem wpList_store_pl (hgd : o.guard = none) (ty : TypeId) (x y : Operand) (ho : o.op = .store ty x y) (F : Nat → Prop) (t : TypeId) (k g n c i : Nat) (es : List (List Value)) (e : List Value)
    (H : Pl w F t k (.slice (some ⟨g, 0, none⟩) n c) es) (hlt : i < es.length) (hx : a.eval x = .pointer (some ⟨g, i * k, none⟩)) (hy : a.eval y = .agg e.toArray) (he : e.length = k)
    (hi : (P.info? ty).map (·.size) = some e.toArray.size) (h1 : ∀ v ∈ e, v.oneCell' = true)
    (h : ∀ W', Pl W' F t k (.slice (some ⟨g, 0, none⟩) n c) (es.set i e) → But g w W' → wpList P ops Q rest (a.put o.dst undef) W') : wpList P ops Q (o :: rest) a w := by
  obtain ⟨q1, q2, q3⟩ := setCells_rest g e (i * k) w
  exact wpList_store_mid hgd ty x y ho g (i * k) e.toArray hx hy (by rw [List.size_toArray, he]; exact H.there hlt) hi (all_oneCell_toArray h1) (h _ (H.set hlt he) ⟨q1, q2, q3, setCells_size _ _ _ _, fun b hb => setCells_other _ _ _ _ _ hb⟩)
end
theorem wpList_appends {P : Program} {w : World} {ops : Array Oper} {rest : List Oper} {o : Oper} {a : Act} {Q : Exit → Act → World → Prop} (hgd : o.guard = none) (s x : Operand) (t ty : TypeId) (v1 v2 v : Value) (w' : World)
    (ho : o.op = .call { callee := .builtin .append, args := #[s, x], argTypes := #[t, t] }) (hty : o.type = ty) (h1 : a.eval s = v1) (h2 : a.eval x = v2) (hr : (Builtin.append_ #[t, t] ty #[v1, v2]).run P w = .ok v w')
    (h : wpList P ops Q rest (a.put o.dst v) w') : wpList P ops Q (o :: rest) a w := by
  refine wpList_plain hgd fun K hK => ?_
  subst hty
  unfold Oper.wp execOp
  simp only [ho, resolve, invoke, builtin, Sem.run_bind, Sem.run_pure, Result.andThen_ok, List.map_toArray, List.map_cons, List.map_nil, h1, h2, hr]
  exact hK _ _ h

section
variable {w : World} {F : Nat → Prop} {t : TypeId} {k : Nat} {v : Value} {es : List (List Value)}
theorem run_append_pl (H : Pl w F t k v es) (T ty : TypeId) (hT : Tryd.prog.underlying T = some (.slice t)) (z : Value) (bytes : Nat) (hi : (Tryd.prog.info? t).map (fun i => (i.zero, i.size, i.bytes)) = some (some z, k, bytes)) (hz : z.cells.size = k) (hk : 0 < k)
    (B : Nat) (e : List Value) (tb : TypeId) (R : Row w B e.toArray tb) (he : e.length = k) (hone : ∀ u ∈ e, u.oneCell' = true) (hn : es.length ≤ 1000000) (hb : bytes ≤ 1000) :
    ∃ g cap w', (Builtin.append_ #[T, T] ty #[v, .slice (some ⟨B, 0, none⟩) 1 1]).run Tryd.prog w = .ok (.slice (some ⟨g, 0, none⟩) (es.length + 1) cap) w' ∧
      Pl w' (fun b => F b ∨ w.heap.size ≤ b) t k (.slice (some ⟨g, 0, none⟩) (es.length + 1) cap) (es ++ [e]) ∧ w.grownBy w' v.ownBlock := by
  obtain ⟨i0, hi0, hz0, hz1, hz2⟩ := info_parts hi
  have hbb : (es.length + 1) * bytes ≤ 1000001 * 1000 := Nat.mul_le_mul (by omega) hb
  obtain ⟨g, cap, w', hr, h2, h3, h4, h5⟩ := run_append_lies (P := Tryd.prog) w T ty 0 t i0 z k bytes hT hi0 hz0 hz1 hz2 hz hk v es.length es.flatten H.own ⟨B, 0, none⟩ 1 1 e (by rw [he, Nat.one_mul]) (World.news_of_block (cs := e.toArray) R) hone (by decide) (by unfold maxLen; omega) (by omega) (Nat.zero_le _) w.heap.size rfl
  refine ⟨g, cap, w', hr, ⟨?_, ?_, ?_⟩, h3⟩
  · intro x hx
    rcases List.mem_append.1 hx with h | h
    · exact H.each x h
    · obtain rfl : x = e := by simpa using h
      exact he
  · rw [List.length_append, List.length_singleton, List.flatten_append]
    simpa using h2
  · intro b hb
    cases hb
    rcases h4 with h | h
    · exact .inl (H.foot _ h)
    · exact .inr (Nat.le_of_eq h.symm)
theorem wpList_append_pl {ops : Array Oper} {rest : List Oper} {o : Oper} {a : Act} {Q : Exit → Act → World → Prop} (H : Pl w F t k v es) (hgd : o.guard = none) (s x : Operand) (T : TypeId) (ho : o.op = .call { callee := .builtin .append, args := #[s, x], argTypes := #[T, T] }) (hT : Tryd.prog.underlying T = some (.slice t)) (z : Value) (bytes : Nat) (hi : (Tryd.prog.info? t).map (fun i => (i.zero, i.size, i.bytes)) = some (some z, k, bytes)) (hz : z.cells.size = k) (hk : 0 < k)
    (B : Nat) (e : List Value) (tb : TypeId) (R : Row w B e.toArray tb) (he : e.length = k) (hone : ∀ u ∈ e, u.oneCell' = true) (hn : es.length ≤ 1000000) (hb : bytes ≤ 1000) (h1 : a.eval s = v) (h2 : a.eval x = .slice (some ⟨B, 0, none⟩) 1 1)
    (h : ∀ g cap W', Pl W' (fun b => F b ∨ w.heap.size ≤ b) t k (.slice (some ⟨g, 0, none⟩) (es.length + 1) cap) (es ++ [e]) → w.grownBy W' v.ownBlock → wpList Tryd.prog ops Q rest (a.put o.dst (.slice (some ⟨g, 0, none⟩) (es.length + 1) cap)) W') : wpList Tryd.prog ops Q (o :: rest) a w := by
  obtain ⟨g, cap, w', hr, h3, h4⟩ := run_append_pl H T o.type hT z bytes hi hz hk B e tb R he hone hn hb
  exact wpList_appends hgd s x T o.type v _ _ w' ho rfl h1 h2 hr (h g cap w' h3 h4)
theorem wpList_build_one {ops : Array Oper} {rest : List Oper} {o : Oper} {a : Act} {Q : Exit → Act → World → Prop} (hgd : o.guard = none) (T : TypeId) (x : Operand) (ho : o.op = .buildSlice T 1 #[(0, x)]) (hT : Tryd.prog.underlying T = some (.slice t)) (z : Value) (bytes : Nat) (hi : (Tryd.prog.info? t).map (fun i => (i.zero, i.size, i.bytes)) = some (some z, k, bytes))
    (cs : Array Value) (hx : a.eval x = .agg cs) (hc : cs.size = k) (hk : 0 < k) (hk' : k ≤ 1000)
    (h : ∀ W', Row W' w.heap.size cs t → New w W' → wpList Tryd.prog ops Q rest (a.put o.dst (.slice (some ⟨w.heap.size, 0, none⟩) 1 1)) W') : wpList Tryd.prog ops Q (o :: rest) a w := by
  refine wpList_run hgd _ (w.alloc (.cells cs t)) ?_ (h _ (Row.new w cs t) ((New.refl w).alloc _))
  unfold execOp
  simp only [ho, List.map_toArray, List.map_cons, List.map_nil, hx, Sem.run_bind, run_buildOne w T t cs z bytes k hT hi hc hk hk', Result.andThen_ok, Sem.run_pure]
end
theorem wait_cell {w : World} {g o : Nat} {x : Nat × List UInt8} (h : w.rangeAt g o (waitL x)) : w.cell? ⟨g, o, none⟩ = some (.int .i64 (x.1 : Int)) := h 0 _ rfl
theorem wait_data {w : World} {g o : Nat} {x : Nat × List UInt8} (h : w.rangeAt g o (waitL x)) : w.rangeAt g (o + 1) (cellsL x.2) := fun j v hv => by
  have := h (j + 1) v (by unfold waitL; rw [List.getElem?_cons_succ]; exact hv)
  rwa [show o + (j + 1) = o + 1 + j by omega] at this
theorem map_getD {α β : Type} (f : α → β) (l : List α) (i : Nat) (d : α) (h : i < l.length) : (l.map f)[i]? = some (f (l.getD i d)) := by
  rw [List.getElem?_map, List.getElem?_eq_getElem h, List.getD_eq_getElem?_getD, List.getElem?_eq_getElem h]; rfl
theorem cells_one_map (ps : List (List UInt8)) : ∀ e ∈ ps.map cellsL, ∀ v ∈ e, v.oneCell' = true := fun e he => by
  obtain ⟨p, _, rfl⟩ := List.mem_map.1 he; exact cellsL_one p
theorem waitL_length {x : Nat × List UInt8} (h : x.2.length = 256) : (waitL x).length = 257 := by unfold waitL; rw [List.length_cons, cellsL_length, h]
theorem waitL_all (x : Nat × List UInt8) : (waitL x).toArray.all (·.oneCell') = true := all_oneCell_toArray (waitL_one x)
theorem waitL_at {w : World} {g : Nat} {x : Nat × List UInt8} (R : Row w g (waitL x).toArray 113) : w.cell? ⟨g, 0, none⟩ = some (.int .i64 (x.1 : Int)) := by rw [R.cell]; simp [waitL]
theorem waitL_range {w : World} {g : Nat} {x : Nat × List UInt8} (R : Row w g (waitL x).toArray 113) (h : x.2.length = 256) : w.rangeAt g 1 (cellsL x.2) := by
  have := R.range 1 256
  simp only [waitL, List.drop_one, List.tail_cons] at this
  rw [List.take_of_length_le (by rw [cellsL_length]; omega)] at this
  exact this

theorem run_clone {w : World} {F : Nat → Prop} {a : Option Addr} {n c : Nat} {es : List (List Value)} (h : Pl w F 85 256 (.slice a n c) es) (hone : ∀ e ∈ es, ∀ v ∈ e, v.oneCell' = true) (h0 : a ≠ none) (hn : es.length ≤ 1000000) (ty : TypeId) :
    ∃ v w', (Builtin.append_ #[78, 78] ty #[.slice (some ⟨w.heap.size, 0, none⟩) 0 0, .slice a n c]).run Tryd.prog (w.alloc (.cells #[] 85)) = .ok v w' ∧ Pl w' (Fresh w) 85 256 v es ∧ New w w' := by
  obtain ⟨i0, hi0, hz0, hz1, hz2⟩ := info_parts info77
  obtain ⟨g, hg⟩ : ∃ g, a = some g := Option.ne_none_iff_exists'.1 h0
  subst hg
  obtain ⟨g', c', hv, _⟩ : ∃ g' c', Value.slice (some g) n c = .slice (some ⟨g', 0, none⟩) es.length c' ∧ True := by
    rcases h.own.2 with ⟨h1, _⟩ | ⟨g', cap, cur, hv, _⟩
    · cases h1
    · exact ⟨g', cap, hv, trivial⟩
  cases hv
  have hN : New w (w.alloc (.cells #[] 85)) := (New.refl w).alloc _
  have ho : (w.alloc (.cells #[] 85)).ownsRow w.heap.size 85 256 (.slice (some ⟨w.heap.size, 0, none⟩) 0 0) 0 [] :=
    ⟨rfl, .inr ⟨w.heap.size, 0, #[], rfl, Nat.le_refl _, heap_alloc_new w _, Nat.le_refl _, by unfold maxLen; omega, rfl, rfl⟩⟩
  have hl := flat_length h.each
  obtain ⟨v', w', hr, h2, h3, _, h5⟩ := run_append_own_at (P := Tryd.prog) (w.alloc (.cells #[] 85)) w.heap.size 78 ty 85 i0 _ 256 256 Tryd.underlying78 hi0 hz0 hz1 hz2 (by show (cellsL zeros).toArray.size = 256; rw [cellsL_size, zeros_length]) (by decide) _ 0 [] ho ⟨g', 0, none⟩ es.length c es.flatten hl
    (fun j u hu => by have := h.own.cells (g := g') rfl j u hu; rw [Addr.add_mid] at this ⊢; exact (hN.cell (p := ⟨g', 0 + j, none⟩) (h.lt (g := g') rfl)).trans this) (fun u hu => by obtain ⟨e, he, hue⟩ := List.mem_flatten.1 hu; exact hone e he u hue) (by unfold maxLen; omega) (by omega) (by simp)
  have hfr : ∀ k, v'.ownBlock = some k → w.heap.size ≤ k := fun k hk => (h2.lt k hk).1
  refine ⟨v', w', by simpa using hr, ⟨h.each, ?_, hfr⟩, hN.grown h3 (fun k hk => by cases hk; exact Nat.le_refl _)⟩
  rw [Nat.zero_add, List.nil_append] at h2
  exact ⟨h2.1, h2.2.imp id fun ⟨g, c, cur, hv, _, r⟩ => ⟨g, c, cur, hv, Nat.zero_le _, r⟩⟩

theorem clone_any {w : World} {F : Nat → Prop} {a : Option Addr} {n c : Nat} {es : List (List Value)} (h : Pl w F 85 256 (.slice a n c) es) (hone : ∀ e ∈ es, ∀ v ∈ e, v.oneCell' = true) (hn : es.length ≤ 1000000) :
    Calls Tryd.prog 77 #[.slice a n c] w fun e w' => ∃ v, e = .returned v ∧ Pl w' (Fresh w) 85 256 v es ∧ New w w' := by
  cases a with
  | none =>
    have h1 : Value.slice none n c = .slice none 0 0 ∧ es = [] := by
      rcases h.own.2 with ⟨h1, h2⟩ | ⟨g', cap, cur, hv, _⟩
      · exact ⟨h1, List.eq_nil_of_length_eq_zero h2⟩
      · cases hv
    obtain ⟨h1, rfl⟩ := h1
    cases h1
    clear h hone hn
    have hq := run_eql_slice_nil (P := Tryd.prog) w 78 85 none 0 0 Tryd.underlying78
    go_enter Tryd.func77, Tryd.ntmps77
    go_wp2_with fail
    go_ret
    exact ⟨_, rfl, Pl.nil _ _ _ _, New.refl w⟩
  | some g =>
    obtain ⟨v, w', hr, h2, h3⟩ := run_clone h hone (by simp) hn 78
    have HP : Hid (Pl w' (Fresh w) 85 256 v es ∧ New w w') := ⟨h2, h3⟩
    clear h hone h2 h3
    have hq := run_eql_slice_nil (P := Tryd.prog) w 78 85 (some g) n c Tryd.underlying78
    go_enter Tryd.func77, Tryd.ntmps77
    go_wp2_with (refine wpList_appends (by rfl) _ _ 78 78 _ _ v w' (by rfl) (by rfl) (by rfl) (by rfl) hr ?_)
    go_ret
    exact ⟨v, rfl, HP.out⟩

set_option maxHeartbeats 1000000 in
theorem latest_any {w : World} {F : Nat → Prop} {p : Nat} {S : St} (D : Disk w F p S) :
    Calls Tryd.prog 58 #[.pointer (some ⟨p, 0, none⟩)] w fun e w' => ∃ v, e = .returned v ∧ Pl w' (Fresh w) 85 256 v ((latest S.ps S.ws).map cellsL) ∧ New w w' := by
  obtain ⟨a1, c1, a2, c2, h0, h1, h2, h3, h4, hf, R, P1, P2⟩ := D.open
  have hok := D.ok
  have hcl := clone_any P1 (cells_one_map _) (by rw [List.length_map]; have := hok.len; have := hok.lim; omega)
  have hpl : p < w.heap.size := D.lt
  have HP : Hid (Pl w (fun g => F g ∧ g ≠ p ∧ (Value.slice a1 S.ps.length c1).ownBlock ≠ some g) 113 257 (.slice a2 S.ws.length c2) (S.ws.map waitL)) := P2
  clear D R P1 P2
  go_enter Tryd.func58, Tryd.ntmps58
  go_wp2_with fail
  refine hcl.mono ?_
  rintro _ w1 ⟨v, rfl, Q1, N1⟩
  clear hcl
  have k2 := (N1.cell (p := ⟨p, 2, none⟩) hpl).trans h2
  clear h0 h1 h2 h3 h4 hf
  go_wp2_with fail
  clear k2
  go_loopw [16] (fun i wr => ∃ k : Nat, k ≤ S.ws.length ∧ i = .int .i64 (k : Int) ∧ Pl wr (Fresh w) 85 256 v ((latestN S.ps S.ws k).map cellsL) ∧ New w wr) (fun i _ => S.ws.length - (intOf i).toNat)
  case atStart => exact ⟨0, by omega, rfl, Q1, N1⟩
  case round =>
    clear Q1 N1
    obtain ⟨k, hk, rfl, Q1, N1⟩ := hrel
    by_cases hlt : k < S.ws.length
    · have hlt' : (k : Int) < (S.ws.length : Int) := by omega
      obtain ⟨g2, c2', e2, _, hg2, _⟩ := HP.out.full (by rw [List.length_map]; omega)
      rw [List.length_map] at e2
      cases e2
      have hx := map_getD waitL S.ws k (0, []) hlt
      obtain ⟨hx1, hx2⟩ := hok.at hlt
      have HL : Hid (latestN S.ps S.ws (k + 1) = (latestN S.ps S.ws k).set (S.ws.getD k (0, [])).1 (S.ws.getD k (0, [])).2) := rfl
      have hll := latestN_length S.ps S.ws k
      obtain ⟨x, hxe⟩ : ∃ x, S.ws.getD k (0, []) = x := ⟨_, rfl⟩
      rw [hxe] at hx hx1 hx2 HL
      clear hxe
      obtain ⟨at_, d⟩ := x
      simp only at hx1 hx2
      generalize latestN S.ps S.ws k = lp at Q1 HL hll
      obtain ⟨g1, c1', e1, hg1, hg1', _⟩ := Q1.full (by rw [List.length_map]; omega)
      rw [List.length_map, hll] at e1
      subst e1
      have P2 := HP.out.after N1
      have hx1' : (at_ : Int) < (S.ps.length : Int) := by omega
      have hfew := hok.few
      go_wp2_with (first
        | refine wpList_load_pl (by rfl) 113 _ (by rfl) _ 113 257 g2 _ _ k _ _ _ P2 hx (by rfl) Tryd.underlying113 rfl (by rw [waitL_length hx2]; exact i80) ?_
        | (refine wpList_alloc_new (by rfl) 113 (by rfl) _ _ _ info80 ?_; intro W1 R1 M1)
        | (refine wpList_store_new (by rfl) 113 _ _ (by rfl) wr.heap.size (waitL (at_, d)).toArray (by rfl) (by rfl) 113 _ R1 (by rw [List.size_toArray, waitL_length hx2]; exact i80) (by rw [List.size_toArray, List.size_toArray, waitL_length (x := (at_, d)) hx2, waitL_length (x := (0, zeros)) zeros_length]) (waitL_all _) ?_; intro W2 R2 B2; have hc0 : W2.cell? ⟨wr.heap.size, 0, none⟩ = some (.int .i64 (at_ : Int)) := waitL_at R2; have hrg := waitL_range R2 hx2; have M2 : New wr W2 := B2.new M1 (Nat.le_refl _); have Q2 := Q1.after M2)
        | refine wpList_load_mid (by rfl) 85 _ (by rfl) wr.heap.size 1 (by rfl) (cellsL d) _ hrg Tryd.underlying85 rfl (by rw [cellsL_length, hx2]; exact i77) ?_
        | (refine wpList_store_pl (by rfl) 85 _ _ (by rfl) _ 85 256 g1 _ _ at_ _ (cellsL d) Q2 (by rw [List.length_map]; omega) (by rfl) (by rfl) (by rw [cellsL_length, hx2]) (by rw [cellsL_size, hx2]; exact i77) (cellsL_one d) ?_; intro W3 Q3 B3))
      refine ⟨⟨k + 1, by omega, by go_num, ?_, B3.new (N1.trans M2) hg1⟩, by simp [intOf]; omega⟩
      rw [HL.out, List.map_set]
      exact Q3
    · obtain rfl : k = S.ws.length := by omega
      go_wp2_with fail
      go_ret
      exact ⟨v, rfl, Q1, N1⟩

end Go.Proofs.YtkcoclpbkealgaaDoor
