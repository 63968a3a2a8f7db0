/-
  Pairs, nodes and texts held against each other: values, then whole slices. The loops that hold two slices against each other: slices.Equal, Same, and the statements' and the document's own. How long what is gathered may be, and what comes of a step. Plain mathematics. gather: nodes gone through once, as the mathematics has it. read, Pairs, Paths, Good: of nodes the pairs whose nodes they are. Pairs: the pairs whose nodes nodes are, their values cloned.
-/
import Derived.Test.YtjpjcojabjkaaaaDoorGaj
import Derived.Laws.StructEq
namespace Go.Proofs.YtjpjcojabjkaaaaDoor
open Go.RowKit
set_option maxRecDepth 20000

def intC (l : List Int) : List Value := l.map (Value.int .i64)
theorem part3 (l : List Int) (i : Nat) (c : Int) (h : l[i]? = some c) (w : World) : (part 3 (intC l).toArray i).run Tryd.prog w = .ok (.int .i64 c) w := by
  have h1 : (intC l)[i]? = some (.int .i64 c) := by unfold intC; rw [List.getElem?_map, h]; rfl
  simp [part, isAgg, run_underlying Tryd.underlying3, h1]
theorem info3 : (Tryd.prog.info? 3).map (fun i => (i.zero, i.size, i.bytes)) = some (some (.int .i64 0), 1, 8) := by kernel_rfl
theorem eq_loop3 (d : Nat) (p q : List Int) (hl : p.length = q.length) (w : World) (K : Option Bool × Unit → Sem Bool) (k0 : K (none, ()) = pure true) (k1 : K (some false, ()) = pure false) : ∀ (m s : Nat), s + m = p.length →
    (Sem.run Tryd.prog
      (forIn (List.range' s m) ((none, ()) : Option Bool × Unit) fun i (_ : Option Bool × Unit) => do
        let x ← part 3 (intC p).toArray (i * 1)
        let y ← part 3 (intC q).toArray (i * 1)
        let z ← Op.equalIn (d + 1) 3 x y
        if (!z) = true then pure (ForInStep.done (some false, ())) else pure (ForInStep.yield (none, ())))
      w).andThen (fun a w' => Sem.run Tryd.prog (K a) w') = .ok (p.drop s == q.drop s) w
  | 0, s, h => by
    rw [List.drop_eq_nil_of_le (by omega), List.drop_eq_nil_of_le (by omega)]
    simp [k0]
  | m + 1, s, h => by
    have hs : s < p.length := by omega
    have hs' : s < q.length := by omega
    have ih := eq_loop3 d p q hl w K k0 k1 m (s + 1) (by omega)
    rw [List.range'_succ, List.forIn_cons, Sem.run_bind]
    simp only [Sem.run_bind, Nat.mul_one, part3 p s p[s] (List.getElem?_eq_getElem hs), part3 q s q[s] (List.getElem?_eq_getElem hs'), Result.andThen_ok, run_equalIn_int (P := Tryd.prog) w d 3 .i64 .i64 _ _ Tryd.underlying3]
    rw [List.drop_eq_getElem_cons hs, List.drop_eq_getElem_cons hs', List.cons_beq_cons]
    by_cases e : p[s] = q[s]
    · rw [e]
      simpa using ih
    · have h1 : (p[s] == q[s]) = false := by rw [beq_eq_false_iff_ne]; exact e
      simp [h1, k1]
theorem eq_ints (d n : Nat) (t : TypeId) (ht : Tryd.prog.underlying t = some (.array n 3)) (p q : List Int) (hp : p.length = n) (hq : q.length = n) (w : World) :
    (Op.equalIn (d + 1 + 1) t (.agg (intC p).toArray) (.agg (intC q).toArray)).run Tryd.prog w = .ok (p == q) w := by
  obtain ⟨i0, hi0, hz0, hz1, hz2⟩ := info_parts info3
  rw [Op.equalIn]
  simp only [Sem.run_bind, run_underlying ht, Result.andThen_ok]
  simp only [sizeOf, typeInfo, Std.Legacy.Range.forIn_eq_forIn_range', Std.Legacy.Range.size, Sem.run_bind, run_program, hi0, Result.andThen_ok, Sem.run_pure, hz1, Nat.sub_zero, Nat.add_sub_cancel, Nat.div_one]
  exact eq_loop3 d p q (by omega) w _ rfl rfl n 0 (by omega)

theorem text_beq (a b : Bt) : ((bs a).toList == (bs b).toList) = (a == b) := by rw [toList_L, toList_L, L_bs, L_bs]
def eqPr (p q : Pr) : Bool := p.1 == q.1 && p.2 == q.2
theorem eqPr_iff (p q : Pr) : eqPr p q = true ↔ p = q := by
  obtain ⟨a, b⟩ := p
  obtain ⟨c, d⟩ := q
  simp [eqPr]
theorem eq_pairs (p q : Pr) (w : World) : (Op.equalIn 10000 25 (.agg (prC p).toArray) (.agg (prC q).toArray)).run Tryd.prog w = .ok (eqPr p q) w := by
  have e : Tryd.prog.fieldsOf 25 = #[⟨ "Key", 9, 0, false, "", "", 0⟩, ⟨ "Value", 9, 1, false, "", "", 16⟩] := by
    unfold Program.fieldsOf; rw [Tryd.underlying25]
  have p0 : ∀ (p : Pr) (w : World), (part 9 (prC p).toArray 0).run Tryd.prog w = .ok (.string (bs p.1)) w := fun p w => by simp [part, isAgg, run_underlying Tryd.underlying9, prC]
  have p1 : ∀ (p : Pr) (w : World), (part 9 (prC p).toArray 1).run Tryd.prog w = .ok (.string (bs p.2)) w := fun p w => by simp [part, isAgg, run_underlying Tryd.underlying9, prC]
  rw [show (10000 : Nat) = 9999 + 1 from rfl, run_equalIn_struct w 9999 25 _ _ (by rw [e]; exact Tryd.underlying25) (by kernel_rfl), e]
  have q9 : ∀ a b w, (Op.equalIn 9999 9 (.string a) (.string b)).run Tryd.prog w = .ok (a.toList == b.toList) w := fun a b w => run_equalIn_string (P := Tryd.prog) w 9998 9 a b Tryd.underlying9
  simp only [Op.eqFields, ne_eq, String.reduceEq, not_false_eq_true, if_true, Sem.run_bind, p0, p1, Result.andThen_ok, q9, text_beq, Sem.run_ite, Sem.run_pure]
  unfold eqPr
  cases p.1 == q.1
  · rfl
  cases p.2 == q.2 <;> rfl
def eqNd (m n : Nd) : Bool := m.kind == n.kind && (m.path == n.path && (m.has == n.has && (m.val == n.val && m.kids == n.kids)))
theorem eqNd_iff (m n : Nd) : eqNd m n = true ↔ m = n := by
  obtain ⟨a, b, c, d, e⟩ := m
  obtain ⟨a', b', c', d', e'⟩ := n
  simp only [eqNd, Bool.and_eq_true, beq_iff_eq, Nd.mk.injEq]
theorem eq_nodes (m n : Nd) (hm : m.kids.length = 16) (hn : n.kids.length = 16) (w : World) : (Op.equalIn 10000 55 (.agg (ndA m)) (.agg (ndA n))).run Tryd.prog w = .ok (eqNd m n) w := by
  have e : Tryd.prog.fieldsOf 55 = #[⟨ "Kind", 3, 0, false, "", "", 0⟩, ⟨ "Path", 9, 1, false, "", "", 8⟩, ⟨ "Has", 4, 2, false, "", "", 24⟩, ⟨ "Value", 9, 3, false, "", "", 32⟩, ⟨ "Kids", 53, 4, false, "", "", 48⟩] := by
    unfold Program.fieldsOf; rw [Tryd.underlying55]
  obtain ⟨i0, hi0⟩ : ∃ i, Tryd.prog.info? 53 = some i ∧ i.size = 16 := by
    have h0 : (Tryd.prog.info? 53).map (·.size) = some 16 := by kernel_rfl
    cases hi : Tryd.prog.info? 53 with
    | none => rw [hi] at h0; cases h0
    | some i => rw [hi] at h0; exact ⟨i, rfl, by simpa using h0⟩
  have hx : ∀ f : Nd, f.kids.length = 16 → (ndA f).extract 4 (4 + 16) = (intC f.kids).toArray := fun f hf => by
    have hc : (intC f.kids).length = 16 := by unfold intC; rw [List.length_map, hf]
    unfold ndA
    rw [List.extract_toArray, List.extract_eq_take_drop]
    show ((intC f.kids).take 16).toArray = _
    rw [List.take_of_length_le (by omega)]
  have p0 : ∀ (f : Nd) (w : World), (part 3 (ndA f) 0).run Tryd.prog w = .ok (.int .i64 f.kind) w := fun f w => by simp [part, isAgg, run_underlying Tryd.underlying3, ndA, ndC]
  have p1 : ∀ (f : Nd) (w : World), (part 9 (ndA f) 1).run Tryd.prog w = .ok (.string (bs f.path)) w := fun f w => by simp [part, isAgg, run_underlying Tryd.underlying9, ndA, ndC]
  have p2 : ∀ (f : Nd) (w : World), (part 4 (ndA f) 2).run Tryd.prog w = .ok (.bool f.has) w := fun f w => by simp [part, isAgg, run_underlying Tryd.underlying4, ndA, ndC]
  have p3 : ∀ (f : Nd) (w : World), (part 9 (ndA f) 3).run Tryd.prog w = .ok (.string (bs f.val)) w := fun f w => by simp [part, isAgg, run_underlying Tryd.underlying9, ndA, ndC]
  have p4 : ∀ f : Nd, f.kids.length = 16 → ∀ w, (part 53 (ndA f) 4).run Tryd.prog w = .ok (.agg (intC f.kids).toArray) w := fun f hf w => by
    have h1 := hx f hf
    simp only [part, isAgg, Sem.run_bind, run_underlying Tryd.underlying53, Result.andThen_ok, sizeOf, typeInfo, run_program, hi0.1, Sem.run_pure, if_true, hi0.2]
    rw [h1]
  rw [show (10000 : Nat) = 9999 + 1 from rfl, run_equalIn_struct w 9999 55 _ _ (by rw [e]; exact Tryd.underlying55) (by kernel_rfl), e]
  have q3 : ∀ a b w, (Op.equalIn 9999 3 (.int .i64 a) (.int .i64 b)).run Tryd.prog w = .ok (a == b) w := fun a b w => run_equalIn_int (P := Tryd.prog) w 9998 3 .i64 .i64 a b Tryd.underlying3
  have q4 : ∀ a b w, (Op.equalIn 9999 4 (.bool a) (.bool b)).run Tryd.prog w = .ok (a == b) w := fun a b w => run_equalIn_bool (P := Tryd.prog) w 9998 4 a b Tryd.underlying4
  have q9 : ∀ a b w, (Op.equalIn 9999 9 (.string a) (.string b)).run Tryd.prog w = .ok (a.toList == b.toList) w := fun a b w => run_equalIn_string (P := Tryd.prog) w 9998 9 a b Tryd.underlying9
  have q47 : ∀ w, (Op.equalIn 9999 53 (.agg (intC m.kids).toArray) (.agg (intC n.kids).toArray)).run Tryd.prog w = .ok (m.kids == n.kids) w := fun w => eq_ints 9997 16 53 Tryd.underlying53 m.kids n.kids hm hn w
  simp only [Op.eqFields, ne_eq, String.reduceEq, not_false_eq_true, if_true, Sem.run_bind, p0, p1, p2, p3, p4 m hm, p4 n hn, Result.andThen_ok, q3, q4, q9, q47, text_beq, Sem.run_ite, Sem.run_pure]
  unfold eqNd
  cases m.kind == n.kind
  · rfl
  cases m.path == n.path
  · rfl
  cases m.has == n.has
  · rfl
  cases m.val == n.val
  · rfl
  cases m.kids == n.kids <;> rfl

end Go.Proofs.YtjpjcojabjkaaaaDoor
namespace Go.Proofs.YtjpjcojabjkaaaaDoor
open Go.RowKit
set_option maxRecDepth 20000

theorem take_eq_step {α : Type} {l m : List α} {k : Nat} {d x y : α} (hk : k < l.length) (hk' : k < m.length) (hx : l.getD k d = x) (hy : m.getD k d = y) (h : l.take k = m.take k) (e : x = y) : l.take (k + 1) = m.take (k + 1) := by
  rw [take_more hk hx, take_more hk' hy, h, e]
theorem ne_at {α : Type} {l m : List α} {k : Nat} {d x y : α} (hx : l.getD k d = x) (hy : m.getD k d = y) (e : x ≠ y) : l ≠ m := fun h => e (by rw [← hx, ← hy, h])

set_option maxHeartbeats 1000000 in
theorem equal_any {w : World} {v u : Value} {l m : List Nd} (P : Ls w 20 v (l.map ndC)) (P' : Ls w 20 u (m.map ndC)) (h16 : ∀ x ∈ l, x.kids.length = 16) (h16' : ∀ x ∈ m, x.kids.length = 16) (hl : l.length ≤ 2000000) (hm : m.length ≤ 2000000) :
    Calls Tryd.prog 58 #[v, u] w fun e w' => e = .returned (.bool (decide (l = m))) ∧ New w w' := by
  obtain ⟨a, c, rfl, hc, HS⟩ := P.open noNd
  obtain ⟨b, c', rfl, hc', HS'⟩ := P'.open noNd
  have _ := hm
  have HM : Hid (∀ i, i < l.length → (l.getD i noNd).kids.length = 16) := fun i h => h16 _ (getD_mem h)
  have HM' : Hid (∀ i, i < m.length → (m.getD i noNd).kids.length = 16) := fun i h => h16' _ (getD_mem h)
  clear h16 h16'
  clear P P'
  by_cases hlen : l.length = m.length
  · have HL : Hid (l.length = m.length) := hlen
    rw [← hlen] at hc' ⊢
    clear hlen
    go_enter Tryd.func58, Tryd.ntmps58
    go_wp2_with fail
    go_loopw [13] (fun i wr => ∃ k : Nat, k ≤ l.length ∧ i = .int .i64 (k : Int) ∧ Hid (l.take k = m.take k) ∧ New w wr) (fun i _ => l.length - (intOf i).toNat)
    case atStart => exact ⟨0, by omega, rfl, rfl, New.refl w⟩
    case round =>
      obtain ⟨k, hk, rfl, htk, N⟩ := hrel
      by_cases hlt : k < l.length
      · obtain ⟨g, o, rfl, hg, hr⟩ := HS.out (by omega)
        obtain ⟨g', o', rfl, hg', hr'⟩ := HS'.out (by have := HL.out; omega)
        have hlt' : k < m.length := by have := HL.out; omega
        obtain ⟨x, hx⟩ : ∃ x, l.getD k noNd = x := ⟨_, rfl⟩
        obtain ⟨y, hy⟩ : ∃ y, m.getD k noNd = y := ⟨_, rfl⟩
        have q1 := fun p : NewW wr => hr p.v (N.trans p.h) k hlt
        have q2 := fun p : NewW wr => hr' p.v (N.trans p.h) k hlt'
        rw [hx] at q1
        rw [hy] at q2
        have hx16 := HM.out k hlt
        have hy16 := HM'.out k hlt'
        rw [hx] at hx16
        rw [hy] at hy16
        have heq := fun w => eq_nodes x y hx16 hy16 w
        unfold ndA at heq
        have hne := NewW.ne wr
        have HX : Hid (l.getD k noNd = x) := hx
        have HY : Hid (m.getD k noNd = y) := hy
        have HLT : Hid (k < m.length) := hlt'
        clear hx hy hr hr' hlt'
        by_cases he : x = y
        · have hb : eqNd x y = true := by rw [he]; exact (eqNd_iff _ _).2 rfl
          have HE : Hid (x = y) := he
          rw [hb] at heq
          clear he
          go_wp2_with fail
          refine region_new wr (New.refl wr) (by kernel_rfl) (by kernel_rfl) ?_
          iterate 3 (go_big_quiet_step (fail))
          refine wpQuiet_load_mid (by rfl) 55 _ (by rfl) g (o + k * 20) (by rfl) (ndC x) q1 _ Tryd.underlying55 rfl (by rw [ndC_len (by assumption)]; exact i49) ?_
          simp only [Act.put, List.setIfInBounds_toArray, List.set_cons_zero, List.set_cons_succ]
          iterate 3 (go_big_quiet_step (fail))
          refine wpQuiet_load_mid (by rfl) 55 _ (by rfl) g' (o' + k * 20) (by rfl) (ndC y) q2 _ Tryd.underlying55 rfl (by rw [ndC_len (by assumption)]; exact i49) ?_
          simp only [Act.put, List.setIfInBounds_toArray, List.set_cons_zero, List.set_cons_succ]
          repeat (go_big_quiet_step (fail))
          refine wpQuiet_nil ?_
          rintro W3 ⟨⟨_, k3⟩, rfl⟩
          go_wp2_with fail
          refine ⟨⟨k + 1, by omega, by go_num, take_eq_step hlt HLT.out HX.out HY.out htk.out HE.out, N.trans k3⟩, by simp [intOf]; omega⟩
        · have hb : eqNd x y = false := by
            rw [Bool.eq_false_iff]; intro h; exact he ((eqNd_iff _ _).1 h)
          have HE : Hid (decide (l = m) = false) := decide_eq_false (ne_at HX.out HY.out he)
          rw [hb] at heq
          clear he
          go_wp2_with fail
          refine region_new wr (New.refl wr) (by kernel_rfl) (by kernel_rfl) ?_
          iterate 3 (go_big_quiet_step (fail))
          refine wpQuiet_load_mid (by rfl) 55 _ (by rfl) g (o + k * 20) (by rfl) (ndC x) q1 _ Tryd.underlying55 rfl (by rw [ndC_len (by assumption)]; exact i49) ?_
          simp only [Act.put, List.setIfInBounds_toArray, List.set_cons_zero, List.set_cons_succ]
          iterate 3 (go_big_quiet_step (fail))
          refine wpQuiet_load_mid (by rfl) 55 _ (by rfl) g' (o' + k * 20) (by rfl) (ndC y) q2 _ Tryd.underlying55 rfl (by rw [ndC_len (by assumption)]; exact i49) ?_
          simp only [Act.put, List.setIfInBounds_toArray, List.set_cons_zero, List.set_cons_succ]
          repeat (go_big_quiet_step (fail))
          refine wpQuiet_nil ?_
          rintro W3 ⟨⟨_, k3⟩, rfl⟩
          go_wp2_with fail
          go_ret
          exact ⟨ret_bool HE.out.symm, N.trans k3⟩
      · have HE : Hid (decide (l = m) = true) := decide_eq_true (by
          have := htk.out
          have h1 := HL.out
          rw [List.take_of_length_le (by omega), List.take_of_length_le (by omega)] at this
          exact this)
        go_wp2_with fail
        go_ret
        exact ⟨ret_bool HE.out.symm, N⟩
  · have HE : Hid (decide (l = m) = false) := decide_eq_false (fun h => hlen (by rw [h]))
    have hd : ((l.length : Int) != (m.length : Int)) = true := by rw [bne_iff_ne]; omega
    go_enter Tryd.func58, Tryd.ntmps58
    go_wp2_with fail
    go_ret
    exact ⟨ret_bool HE.out.symm, New.refl w⟩

set_option maxHeartbeats 1000000 in
theorem keepTrie_any {w : World} {v u : Value} {l m : List Nd} (P : Ls w 20 v (l.map ndC)) (P' : Ls w 20 u (m.map ndC)) (h16 : ∀ x ∈ l, x.kids.length = 16) (h16' : ∀ x ∈ m, x.kids.length = 16) (hl : l.length ≤ 2000000) (hm : m.length ≤ 2000000) :
    Calls Tryd.prog 15 #[v, u] w fun e w' => e = .returned (.bool (decide (l = m))) ∧ New w w' := by
  obtain ⟨a, c, rfl, hc, HS⟩ := P.open noNd
  obtain ⟨b, c', rfl, hc', HS'⟩ := P'.open noNd
  have _ := hm
  have HM : Hid (∀ i, i < l.length → (l.getD i noNd).kids.length = 16) := fun i h => h16 _ (getD_mem h)
  have HM' : Hid (∀ i, i < m.length → (m.getD i noNd).kids.length = 16) := fun i h => h16' _ (getD_mem h)
  clear h16 h16'
  clear P P'
  by_cases hlen : l.length = m.length
  · have HL : Hid (l.length = m.length) := hlen
    rw [← hlen] at hc' ⊢
    clear hlen
    go_enter Tryd.func15, Tryd.ntmps15
    go_wp2_with fail
    go_loopw [5] (fun i wr => ∃ k : Nat, k ≤ l.length ∧ i = .int .i64 (k : Int) ∧ Hid (l.take k = m.take k) ∧ New w wr) (fun i _ => l.length - (intOf i).toNat)
    case atStart => exact ⟨0, by omega, rfl, rfl, New.refl w⟩
    case round =>
      obtain ⟨k, hk, rfl, htk, N⟩ := hrel
      by_cases hlt : k < l.length
      · obtain ⟨g, o, rfl, hg, hr⟩ := HS.out (by omega)
        obtain ⟨g', o', rfl, hg', hr'⟩ := HS'.out (by have := HL.out; omega)
        have hlt' : k < m.length := by have := HL.out; omega
        obtain ⟨x, hx⟩ : ∃ x, l.getD k noNd = x := ⟨_, rfl⟩
        obtain ⟨y, hy⟩ : ∃ y, m.getD k noNd = y := ⟨_, rfl⟩
        have q1 := fun p : NewW wr => hr p.v (N.trans p.h) k hlt
        have q2 := fun p : NewW wr => hr' p.v (N.trans p.h) k hlt'
        rw [hx] at q1
        rw [hy] at q2
        have hx16 := HM.out k hlt
        have hy16 := HM'.out k hlt'
        rw [hx] at hx16
        rw [hy] at hy16
        have heq := fun w => eq_nodes x y hx16 hy16 w
        unfold ndA at heq
        have hne := NewW.ne wr
        have HX : Hid (l.getD k noNd = x) := hx
        have HY : Hid (m.getD k noNd = y) := hy
        have HLT : Hid (k < m.length) := hlt'
        clear hx hy hr hr' hlt'
        by_cases he : x = y
        · have hb : eqNd x y = true := by rw [he]; exact (eqNd_iff _ _).2 rfl
          have HE : Hid (x = y) := he
          rw [hb] at heq
          clear he
          go_wp2_with fail
          refine region_new wr (New.refl wr) (by kernel_rfl) (by kernel_rfl) ?_
          iterate 3 (go_big_quiet_step (fail))
          refine wpQuiet_load_mid (by rfl) 55 _ (by rfl) g (o + k * 20) (by rfl) (ndC x) q1 _ Tryd.underlying55 rfl (by rw [ndC_len (by assumption)]; exact i49) ?_
          simp only [Act.put, List.setIfInBounds_toArray, List.set_cons_zero, List.set_cons_succ]
          iterate 3 (go_big_quiet_step (fail))
          refine wpQuiet_load_mid (by rfl) 55 _ (by rfl) g' (o' + k * 20) (by rfl) (ndC y) q2 _ Tryd.underlying55 rfl (by rw [ndC_len (by assumption)]; exact i49) ?_
          simp only [Act.put, List.setIfInBounds_toArray, List.set_cons_zero, List.set_cons_succ]
          repeat (go_big_quiet_step (fail))
          refine wpQuiet_nil ?_
          rintro W3 ⟨⟨_, k3⟩, rfl⟩
          go_wp2_with fail
          refine ⟨⟨k + 1, by omega, by go_num, take_eq_step hlt HLT.out HX.out HY.out htk.out HE.out, N.trans k3⟩, by simp [intOf]; omega⟩
        · have hb : eqNd x y = false := by
            rw [Bool.eq_false_iff]; intro h; exact he ((eqNd_iff _ _).1 h)
          have HE : Hid (decide (l = m) = false) := decide_eq_false (ne_at HX.out HY.out he)
          rw [hb] at heq
          clear he
          go_wp2_with fail
          refine region_new wr (New.refl wr) (by kernel_rfl) (by kernel_rfl) ?_
          iterate 3 (go_big_quiet_step (fail))
          refine wpQuiet_load_mid (by rfl) 55 _ (by rfl) g (o + k * 20) (by rfl) (ndC x) q1 _ Tryd.underlying55 rfl (by rw [ndC_len (by assumption)]; exact i49) ?_
          simp only [Act.put, List.setIfInBounds_toArray, List.set_cons_zero, List.set_cons_succ]
          iterate 3 (go_big_quiet_step (fail))
          refine wpQuiet_load_mid (by rfl) 55 _ (by rfl) g' (o' + k * 20) (by rfl) (ndC y) q2 _ Tryd.underlying55 rfl (by rw [ndC_len (by assumption)]; exact i49) ?_
          simp only [Act.put, List.setIfInBounds_toArray, List.set_cons_zero, List.set_cons_succ]
          repeat (go_big_quiet_step (fail))
          refine wpQuiet_nil ?_
          rintro W3 ⟨⟨_, k3⟩, rfl⟩
          go_wp2_with fail
          go_ret
          exact ⟨ret_bool HE.out.symm, N.trans k3⟩
      · have HE : Hid (decide (l = m) = true) := decide_eq_true (by
          have := htk.out
          have h1 := HL.out
          rw [List.take_of_length_le (by omega), List.take_of_length_le (by omega)] at this
          exact this)
        go_wp2_with fail
        go_ret
        exact ⟨ret_bool HE.out.symm, N⟩
  · have HE : Hid (decide (l = m) = false) := decide_eq_false (fun h => hlen (by rw [h]))
    have hd : ((l.length : Int) != (m.length : Int)) = true := by rw [bne_iff_ne]; omega
    go_enter Tryd.func15, Tryd.ntmps15
    go_wp2_with fail
    go_ret
    exact ⟨ret_bool HE.out.symm, New.refl w⟩

set_option maxHeartbeats 1000000 in
theorem refSame_any {w : World} {v u : Value} {l m : List Nd} (P : Ls w 20 v (l.map ndC)) (P' : Ls w 20 u (m.map ndC)) (h16 : ∀ x ∈ l, x.kids.length = 16) (h16' : ∀ x ∈ m, x.kids.length = 16) (hl : l.length ≤ 2000000) (hm : m.length ≤ 2000000) :
    Calls Tryd.prog 37 #[v, u] w fun e w' => e = .returned (.bool (decide (l = m))) ∧ New w w' := by
  obtain ⟨a, c, rfl, hc, HS⟩ := P.open noNd
  obtain ⟨b, c', rfl, hc', HS'⟩ := P'.open noNd
  have _ := hm
  have HM : Hid (∀ i, i < l.length → (l.getD i noNd).kids.length = 16) := fun i h => h16 _ (getD_mem h)
  have HM' : Hid (∀ i, i < m.length → (m.getD i noNd).kids.length = 16) := fun i h => h16' _ (getD_mem h)
  clear h16 h16'
  clear P P'
  by_cases hlen : l.length = m.length
  · have HL : Hid (l.length = m.length) := hlen
    rw [← hlen] at hc' ⊢
    clear hlen
    go_enter Tryd.func37, Tryd.ntmps37
    go_wp2_with fail
    go_loopw [5] (fun i wr => ∃ k : Nat, k ≤ l.length ∧ i = .int .i64 (k : Int) ∧ Hid (l.take k = m.take k) ∧ New w wr) (fun i _ => l.length - (intOf i).toNat)
    case atStart => exact ⟨0, by omega, rfl, rfl, New.refl w⟩
    case round =>
      obtain ⟨k, hk, rfl, htk, N⟩ := hrel
      by_cases hlt : k < l.length
      · obtain ⟨g, o, rfl, hg, hr⟩ := HS.out (by omega)
        obtain ⟨g', o', rfl, hg', hr'⟩ := HS'.out (by have := HL.out; omega)
        have hlt' : k < m.length := by have := HL.out; omega
        obtain ⟨x, hx⟩ : ∃ x, l.getD k noNd = x := ⟨_, rfl⟩
        obtain ⟨y, hy⟩ : ∃ y, m.getD k noNd = y := ⟨_, rfl⟩
        have q1 := fun p : NewW wr => hr p.v (N.trans p.h) k hlt
        have q2 := fun p : NewW wr => hr' p.v (N.trans p.h) k hlt'
        rw [hx] at q1
        rw [hy] at q2
        have hx16 := HM.out k hlt
        have hy16 := HM'.out k hlt'
        rw [hx] at hx16
        rw [hy] at hy16
        have heq := fun w => eq_nodes x y hx16 hy16 w
        unfold ndA at heq
        have hne := NewW.ne wr
        have HX : Hid (l.getD k noNd = x) := hx
        have HY : Hid (m.getD k noNd = y) := hy
        have HLT : Hid (k < m.length) := hlt'
        clear hx hy hr hr' hlt'
        by_cases he : x = y
        · have hb : eqNd x y = true := by rw [he]; exact (eqNd_iff _ _).2 rfl
          have HE : Hid (x = y) := he
          rw [hb] at heq
          clear he
          go_wp2_with fail
          refine region_new wr (New.refl wr) (by kernel_rfl) (by kernel_rfl) ?_
          iterate 3 (go_big_quiet_step (fail))
          refine wpQuiet_load_mid (by rfl) 55 _ (by rfl) g (o + k * 20) (by rfl) (ndC x) q1 _ Tryd.underlying55 rfl (by rw [ndC_len (by assumption)]; exact i49) ?_
          simp only [Act.put, List.setIfInBounds_toArray, List.set_cons_zero, List.set_cons_succ]
          iterate 3 (go_big_quiet_step (fail))
          refine wpQuiet_load_mid (by rfl) 55 _ (by rfl) g' (o' + k * 20) (by rfl) (ndC y) q2 _ Tryd.underlying55 rfl (by rw [ndC_len (by assumption)]; exact i49) ?_
          simp only [Act.put, List.setIfInBounds_toArray, List.set_cons_zero, List.set_cons_succ]
          repeat (go_big_quiet_step (fail))
          refine wpQuiet_nil ?_
          rintro W3 ⟨⟨_, k3⟩, rfl⟩
          go_wp2_with fail
          refine ⟨⟨k + 1, by omega, by go_num, take_eq_step hlt HLT.out HX.out HY.out htk.out HE.out, N.trans k3⟩, by simp [intOf]; omega⟩
        · have hb : eqNd x y = false := by
            rw [Bool.eq_false_iff]; intro h; exact he ((eqNd_iff _ _).1 h)
          have HE : Hid (decide (l = m) = false) := decide_eq_false (ne_at HX.out HY.out he)
          rw [hb] at heq
          clear he
          go_wp2_with fail
          refine region_new wr (New.refl wr) (by kernel_rfl) (by kernel_rfl) ?_
          iterate 3 (go_big_quiet_step (fail))
          refine wpQuiet_load_mid (by rfl) 55 _ (by rfl) g (o + k * 20) (by rfl) (ndC x) q1 _ Tryd.underlying55 rfl (by rw [ndC_len (by assumption)]; exact i49) ?_
          simp only [Act.put, List.setIfInBounds_toArray, List.set_cons_zero, List.set_cons_succ]
          iterate 3 (go_big_quiet_step (fail))
          refine wpQuiet_load_mid (by rfl) 55 _ (by rfl) g' (o' + k * 20) (by rfl) (ndC y) q2 _ Tryd.underlying55 rfl (by rw [ndC_len (by assumption)]; exact i49) ?_
          simp only [Act.put, List.setIfInBounds_toArray, List.set_cons_zero, List.set_cons_succ]
          repeat (go_big_quiet_step (fail))
          refine wpQuiet_nil ?_
          rintro W3 ⟨⟨_, k3⟩, rfl⟩
          go_wp2_with fail
          go_ret
          exact ⟨ret_bool HE.out.symm, N.trans k3⟩
      · have HE : Hid (decide (l = m) = true) := decide_eq_true (by
          have := htk.out
          have h1 := HL.out
          rw [List.take_of_length_le (by omega), List.take_of_length_le (by omega)] at this
          exact this)
        go_wp2_with fail
        go_ret
        exact ⟨ret_bool HE.out.symm, N⟩
  · have HE : Hid (decide (l = m) = false) := decide_eq_false (fun h => hlen (by rw [h]))
    have hd : ((l.length : Int) != (m.length : Int)) = true := by rw [bne_iff_ne]; omega
    go_enter Tryd.func37, Tryd.ntmps37
    go_wp2_with fail
    go_ret
    exact ⟨ret_bool HE.out.symm, New.refl w⟩

theorem same_any {w : World} {v u : Value} {l m : List Nd} (P : Ls w 20 v (l.map ndC)) (P' : Ls w 20 u (m.map ndC)) (h16 : ∀ x ∈ l, x.kids.length = 16) (h16' : ∀ x ∈ m, x.kids.length = 16) (hl : l.length ≤ 2000000) (hm : m.length ≤ 2000000) :
    Calls Tryd.prog 49 #[v, u] w fun e w' => e = .returned (.bool (decide (l = m))) ∧ New w w' := by
  have h := equal_any P P' h16 h16' hl hm
  clear P P' h16 h16' hl hm
  go_enter Tryd.func49, Tryd.ntmps49
  go_wp2_with fail
  refine Calls.mono h ?_
  rintro _ W1 ⟨rfl, N1⟩
  go_wp2_with fail
  go_ret
  exact ⟨rfl, N1⟩

end Go.Proofs.YtjpjcojabjkaaaaDoor
namespace Go.Proofs.YtjpjcojabjkaaaaDoor
set_option maxRecDepth 20000

theorem kidP_len {kind : Int} {e : Bt} {c : Nat} (h : e.length ≤ 16) : (kidP kind e c).length ≤ 17 := by
  unfold kidP
  split
  · omega
  · rw [List.length_append]; simp; omega
theorem kidsG_succ {len i : Nat} {kind : Int} {e : Bt} {ks : List Int} {ps q : List Bt} {c : Nat} (h : kidsG len i kind e ks ps c = some q) : kidsG len i kind e ks ps (c + 1) =
    if ks.getD c 0 = 0 then some q else if ks.getD c 0 ≤ (i : Int) ∨ (len : Int) ≤ ks.getD c 0 then none else some (q.set (ks.getD c 0).toNat (kidP kind e c)) := by
  show (match kidsG len i kind e ks ps c with | none => none | some q => _) = _
  rw [h]
theorem kidsG_len {len i : Nat} {kind : Int} {e : Bt} {ks : List Int} {ps : List Bt} (he : e.length ≤ 16) (hp : ∀ x ∈ ps, x.length ≤ 17) : ∀ {c : Nat} {q : List Bt}, kidsG len i kind e ks ps c = some q → ∀ x ∈ q, x.length ≤ 17
  | 0, q, h => by rw [← Option.some.inj h]; exact hp
  | c + 1, q, h => by
    cases hq : kidsG len i kind e ks ps c with
    | none =>
      have := kidsG_none hq 1
      rw [this] at h; cases h
    | some q' =>
      rw [kidsG_succ hq] at h
      have ih := kidsG_len he hp hq
      split at h
      · rw [← Option.some.inj h]; exact ih
      · split at h
        · cases h
        · rw [← Option.some.inj h]
          intro x hx
          rcases List.mem_or_eq_of_mem_set hx with h1 | rfl
          · exact ih x h1
          · exact kidP_len he
theorem goodB_len {l : Bt} (h : goodB l = true) : l.length ≤ 16 := by
  unfold goodB at h; rw [Bool.and_eq_true, decide_eq_true_eq] at h; exact h.1
structure GatOk (t : List Nd) (i : Nat) (s : List Pr × List Bt) : Prop where
  few : s.1.length ≤ i
  len : s.2.length = t.length
  pair : ∀ p ∈ s.1, p.1.length ≤ 8 ∧ p.2.length ≤ 4000
  path : ∀ x ∈ s.2, x.length ≤ 17
theorem gatN_succ {t : List Nd} {i : Nat} {s : List Pr × List Bt} (h : gatN t i = some s) : gatN t (i + 1) = gatS t i s := by
  show (match gatN t i with | none => none | some s => gatS t i s) = _
  rw [h]
theorem gat_ok {t : List Nd} (hv : ∀ m ∈ t, m.val.length ≤ 4000) : ∀ {i : Nat} {s : List Pr × List Bt}, i ≤ t.length → gatN t i = some s → GatOk t i s
  | 0, s, _, h => by
    rw [← Option.some.inj h]
    exact ⟨Nat.le_refl _, by simp, fun p hp => by simp at hp, fun x hx => by rw [(List.mem_replicate.1 hx).2]; simp⟩
  | i + 1, s, hi, h => by
    cases hq : gatN t i with
    | none =>
      have := gatN_none hq 1
      rw [this] at h; cases h
    | some s' =>
      rw [gatN_succ hq] at h
      have ih := gat_ok hv (by omega) hq
      unfold gatS at h
      split at h
      · cases h
      · next hg =>
        have hg16 : (s'.2.getD i [] ++ (t.getD i noNd).path).length ≤ 16 := goodB_len (eq_true_of_ne_false hg)
        split at h
        · cases h
        · split at h
          · cases h
          · next ps hps =>
            rw [← Option.some.inj h]
            refine ⟨?_, by rw [kidsG_length hps]; exact ih.len, ?_, kidsG_len hg16 ih.path hps⟩
            · have h1 := ih.few
              show (if (t.getD i noNd).has = true then s'.1 ++ [(joinL (s'.2.getD i [] ++ (t.getD i noNd).path), (t.getD i noNd).val)] else s'.1).length ≤ i + 1
              split
              · rw [List.length_append, List.length_singleton]; omega
              · omega
            · intro p hp
              simp only at hp
              split at hp
              · rcases List.mem_append.1 hp with h1 | h1
                · exact ih.pair p h1
                · obtain rfl := List.mem_singleton.1 h1
                  refine ⟨?_, hv _ (getD_mem (by omega))⟩
                  show (joinL (s'.2.getD i [] ++ (t.getD i noNd).path)).length ≤ 8
                  rw [joinL_length]; omega
              · exact ih.pair p hp
/-- The ways of a step. -/
theorem gatS_bad {t : List Nd} {i : Nat} {s : List Pr × List Bt} {m : Nd} {e : Bt} (hm : t.getD i noNd = m) (he : s.2.getD i [] ++ m.path = e) (h : goodB e = false) : gatS t i s = none := by
  unfold gatS; rw [hm, he, if_pos h]
theorem gatS_key {t : List Nd} {i : Nat} {s : List Pr × List Bt} {m : Nd} {e : Bt} (hm : t.getD i noNd = m) (he : s.2.getD i [] ++ m.path = e) (h : goodB e = true) (hk : (m.has && !keyB e) = true) : gatS t i s = none := by
  unfold gatS; rw [hm, he, if_neg (by rw [h]; simp), if_pos hk]
theorem gatS_go {t : List Nd} {i : Nat} {s : List Pr × List Bt} {m : Nd} {e : Bt} (hm : t.getD i noNd = m) (he : s.2.getD i [] ++ m.path = e) (h : goodB e = true) (hk : (m.has && !keyB e) = false) : gatS t i s =
    (match kidsG t.length i m.kind e m.kids s.2 16 with | none => none | some ps => some (if m.has then s.1 ++ [(joinL e, m.val)] else s.1, ps)) := by
  unfold gatS; rw [hm, he, if_neg (by rw [h]; simp), if_neg (by rw [hk]; simp)]
  cases kidsG t.length i m.kind e m.kids s.2 16 <;> rfl

end Go.Proofs.YtjpjcojabjkaaaaDoor
namespace Go.Proofs.YtjpjcojabjkaaaaDoor
open Go.RowKit
set_option maxRecDepth 20000

/-- What gather says of nodes. -/
def GatSays (t : List Nd) (w : World) (e : Ending) (w' : World) : Prop := New w w' ∧
  ((gatN t t.length = none ∧ e = .returned (.tuple #[.slice none 0 0, .slice none 0 0, .bool false])) ∨
   (∃ s v1 v2, gatN t t.length = some s ∧ e = .returned (.tuple #[v1, v2, .bool true]) ∧ Pl w' (Fresh w) 25 2 v1 (s.1.map prC) ∧ Pl w' (Fresh w) 9 1 v2 (s.2.map txC)))
theorem GatSays.no {t : List Nd} {w w' : World} {i : Nat} (h : gatN t i = none) (hi : i ≤ t.length) (n : New w w') : GatSays t w (.returned (.tuple #[.slice none 0 0, .slice none 0 0, .bool false])) w' :=
  ⟨n, .inl ⟨by have := gatN_none h (t.length - i); rwa [show i + (t.length - i) = t.length by omega] at this, rfl⟩⟩
theorem run_build52b (p : Bt) (v : Bt) : Tryd.prog.built 25 [(0, .string (bs p)), (1, .string (bs v))] = some (prC (p, v)).toArray := by kernel_rfl
theorem kids_range {w : World} {B : Nat} {m : Nd} (R : Row w B (ndA m) 55) (h : m.kids.length = 16) : w.rangeAt B 4 (intC m.kids) := by
  have := R.range 4 16
  unfold ndA ndC at this
  simp only [List.drop_succ_cons, List.drop_zero] at this
  unfold intC
  rwa [List.take_of_length_le (by rw [List.length_map, h]; exact Nat.le_refl _)] at this
theorem tx_at {w : World} {F : Nat → Prop} {g n c : Nat} {ps : List Bt} (h : Pl w F 9 1 (.slice (some ⟨g, 0, none⟩) n c) (ps.map txC)) {k : Nat} (hk : k < ps.length) : w.cell? ⟨g, k, none⟩ = some (.string (bs (ps.getD k []))) := by
  have := (h.cellAt (i := k) (j := 0) (e := txC (ps.getD k [])) (u := .string (bs (ps.getD k []))) (by rw [List.getElem?_map, List.getD_eq_getElem?_getD, List.getElem?_eq_getElem hk]; rfl) rfl).1
  rwa [Nat.mul_one, Nat.add_zero] at this
theorem tx_set {w : World} {F : Nat → Prop} {g n c : Nat} {ps : List Bt} (h : Pl w F 9 1 (.slice (some ⟨g, 0, none⟩) n c) (ps.map txC)) {k : Nat} (hk : k < ps.length) (x : Bt) : Pl (w.setCell ⟨g, k, none⟩ (.string (bs x))) F 9 1 (.slice (some ⟨g, 0, none⟩) n c) ((ps.set k x).map txC) := by
  have := h.setCell (i := k) (j := 0) (e := txC (ps.getD k [])) (by rw [List.getElem?_map, List.getD_eq_getElem?_getD, List.getElem?_eq_getElem hk]; rfl) (by omega) (.string (bs x))
  rw [Nat.mul_one, Nat.add_zero] at this
  rw [List.map_set]
  exact this
theorem tx_froz {w : World} {F : Nat → Prop} {g n c : Nat} {ps : List Bt} (h : Pl w F 9 1 (.slice (some ⟨g, 0, none⟩) n c) (ps.map txC)) (k : Nat) : w.frozen? ⟨g, k, none⟩ = false := by
  obtain ⟨cur, R, _⟩ := h.row
  exact R.frozen _

theorem i47 : (Tryd.prog.info? 53).map (·.size) = some 16 := by kernel_rfl
set_option maxHeartbeats 4000000 in
theorem gather_any {w : World} {v : Value} {t : List Nd} (P : Ls w 20 v (t.map ndC)) (h16 : ∀ x ∈ t, x.kids.length = 16) (hl : t.length ≤ 10000) (hsz : ∀ x ∈ t, x.path.length ≤ 4000 ∧ x.val.length ≤ 4000) (hT : Tab w) :
    Calls Tryd.prog 47 #[v] w (GatSays t w) := by
  obtain ⟨a, c, rfl, hc, HS⟩ := P.open noNd
  have HM : Hid (∀ i, i < t.length → (t.getD i noNd).kids.length = 16 ∧ (t.getD i noNd).path.length ≤ 4000 ∧ (t.getD i noNd).val.length ≤ 4000) := fun i h => ⟨h16 _ (getD_mem h), hsz _ (getD_mem h)⟩
  have HOK : Hid (∀ {i : Nat} {s : List Pr × List Bt}, i ≤ t.length → gatN t i = some s → GatOk t i s) := fun h k => gat_ok (fun m hm => (hsz m hm).2) h k
  obtain ⟨W0, hmk, Q0, N0⟩ := run_make_pl w 41 9 (.string (bs [])) t.length 1 16 Tryd.underlying41 info9 rfl (by decide) (by omega) (by decide)
  have HQ0 : Hid (Pl W0 (fun g => g = w.heap.size) 9 1 (.slice (some ⟨w.heap.size, 0, none⟩) t.length t.length) ((List.replicate t.length ([] : Bt)).map txC) ∧ New w W0) := ⟨by rw [List.map_replicate]; exact Q0, N0⟩
  have hW0 : w.heap.size < W0.heap.size := by
    by_cases h0 : 0 < t.length
    · exact Q0.lt rfl
    · obtain ⟨cur, R, _⟩ := Q0.row
      exact R.lt
  clear h16 hsz P Q0 N0
  go_enter Tryd.func47, Tryd.ntmps47
  go_wp2_with fail
  clear hmk
  go_loopw [5, 19] (fun s i wr => ∃ (k : Nat) (acc : List Pr) (ps : List Bt), k ≤ t.length ∧ i = .int .i64 (k : Int) ∧ Hid (gatN t k = some (acc, ps)) ∧ Hid (Pl wr (fun g => w.heap.size < g) 25 2 s (acc.map prC)) ∧
    Hid (Pl wr (fun g => g = w.heap.size) 9 1 (.slice (some ⟨w.heap.size, 0, none⟩) t.length t.length) (ps.map txC)) ∧ New w wr ∧ w.heap.size < wr.heap.size) (fun _ i _ => t.length - (intOf i).toNat)
  case atStart => exact ⟨0, [], _, by omega, rfl, rfl, Pl.nil _ _ _ _, HQ0.out.1, HQ0.out.2, hW0⟩
  case round =>
    clear HQ0 hW0
    obtain ⟨k, acc, ps, hk, rfl, hgat, hq5, hq6, N, hWr⟩ := hrel
    by_cases hlt : k < t.length
    · obtain ⟨g, o, rfl, hg, hr⟩ := HS.out (by omega)
      have R2 := hr wr N k hlt
      obtain ⟨M1, M2, M3⟩ := HM.out k hlt
      obtain ⟨m, hm⟩ : ∃ m, t.getD k noNd = m := ⟨_, rfl⟩
      have HMD : Hid (t.getD k noNd = m) := hm
      rw [hm] at R2 M1 M2 M3
      have hok := HOK.out (Nat.le_of_lt hlt) hgat.out
      have hpl := hok.len
      have hal := hok.few
      simp only at hpl hal
      have hkp : k < ps.length := by omega
      have hpk := hok.path _ (getD_mem (d := []) hkp)
      have ck := tx_at hq6.out hkp
      obtain ⟨pk, hpkk⟩ : ∃ x, ps.getD k [] = x := ⟨_, rfl⟩
      have HPK : Hid (ps.getD k [] = pk) := hpkk
      rw [hpkk] at hpk ck
      obtain ⟨e, he⟩ : ∃ e, pk ++ m.path = e := ⟨_, rfl⟩
      have hel : e.length ≤ 4017 := by rw [← he, List.length_append]; omega
      have hE : bs pk ++ bs m.path = bs e := eq_of_L (by rw [L_append, L_bs, L_bs, L_bs]; exact he)
      have HE : Hid (pk ++ m.path = e) := he
      have hs1 : (bs pk).size ≤ 17 := by rw [bs_size]; exact hpk
      have hs2 : (bs m.path).size ≤ 4000 := by rw [bs_size]; exact M2
      have hgd := fun W => good_any (bs e) (by rw [bs_size]; omega) W
      rw [L_bs] at hgd
      obtain ⟨A, hA⟩ : ∃ A, bs pk = A := ⟨_, rfl⟩
      obtain ⟨D, hD⟩ : ∃ D, bs m.path = D := ⟨_, rfl⟩
      rw [hA] at hE hs1 ck
      rw [hD] at hE hs2
      obtain ⟨E, hEE⟩ : ∃ E, bs e = E := ⟨_, rfl⟩
      rw [hEE] at hE hgd
      have HEE : Hid (bs e = E) := hEE
      have HD : Hid (bs m.path = D) := hD
      have ndc1 : (ndC m)[1]? = some (.string D) := by rw [← hD]; rfl
      have HN1 : Hid ((ndC m)[1]? = some (.string D)) := ndc1
      have HC : Hid (wr.cell? ⟨w.heap.size, k, none⟩ = some (.string A)) := ck
      clear hm hr he hpkk hA hD hEE ndc1 hok hpk
      obtain ⟨gb, hgb⟩ : ∃ gb, goodB e = gb := ⟨_, rfl⟩
      have HGB : Hid (goodB e = gb) := hgb
      rw [hgb] at hgd
      clear hgb
      have hhas : (ndC m)[2]? = some (.bool m.has) := rfl
      have hkind : (ndC m)[0]? = some (.int .i64 m.kind) := rfl
      have hval : (ndC m)[3]? = some (.string (bs m.val)) := rfl
      obtain ⟨hh, hhe⟩ : ∃ b, m.has = b := ⟨_, rfl⟩
      obtain ⟨kd, hkd⟩ : ∃ z, m.kind = z := ⟨_, rfl⟩
      obtain ⟨V, hV⟩ : ∃ z, bs m.val = z := ⟨_, rfl⟩
      rw [hhe] at hhas
      rw [hkd] at hkind
      rw [hV] at hval
      have HHAS : Hid ((ndC m)[2]? = some (.bool hh)) := hhas
      have HKIND : Hid ((ndC m)[0]? = some (.int .i64 kd)) := hkind
      have HVAL : Hid ((ndC m)[3]? = some (.string V)) := hval
      have HHE : Hid (m.has = hh) := hhe
      have HKD : Hid (m.kind = kd) := hkd
      have HVE : Hid (bs m.val = V) := hV
      clear hhas hkind hval hhe hkd hV
      go_wp2_with (first
          | refine wpList_load_mid (by rfl) 55 _ (by rfl) g (o + k * 20) (by rfl) (ndC m) _ R2 Tryd.underlying55 rfl (by rw [ndC_len M1]; exact i49) ?_
          | (refine wpList_alloc_at (by rfl) 8 (by rfl) 55 (by rfl) _ _ _ info49 ?_; intro W1 R1 N1)
          | (refine wpList_store_new (by rfl) 55 _ _ (by rfl) wr.heap.size (ndA m) (by rfl) (by rfl) 55 _ R1 (by rw [ndA_size M1]; exact i49) (by rw [ndA_size M1]; rfl) (ndA_all _) ?_; intro W2 R3 B3; have N3 : New wr W2 := B3.new N1 (Nat.le_refl _)))
      have hBl : wr.heap.size < W2.heap.size := R3.lt
      have q1 := NewW.cell (W := W2) (g := wr.heap.size) (o := 1) (v := .string D) (R3.has 1 (by unfold ndA; simpa using HN1.out))
      have q2 := NewW.cell (W := W2) (g := w.heap.size) (o := k) (v := .string A) ((N3.cell hWr).trans HC.out)
      have hne := NewW.ne W2
      have HR3 : Hid (Row W2 wr.heap.size (ndA m) 55) := R3
      have HNw2 : New w W2 := N.trans N3
      have hP2 : Hid (Pl W2 (fun g => g = w.heap.size) 9 1 (.slice (some ⟨w.heap.size, 0, none⟩) t.length t.length) (ps.map txC)) := hq6.out.after N3
      have hQ2 : Hid (Pl W2 (fun g => w.heap.size < g ∧ g ≠ wr.heap.size) 25 2 u5 (acc.map prC)) := (hq5.out.mono (G := fun g => w.heap.size < g ∧ g ≠ wr.heap.size) (fun b hb hlt => ⟨hb, by omega⟩)).after N3
      have hwr2 : wr.heap.size ≤ W2.heap.size := N3.size
      have hWrW : w.heap.size < W2.heap.size := by omega
      clear R3 R1 R2 N1 N3 B3 hq5 hq6 hwr2
      generalize wr.heap.size = B at *
      go_simp
      refine region_new W2 (New.refl W2) (by kernel_rfl) (by kernel_rfl) ?_
      repeat (go_big_quiet_step (fail))
      refine wpQuiet_nil ?_
      rintro W3 ⟨⟨_, k3⟩, rfl⟩
      clear q1 q2 hne
      go_wp2_with fail
      refine Calls.mono (hgd _) ?_
      rintro _ W3 ⟨rfl, rfl⟩
      have HR : Hid (Row W3 B (ndA m) 55) := HR3.out.after k3
      have HNw : New w W3 := HNw2.trans k3
      have hP : Hid (Pl W3 (fun g => g = w.heap.size) 9 1 (.slice (some ⟨w.heap.size, 0, none⟩) t.length t.length) (ps.map txC)) := hP2.out.after k3
      have hQ : Hid (Pl W3 (fun g => w.heap.size < g ∧ g ≠ B) 25 2 u5 (acc.map prC)) := hQ2.out.after k3
      have hB3 : B < W3.heap.size := Nat.lt_of_lt_of_le hBl k3.size
      have hWr' : w.heap.size < W3.heap.size := Nat.lt_of_lt_of_le hWrW k3.size
      clear hP2 hQ2 HR3 HNw2 k3 hBl hgd
      cases gb
      · go_wp2_with fail
        go_ret3
        exact GatSays.no (i := k + 1) (by rw [gatN_succ hgat.out]; exact gatS_bad HMD.out (by simp only [HPK.out]; exact HE.out) HGB.out) hlt HNw
      · have he16 := goodB_len HGB.out
        have hd2 : W3.cell? ⟨B, 2, none⟩ = some (.bool hh) := HR.out.has 2 (by unfold ndA; simpa using HHAS.out)
        cases hh
        have hG5 : Hid (gatN t (k + 1) = match kidsG t.length k m.kind e m.kids ps 16 with | none => none | some ps' => some (acc, ps')) := by
          show _ = _
          rw [gatN_succ hgat.out, gatS_go HMD.out (by simp only [HPK.out]; exact HE.out) HGB.out (by rw [HHE.out]; rfl), HHE.out]; rfl
        have hQ5 : Hid (Pl W3 (fun g => w.heap.size < g) 25 2 u5 (acc.map prC)) := hQ.out.mono fun b hb _ => hb.1
        generalize acc = acc' at hQ5 hG5
        have hR5 : Hid (Row W3 B (ndA m) 55) := HR.out
        have hP5 : Hid (Pl W3 (fun g => g = w.heap.size) 9 1 (.slice (some ⟨w.heap.size, 0, none⟩) t.length t.length) (ps.map txC)) := hP.out
        have hN5 : New w W3 := HNw
        have hB5 : B < W3.heap.size := hB3
        generalize W3 = W5 at *
        clear HR HNw hP hB3 hQ
        go_wp2_with (first
          | refine wpList_load_mid (by rfl) 53 _ (by rfl) B 4 (by rfl) (intC m.kids) _ (kids_range hR5.out M1) Tryd.underlying53 rfl (by unfold intC; rw [List.length_map, M1]; exact i47) ?_)
        clear hd2
        rotate_left
        obtain ⟨kb, hkb⟩ : ∃ b, keyB e = b := ⟨_, rfl⟩
        have HKB : Hid (keyB e = kb) := hkb
        cases kb
        · have hky := fun W => key_no (bs e) (by rw [bs_size]; omega) (by rw [L_bs]; exact hkb) W
          rw [HEE.out] at hky
          clear hkb
          go_wp2_with fail
          refine Calls.mono (hky _) ?_
          rintro _ W4 ⟨rfl, k4⟩
          clear hky
          go_wp2_with fail
          go_ret3
          exact GatSays.no (i := k + 1) (by rw [gatN_succ hgat.out]; exact gatS_key HMD.out (by simp only [HPK.out]; exact HE.out) HGB.out (by rw [HHE.out, HKB.out]; rfl)) hlt (HNw.trans k4)
        have hky := key_yes (bs e) (by rw [bs_size]; omega) (by rw [L_bs]; exact hkb) W3 (hT.kept HNw)
        rw [HEE.out] at hky
        rw [← HEE.out, L_bs, HEE.out] at hky
        have hG5 : Hid (gatN t (k + 1) = match kidsG t.length k m.kind e m.kids ps 16 with | none => none | some ps' => some (acc ++ [(joinL e, m.val)], ps')) := by
          show _ = _
          rw [gatN_succ hgat.out, gatS_go HMD.out (by simp only [HPK.out]; exact HE.out) HGB.out (by rw [HHE.out, hkb]; rfl), HHE.out]; rfl
        have hd3 : ∀ W4, New W3 W4 → W4.cell? ⟨B, 3, none⟩ = some (.string V) := fun W4 k4 => (k4.cell hB3).trans (HR.out.has 3 (by unfold ndA; simpa using HVAL.out))
        have hal' : (acc.map prC).length = acc.length := List.length_map _
        clear hkb
        go_wp2_with fail
        refine Calls.mono hky ?_
        rintro _ W4 ⟨rfl, k4⟩
        have hd4 := hd3 W4 k4
        have Q4 := hQ.out.after k4
        have hB4 : B < W4.heap.size := Nat.lt_of_lt_of_le hB3 k4.size
        clear hky hd3
        go_wp2_with (first
          | refine wpList_build2 (by rfl) 25 _ _ (by rfl) _ _ (by rfl) (by rfl) _ (by rw [← HVE.out]; exact run_build52b (joinL e) m.val) ?_
          | (refine wpList_build_one (by rfl) 26 _ (by rfl) Tryd.underlying26 _ _ info52 (prC (joinL e, m.val)).toArray (by rfl) rfl (by decide) (by decide) ?_; intro W6 R6 N6; have Q6 := Q4.after N6)
          | (refine wpList_append_pl Q6 (by rfl) _ _ 26 (by rfl) Tryd.underlying26 _ _ info52 rfl (by decide) W4.heap.size (prC (joinL e, m.val)) 25 R6 rfl (prC_one _) (by omega) (by decide) (by rfl) (by rfl) ?_; intro g5 c5 W7 Q7 G7; have hR7 : Row W7 B (ndA m) 55 := ((HR.out.after k4).after N6).of (G7.block B (Nat.lt_of_lt_of_le hB4 N6.size) (fun e => (Q6.foot _ e.symm).2 rfl)))
          | refine wpList_load_mid (by rfl) 53 _ (by rfl) B 4 (by rfl) (intC m.kids) _ (kids_range hR7 M1) Tryd.underlying53 rfl (by unfold intC; rw [List.length_map, M1]; exact i47) ?_)
        have hR5 : Hid (Row W7 B (ndA m) 55) := hR7
        have hP5 : Hid (Pl W7 (fun g => g = w.heap.size) 9 1 (.slice (some ⟨w.heap.size, 0, none⟩) t.length t.length) (ps.map txC)) := ((hP.out.after k4).after N6).of (fun b hb hlt => G7.block b hlt (fun e => by have := (Q6.foot _ e.symm).1; omega)) (fun _ h _ => h)
        have hwW : w.heap.size < W6.heap.size := Nat.lt_of_lt_of_le (Nat.lt_of_lt_of_le hWr' k4.size) N6.size
        have hQ5 : Hid (Pl W7 (fun g => w.heap.size < g) 25 2 (.slice (some ⟨g5, 0, none⟩) (acc.length + 1) c5) ((acc ++ [(joinL e, m.val)]).map prC)) := by
          show Pl _ _ _ _ _ _
          rw [hal'] at Q7
          rw [List.map_append]
          exact Q7.mono fun b hb _ => hb.elim (fun h => h.1) (fun h => by omega)
        have hN5 : New w W7 := ((HNw.trans k4).trans N6).grown G7 fun b hb => Nat.le_of_lt (Q6.foot b hb).1
        have hB5 : B < W7.heap.size := hR7.lt
        generalize acc ++ [(joinL e, m.val)] = acc' at hQ5 hG5
        clear hR7 Q7 G7 Q6 R6 N6 Q4 k4 hB4 hd4 hal' HR HNw hP hB3 hQ hd2
        generalize W7 = W5 at *
        all_goals
          go_loopw [52] (fun i wz => ∃ (cc : Nat) (q : List Bt), cc ≤ 16 ∧ i = .int .i64 (cc : Int) ∧ Hid (kidsG t.length k m.kind e m.kids ps cc = some q) ∧
            Hid (Pl wz (fun g => g = w.heap.size) 9 1 (.slice (some ⟨w.heap.size, 0, none⟩) t.length t.length) (q.map txC)) ∧ Hid (Step (fun g => g = w.heap.size) (fun g => g = w.heap.size) W5 wz)) (fun i _ => 16 - (intOf i).toNat)
          case atStart => exact ⟨0, ps, by omega, rfl, rfl, hP5.out, Step.refl _ _⟩
          case round =>
            obtain ⟨cc, q, hcc, rfl, hkg, hPz, hSz⟩ := hrel
            have hN6 : New w wr := (Step.below hSz.out hN5 hN5.size (fun b hb => Nat.le_of_eq hb.symm)).1
            by_cases hc16 : cc < 16
            · obtain ⟨x, hx⟩ : ∃ x, m.kids[cc]? = some x := ⟨m.kids[cc]'(by omega), List.getElem?_eq_getElem (by omega)⟩
              have hidx := fun w => run_index47 w (intC m.kids) cc (.int .i64 x) (by unfold intC; rw [List.getElem?_map, hx]; rfl) hc16
              have hxD : m.kids.getD cc 0 = x := by rw [List.getD_eq_getElem?_getD, hx]; rfl
              have hks := kidsG_succ hkg.out
              rw [hxD] at hks
              have hql : q.length = t.length := (kidsG_length hkg.out).trans hpl
              by_cases hx0 : x = 0
              · have hxb : (x == 0) = true := by simpa using hx0
                have HKS : Hid (kidsG t.length k m.kind e m.kids ps (cc + 1) = some q) := by
                  show _ = _
                  rw [hks, if_pos hx0]
                clear hx0 hks hx hxD
                go_wp2_with fail
                exact ⟨⟨cc + 1, q, by omega, by go_num, HKS.out, hPz.out, hSz.out⟩, by simp [intOf]; omega⟩
              · have hxb : (x == 0) = false := by simpa using hx0
                by_cases hbad : x ≤ (k : Int) ∨ (t.length : Int) ≤ x
                · have HGN : Hid (gatN t (k + 1) = none) := by
                    show _ = _
                    rw [if_neg hx0, if_pos hbad] at hks
                    have h16 := kidsG_none hks (15 - cc)
                    rw [show cc + 1 + (15 - cc) = 16 by omega] at h16
                    rw [hG5.out, h16]
                  by_cases hx1 : x ≤ (k : Int)
                  · have hd1 : decide (x ≤ (k : Int)) = true := decide_eq_true hx1
                    clear hbad hx0 hks hx hxD hx1
                    go_wp2_with fail
                    go_ret3
                    exact GatSays.no HGN.out hlt hN6
                  · have hd1 : decide (x ≤ (k : Int)) = false := decide_eq_false hx1
                    have hd2 : decide ((t.length : Int) ≤ x) = true := decide_eq_true (by omega)
                    clear hbad hx0 hks hx hxD hx1
                    go_wp2_with fail
                    go_ret3
                    exact GatSays.no HGN.out hlt hN6
                · obtain ⟨j, rfl⟩ : ∃ j : Nat, x = (j : Int) := ⟨x.toNat, by omega⟩
                  have HKS : Hid (kidsG t.length k m.kind e m.kids ps (cc + 1) = some (q.set j (kidP kd e cc))) := by
                    show _ = _
                    rw [hks, if_neg hx0, if_neg hbad, Int.toNat_natCast, HKD.out]
                  have hd1 : decide ((j : Int) ≤ (k : Int)) = false := decide_eq_false (by omega)
                  have hd2 : decide ((t.length : Int) ≤ (j : Int)) = false := decide_eq_false (by omega)
                  have hd3 : decide (j ≤ k) = false := decide_eq_false (by omega)
                  have hd4 : decide (t.length ≤ j) = false := decide_eq_false (by omega)
                  have hjq : j < q.length := by omega
                  have hjt : j < t.length := by omega
                  have hRz : Row wr B (ndA m) 55 := hR5.out.of (hSz.out.block B hB5 (fun e => by omega))
                  have d0 : wr.cell? ⟨B, 0, none⟩ = some (.int .i64 kd) := hRz.has 0 (by unfold ndA; simpa using HKIND.out)
                  have hcp : ∀ W, Calls Tryd.prog 54 #[.int .i64 kd, .string E, .int .i64 (cc : Int)] W fun x w' => x = .returned (.string (bs (kidP kd e cc))) ∧ New W w' := fun W => by
                    have := childPath_any kd e (by omega) cc hc16 W
                    rw [HEE.out] at this
                    exact this
                  clear hbad hx0 hks hx hxD hRz
                  go_wp2_with (first
                    | (go_at_call 54; refine (hcp _).mono ?_; rintro _ W9 ⟨rfl, k9⟩; have P9 := hPz.out.after k9; have c9 := tx_at P9 hjq; have f9 := tx_froz P9 j))
                  refine ⟨⟨cc + 1, q.set j (kidP kd e cc), by omega, by go_num, HKS.out, tx_set P9 hjq _, hSz.out.trans ((Step.new k9).trans (Step.setCell (F := fun g => g = w.heap.size) W9 (a := ⟨w.heap.size, j, none⟩) rfl _))⟩, by simp [intOf]; omega⟩
            · obtain rfl : cc = 16 := by omega
              have hG6 := hG5.out
              rw [hkg.out] at hG6
              have HG6 : Hid (gatN t (k + 1) = some (acc', q)) := hG6
              clear hG6
              go_wp2_with fail
              exact ⟨⟨k + 1, acc', q, by omega, by go_num, HG6.out, hQ5.out.of (fun b hb hlt => hSz.out.block b hlt (fun h => by omega)) (fun _ h _ => h), hPz.out, hN6, Nat.lt_of_lt_of_le (Nat.lt_trans hWr hB5) hSz.out.size⟩, by simp [intOf]; omega⟩
    · go_wp2_with fail
      go_ret3
      refine ⟨N, .inr ⟨(acc, ps), _, _, by rw [show t.length = k by omega]; exact hgat.out, rfl, hq5.out.mono fun b hb _ => Nat.le_of_lt hb, hq6.out.mono fun b hb _ => Nat.le_of_eq hb.symm⟩⟩

end Go.Proofs.YtjpjcojabjkaaaaDoor
namespace Go.Proofs.YtjpjcojabjkaaaaDoor
open Go.RowKit
set_option maxRecDepth 20000

theorem build_k16 {l : List Pr} (h : mayB l = true) : ∀ x ∈ buildN l, x.kids.length = 16 := by
  by_cases hne : l = []
  · subst hne
    unfold buildN; rw [trie_nil]; intro x hx; simp at hx
  · intro x hx
    obtain ⟨m, hm, rfl⟩ := List.mem_map.1 hx
    exact blk_kids16 (trie_blk h hne) hm
theorem build_few {l : List Pr} (h : mayB l = true) : (buildN l).length ≤ 3 * l.length := by
  by_cases hne : l = []
  · subst hne
    unfold buildN; rw [trie_nil]; simp
  · have := (trie_blk h hne).few
    unfold buildN
    rw [List.length_map]
    rw [List.length_map] at this
    omega
/-- What read says of nodes. -/
def ReadSays (t : List Nd) (w : World) (e : Ending) (w' : World) : Prop := New w w' ∧
  ((readF t = none ∧ e = .returned (.tuple #[.slice none 0 0, .slice none 0 0, .bool false])) ∨
   (∃ s v1 v2, readF t = some s ∧ e = .returned (.tuple #[v1, v2, .bool true]) ∧ Pl w' (Fresh w) 25 2 v1 (s.1.map prC) ∧ Pl w' (Fresh w) 9 1 v2 (s.2.map txC)))
structure TOk (t : List Nd) : Prop where
  k16 : ∀ x ∈ t, x.kids.length = 16
  few : t.length ≤ 10000
  len : ∀ x ∈ t, x.path.length ≤ 4000 ∧ x.val.length ≤ 4000

set_option maxHeartbeats 2000000 in
theorem read_any {w : World} {v : Value} {t : List Nd} (P : Ls w 20 v (t.map ndC)) (K : TOk t) (hT : Tab w) :
    Calls Tryd.prog 35 #[v] w (ReadSays t w) := by
  have hg := gather_any P K.k16 K.few K.len hT
  have HP : Hid (Ls w 20 v (t.map ndC)) := P
  have hk := K.k16
  have hf := K.few
  have hvl := fun m hm => (K.len m hm).2
  clear P K
  go_enter Tryd.func35, Tryd.ntmps35
  go_wp2_with fail
  refine Calls.mono hg ?_
  rintro _ w1 ⟨N1, ⟨hn, rfl⟩ | ⟨s, v1, v2, hs, rfl, Q1, Q2⟩⟩
  · have HN : Hid (readF t = none) := by
      show _ = _
      unfold readF; rw [hn]
    clear hg hn hk hvl
    go_wp2_with fail
    go_ret3
    exact ⟨N1, .inl ⟨HN.out, rfl⟩⟩
  · have hok := gat_ok hvl (Nat.le_refl _) hs
    have hl4 : s.1.length ≤ 10000 := Nat.le_trans hok.few hf
    have hkl : ∀ p ∈ s.1, p.1.length ≤ 4000 ∧ p.2.length ≤ 4000 := fun p hp => ⟨by have := (hok.pair p hp).1; omega, (hok.pair p hp).2⟩
    have HQ1 : Hid (Pl w1 (Fresh w) 25 2 v1 (s.1.map prC)) := Q1
    have HQ2 : Hid (Pl w1 (Fresh w) 9 1 v2 (s.2.map txC)) := Q2
    have HS : Hid (gatN t t.length = some s) := hs
    obtain ⟨mb, hmb⟩ : ∃ b, mayB s.1 = b := ⟨_, rfl⟩
    cases mb
    · have hb := build_no Q1.ls hl4 hkl hmb
      have HN : Hid (readF t = none) := by
        show _ = _
        unfold readF; rw [hs]
        simp [hmb]
      clear hg hs hk hvl hmb Q1 Q2 hok hkl
      go_wp2_with fail
      refine Calls.mono hb ?_
      rintro _ w2 ⟨rfl, N2⟩
      clear hb
      go_wp2_with fail
      go_ret3
      exact ⟨N1.trans N2, .inl ⟨HN.out, rfl⟩⟩
    · have hb := build_yes Q1.ls hl4 hkl hmb
      have hb16 := build_k16 hmb
      have hbf := build_few hmb
      have HM : Hid (mayB s.1 = true) := hmb
      have hsame := fun {w2 : World} {u : Value} (N : New w w2) (P2 : Ls w2 20 u ((buildN s.1).map ndC)) => same_any (HP.out.after N) P2 hk hb16 (by omega) (by omega)
      clear hg hs hvl hmb Q1 Q2 hok hkl hb16 hk
      go_wp2_with fail
      refine Calls.mono hb ?_
      rintro _ w2 ⟨v3, rfl, Q3, N2⟩
      have hsm := hsame (N1.trans N2) Q3.ls
      clear hb hsame Q3
      obtain ⟨db, hdb⟩ : ∃ b, decide (t = buildN s.1) = b := ⟨_, rfl⟩
      rw [hdb] at hsm
      have HDB : Hid (decide (t = buildN s.1) = db) := hdb
      clear hdb
      cases db
      all_goals
        go_wp2_with (first
          | (go_at_call 49; refine Calls.mono hsm ?_; rintro _ w3 ⟨rfl, N3⟩))
        go_ret3
      · refine ⟨(N1.trans N2).trans N3, .inl ⟨?_, rfl⟩⟩
        unfold readF; rw [HS.out]
        have := of_decide_eq_false HDB.out
        simp only [HM.out, Bool.true_and]
        rw [if_neg]
        intro h
        exact this (of_decide_eq_true h).symm
      · refine ⟨(N1.trans N2).trans N3, .inr ⟨s, v1, v2, ?_, rfl, (HQ1.out.after N2).after N3, (HQ2.out.after N2).after N3⟩⟩
        unfold readF; rw [HS.out]
        have := of_decide_eq_true HDB.out
        simp only [HM.out, Bool.true_and]
        rw [if_pos]
        exact decide_eq_true this.symm

set_option maxHeartbeats 1000000 in
theorem good_trie {w : World} {v : Value} {t : List Nd} (P : Ls w 20 v (t.map ndC)) (K : TOk t) (hT : Tab w) :
    Calls Tryd.prog 21 #[v] w fun e w' => e = .returned (.bool (readF t).isSome) ∧ New w w' := by
  have hr := read_any P K hT
  clear P K
  go_enter Tryd.func21, Tryd.ntmps21
  go_wp2_with fail
  refine Calls.mono hr ?_
  rintro _ w1 ⟨N1, ⟨hn, rfl⟩ | ⟨s, v1, v2, hs, rfl, Q1, Q2⟩⟩
  · have HN : Hid (readF t = none) := hn
    clear hr hn
    go_wp2_with fail
    go_ret
    exact ⟨ret_bool (by rw [HN.out]; rfl), N1⟩
  · have HN : Hid (readF t = some s) := hs
    clear hr hs Q1 Q2
    go_wp2_with fail
    go_ret
    exact ⟨ret_bool (by rw [HN.out]; rfl), N1⟩

end Go.Proofs.YtjpjcojabjkaaaaDoor
namespace Go.Proofs.YtjpjcojabjkaaaaDoor
open Go.RowKit
set_option maxRecDepth 20000

theorem set_same {α : Type} {l : List α} {i : Nat} {x : α} (h : l[i]? = some x) : l.set i x = l := by
  obtain ⟨hi, rfl⟩ := List.getElem?_eq_some_iff.1 h
  exact List.set_getElem_self hi
theorem readF_ok {t : List Nd} {s : List Pr × List Bt} (h : readF t = some s) : mayB s.1 = true ∧ t = buildN s.1 ∧ s.2 = (trieL s.1).map (·.2) := readF_iff.1 (by rw [h])

theorem readF_gat {t : List Nd} {s : List Pr × List Bt} (h : readF t = some s) : gatN t t.length = some s := by
  unfold readF at h
  cases hg : gatN t t.length with
  | none => rw [hg] at h; cases h
  | some x =>
    rw [hg] at h
    simp only at h
    split at h
    · exact h
    · cases h
theorem readF_few {t : List Nd} (K : TOk t) {s : List Pr × List Bt} (h : readF t = some s) : s.1.length ≤ 10000 :=
  Nat.le_trans (gat_ok (fun m hm => (K.len m hm).2) (Nat.le_refl _) (readF_gat h)).few K.few

end Go.Proofs.YtjpjcojabjkaaaaDoor
