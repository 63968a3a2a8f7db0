/-
  The statements' own small helpers: are two lists of texts alike, is one long; a list copied.
-/
import Derived.Test.YtkcoclpbkealgaaDoorGah
namespace Go.Proofs.YtkcoclpbkealgaaDoor
open Go.RowKit
set_option maxRecDepth 20000

/-- A list of one-cell values copied behind nothing. -/
theorem run_copied (w : World) (T t ty : TypeId) (z : Value) (bytes : Nat) (hT : Tryd.prog.underlying T = some (.slice t)) (hi : (Tryd.prog.info? t).map (fun i => (i.zero, i.size, i.bytes)) = some (some z, 1, bytes)) (hz : z.cells.size = 1) (hb : bytes ≤ 1000)
    (a : Option Addr) (c : Nat) (vs : List Value) (hA : 0 < vs.length → ∃ x, a = some x ∧ ∀ j u, vs[j]? = some u → w.cell? (x.add j) = some u) (hone : ∀ u ∈ vs, u.oneCell' = true) (hn : vs.length ≤ 1000000) :
    ∃ v w', (Builtin.append_ #[T, T] ty #[.slice (some ⟨w.heap.size, 0, none⟩) 0 0, .slice a vs.length c]).run Tryd.prog (w.alloc (.cells #[] t)) = .ok v w' ∧ Pl w' (Fresh w) t 1 v (vs.map fun u => [u]) ∧ New w w' := by
  obtain ⟨i0, hi0, hz0, hz1, hz2⟩ := info_parts hi
  have hN : New w (w.alloc (.cells #[] t)) := (New.refl w).alloc _
  have ho : (w.alloc (.cells #[] t)).ownsRow w.heap.size t 1 (.slice (some ⟨w.heap.size, 0, none⟩) 0 0) 0 [] :=
    ⟨rfl, .inr ⟨w.heap.size, 0, #[], rfl, Nat.le_refl _, heap_alloc_new w _, Nat.le_refl _, by unfold maxLen; omega, rfl, rfl⟩⟩
  have hfl : ∀ l : List Value, (l.map fun u => [u]).flatten = l := fun l => by
    induction l with
    | nil => rfl
    | cons x l ih => rw [List.map_cons, List.flatten_cons, ih]; rfl
  by_cases h0 : vs.length = 0
  · obtain rfl : vs = [] := List.eq_nil_of_length_eq_zero h0
    refine ⟨.slice (some ⟨w.heap.size, 0, none⟩) 0 0, w.alloc (.cells #[] t), ?_, ⟨(fun e he => by cases he), ?_, (fun g hg => by cases hg; exact Nat.le_refl _)⟩, hN⟩
    · cases a with
      | none => simp [Builtin.append_, run_underlying hT, sizeOf, typeInfo, hi0, Builtin.lenOf, Builtin.firstCells, storeCells]
      | some x =>
        have hld := run_loadCells_list (P := Tryd.prog) (w.alloc (.cells #[] t)) x [] (fun j v hv => by simp at hv)
        rw [List.length_nil] at hld
        simp [Builtin.append_, run_underlying hT, sizeOf, typeInfo, hi0, Builtin.lenOf, Builtin.firstCells, storeCells, hld]
    · exact ⟨ho.1, ho.2.imp id fun ⟨g, c, cur, hv, _, r⟩ => ⟨g, c, cur, hv, Nat.zero_le _, r⟩⟩
  · obtain ⟨x, rfl, hx⟩ := hA (by omega)
    obtain ⟨v', w', hr, h2, h3, _, h5⟩ := run_append_own_at (P := Tryd.prog) (w.alloc (.cells #[] t)) w.heap.size T ty t i0 _ 1 bytes hT hi0 hz0 hz1 hz2 hz (by decide) _ 0 [] ho x vs.length c vs (by omega)
      (fun j u hu => by
        have hc := hx j u hu
        exact (hN.cell (World.block_lt_of_cell? w _ hc)).trans hc) hone (by unfold maxLen; omega) (by rw [Nat.zero_add]; exact Nat.le_trans (Nat.mul_le_mul hn hb) (by decide)) (by simp)
    have hfr : ∀ k, v'.ownBlock = some k → w.heap.size ≤ k := fun k hk => (h2.lt k hk).1
    refine ⟨v', w', by simpa using hr, ⟨fun e he => by obtain ⟨u, _, rfl⟩ := List.mem_map.1 he; rfl, ?_, hfr⟩, hN.grown h3 (fun k hk => by cases hk; exact Nat.le_refl _)⟩
    rw [Nat.zero_add, List.nil_append] at h2
    rw [hfl, List.length_map]
    exact ⟨h2.1, h2.2.imp id fun ⟨g, c, cur, hv, _, r⟩ => ⟨g, c, cur, hv, Nat.zero_le _, r⟩⟩

theorem texts_cells {w : World} {a : Option Addr} {l : List ByteArray} (h : Texts w a l) : 0 < (l.map Value.string).length → ∃ x, a = some x ∧ ∀ j u, (l.map Value.string)[j]? = some u → w.cell? (x.add j) = some u := fun h0 => by
  rw [List.length_map] at h0
  obtain ⟨x, hx, hc⟩ := h h0
  refine ⟨x, hx, fun j u hu => ?_⟩
  rw [List.getElem?_map] at hu
  cases hj : l[j]? with
  | none => rw [hj] at hu; cases hu
  | some t =>
    rw [hj] at hu
    cases hu
    rw [hc j (List.getElem?_eq_some_iff.1 hj).1, List.getD_eq_getElem?_getD, hj]; rfl
/-- A row of texts of the call's own is a list that is read. -/
theorem Pl.texts {w : World} {F : Nat → Prop} {a : Option Addr} {n c : Nat} {l : List ByteArray} (h : Pl w F 9 1 (.slice a n c) (l.map fun t => [Value.string t])) : Texts w a l ∧ n = l.length := by
  have hn : n = l.length := by
    obtain ⟨a', c', hv, _⟩ := h.form
    cases hv
    rw [List.length_map]
  refine ⟨fun h0 => ?_, hn⟩
  obtain ⟨g, c', hv, _⟩ := h.full (by rw [List.length_map]; exact h0)
  cases hv
  refine ⟨_, rfl, fun i hi => ?_⟩
  have := h.own.cells (g := g) rfl i (.string (l.getD i ⟨#[]⟩)) (by
    have hc := flat_cell h.each (i := i) (by rw [List.length_map]; exact hi) (j := 0) (by omega)
    rw [Nat.mul_one, Nat.add_zero] at hc
    rw [hc, List.getElem_map, List.getD_eq_getElem?_getD, List.getElem?_eq_getElem hi]; rfl)
  exact this

set_option maxRecDepth 20000 in
set_option maxHeartbeats 2000000 in
theorem texts_any (w : World) (a b : Option Addr) (c d : Nat) (l m : List ByteArray) (hl : Texts w a l) (hm : Texts w b m) (h63 : l.length ≤ 9223372036854775807) :
    Calls Tryd.prog 33 #[.slice a l.length c, .slice b m.length d] w fun e w' => e = .returned (.bool (decide (l = m))) ∧ New w w' := by
  by_cases h1 : l.length = m.length
  · have HA : Hid (Texts w a l ∧ Texts w b m) := ⟨hl, hm⟩
    have HE : Hid (l.length = m.length) := h1
    obtain ⟨n, hn⟩ : ∃ n, l.length = n := ⟨_, rfl⟩
    have HN : Hid (l.length = n) := hn
    rw [← h1, hn]
    rw [hn] at h63
    clear hl hm h1 hn
    go_enter Tryd.func33, Tryd.ntmps33
    go_wp2_with fail
    go_loopw [5] (fun u wr => ∃ i : Nat, u = .int .i64 (i : Int) ∧ i ≤ n ∧ New w wr ∧ ∀ j, j < i → l.getD j ⟨#[]⟩ = m.getD j ⟨#[]⟩) (fun u _ => n - (intOf u).toNat)
    case atStart => exact ⟨0, rfl, by omega, New.refl w, fun j hj => by omega⟩
    case round =>
      obtain ⟨i, rfl, hi, N, hall⟩ := hrel
      have HL : Hid (∀ j, j < i → l.getD j ⟨#[]⟩ = m.getD j ⟨#[]⟩) := hall
      clear hall
      by_cases hin : i < n
      · have hin' : (i : Int) < (n : Int) := by omega
        obtain ⟨x, rfl, hx⟩ := (HA.out.1.after N) (by have := HN.out; omega)
        obtain ⟨y, rfl, hy⟩ := (HA.out.2.after N) (by have := HN.out; have := HE.out; omega)
        have hx0 := hx i (by have := HN.out; omega)
        have hy0 := hy i (by have := HN.out; have := HE.out; omega)
        clear hx hy
        have HI : Hid (l.getD i ⟨#[]⟩ = l.getD i ⟨#[]⟩ ∧ m.getD i ⟨#[]⟩ = m.getD i ⟨#[]⟩) := ⟨rfl, rfl⟩
        obtain ⟨s, hs⟩ : ∃ s, l.getD i ⟨#[]⟩ = s := ⟨_, rfl⟩
        obtain ⟨t, ht⟩ : ∃ t, m.getD i ⟨#[]⟩ = t := ⟨_, rfl⟩
        have HS : Hid (l.getD i ⟨#[]⟩ = s ∧ m.getD i ⟨#[]⟩ = t) := ⟨hs, ht⟩
        rw [hs] at hx0
        rw [ht] at hy0
        clear hs ht HI
        have q1 : ∀ q : NewW wr, q.v.cell? (x.add i) = some (.string s) := fun q => (q.h.cell (World.block_lt_of_cell? _ _ hx0)).trans hx0
        have q2 : ∀ q : NewW wr, q.v.cell? (y.add i) = some (.string t) := fun q => (q.h.cell (World.block_lt_of_cell? _ _ hy0)).trans hy0
        have hne := NewW.ne wr
        clear hx0 hy0
        by_cases hst : s = t
        · subst hst
          go_wp2_with fail
          refine region_first 9 0 wr (New.refl wr) (by kernel_rfl) (by kernel_rfl) ?_
          simp only [List.take_succ_cons, List.drop_succ_cons, List.drop_zero, List.take_nil]
          iterate 9 (go_big_quiet_step (fail))
          refine wpQuiet_nil ?_
          rintro w4 ⟨⟨_, N4⟩, rfl⟩
          go_wp2_with fail
          refine ⟨⟨i + 1, by go_num, by omega, N.trans N4, fun j hj => ?_⟩, by simp [intOf]; omega⟩
          by_cases hji : j = i
          · subst hji; rw [HS.out.1, HS.out.2]
          · exact HL.out j (by omega)
        · have HF : Hid (decide (l = m) = false) := decide_eq_false fun h => hst (by rw [← HS.out.1, ← HS.out.2, h])
          have hst' : (s.toList == t.toList) = false := by simp [ByteArray.toList_eq]; intro h; exact hst (ByteArray.ext h)
          go_wp2_with fail
          refine region_first 9 0 wr (New.refl wr) (by kernel_rfl) (by kernel_rfl) ?_
          simp only [List.take_succ_cons, List.drop_succ_cons, List.drop_zero, List.take_nil]
          iterate 9 (go_big_quiet_step (fail))
          refine wpQuiet_nil ?_
          rintro w4 ⟨⟨_, N4⟩, rfl⟩
          go_wp2_with fail
          go_ret
          exact ⟨by rw [HF.out]; rfl, N.trans N4⟩
      · obtain rfl : i = n := by omega
        have HT : Hid (decide (l = m) = true) := decide_eq_true (by
          apply List.ext_getElem?
          intro j
          by_cases hj : j < i
          · have := HL.out j hj
            rw [List.getD_eq_getElem?_getD, List.getD_eq_getElem?_getD, List.getElem?_eq_getElem (by have := HN.out; omega), List.getElem?_eq_getElem (by have := HN.out; have := HE.out; omega)] at this
            rw [List.getElem?_eq_getElem (by have := HN.out; omega), List.getElem?_eq_getElem (by have := HN.out; have := HE.out; omega)]
            exact congrArg some this
          · rw [List.getElem?_eq_none (by have := HN.out; omega), List.getElem?_eq_none (by have := HN.out; have := HE.out; omega)])
        go_wp2_with fail
        go_ret
        exact ⟨by rw [HT.out]; rfl, N⟩
  · have HF : Hid (decide (l = m) = false) := decide_eq_false fun h => h1 (by rw [h])
    have h2 : ¬ (l.length : Int) = (m.length : Int) := by omega
    clear hl hm
    go_enter Tryd.func33, Tryd.ntmps33
    go_wp2_with fail
    go_ret
    exact ⟨by rw [HF.out]; rfl, New.refl w⟩

end Go.Proofs.YtkcoclpbkealgaaDoor
