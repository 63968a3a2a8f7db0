/-
  The program's disk and the document's own, side by side.
-/
import Derived.Test.YtamaijolggdakaaRefF
import Derived.SizedLaws
namespace Go.Proofs.Ytamaijolggdakaa
open Go.ChangeShapes Go.WideShapes Go.ChangeAt Go.RowKit

def refF (n : Int) : Int := if n > -1 then n else -1
structure Like (S R : St) : Prop where
  lim : R.lim = S.lim
  ps : R.ps = S.ps
  ws : R.ws = S.ws
  down : R.down = S.down
  fuse : S.down = false → R.fuse = refF S.fuse
theorem refF_zero (n : Int) : refF n = 0 ↔ n = 0 := by unfold refF; split <;> omega
theorem refF_burn (n : Int) (h : n ≠ 0) : (if 0 < refF n then refF n - 1 else refF n) = refF (if 0 < n then n - 1 else n) := by
  unfold refF
  by_cases h1 : 0 < n
  · simp only [if_pos h1, if_pos (show n > -1 by omega), if_pos (show n - 1 > -1 by omega)]
  · simp only [if_neg h1, if_neg (show ¬ n > -1 by omega)]
    decide
theorem Like.burn {S R : St} (h : Like S R) (hz : S.fuse ≠ 0) : Like S.burn R.burn := by
  refine ⟨h.lim, h.ps, h.ws, h.down, fun hd => ?_⟩
  unfold St.burn
  simp only
  rw [h.fuse hd, refF_burn _ hz]
theorem Like.dead {S R : St} (h : Like S R) : Like S.dead R.dead := ⟨h.lim, h.ps, h.ws, rfl, fun hd => by cases hd⟩
theorem Like.zero {S R : St} (h : Like S R) (hd : S.down = false) : R.fuse = 0 ↔ S.fuse = 0 := by rw [h.fuse hd, refF_zero]
theorem Like.new (lim : Nat) : Like ⟨lim, [], [], -1, false⟩ ⟨lim, [], [], -1, false⟩ := ⟨rfl, rfl, rfl, rfl, fun _ => rfl⟩
theorem Like.read {S R : St} (h : Like S R) (a : Int) : R.read a = S.read a := by unfold St.read; rw [h.down, h.ps, h.ws]
theorem Like.write {S R : St} (h : Like S R) (a : Int) (d : List UInt8) : (R.write a d).1 = (S.write a d).1 ∧ Like (S.write a d).2 (R.write a d).2 ∧ (S.write a d).2.lim = S.lim ∧ (S.write a d).2.ws.length ≤ S.ws.length + 1 := by
  unfold St.write
  rw [h.down, h.ps]
  cases hd : S.down
  · simp only [Bool.false_eq_true, ↓reduceIte]
    split
    · exact ⟨rfl, h, rfl, by show S.ws.length ≤ _; omega⟩
    split
    · exact ⟨rfl, h, rfl, by show S.ws.length ≤ _; omega⟩
    by_cases hz : S.fuse = 0
    · rw [if_pos hz, if_pos ((h.zero hd).2 hz)]
      exact ⟨rfl, h.dead, rfl, by show S.ws.length ≤ _; omega⟩
    · rw [if_neg hz, if_neg (fun h' => hz ((h.zero hd).1 h'))]
      have hb := h.burn hz
      refine ⟨rfl, ⟨hb.lim, hb.ps, ?_, hb.down, hb.fuse⟩, rfl, ?_⟩
      · show R.ws ++ _ = S.ws ++ _
        rw [h.ws]
      · show (S.ws ++ [_]).length ≤ _
        rw [List.length_append, List.length_singleton]; omega
  · exact ⟨rfl, h, rfl, by show S.ws.length ≤ _; omega⟩
theorem Like.sync {S R : St} (h : Like S R) : R.sync.1 = S.sync.1 ∧ Like S.sync.2 R.sync.2 ∧ S.sync.2.lim = S.lim ∧ S.sync.2.ws.length ≤ S.ws.length := by
  unfold St.sync
  rw [h.down]
  cases hd : S.down
  · simp only [Bool.false_eq_true, ↓reduceIte]
    by_cases hz : S.fuse = 0
    · rw [if_pos hz, if_pos ((h.zero hd).2 hz)]
      exact ⟨rfl, h.dead, rfl, by show S.ws.length ≤ _; omega⟩
    · rw [if_neg hz, if_neg (fun h' => hz ((h.zero hd).1 h'))]
      have hb := h.burn hz
      refine ⟨rfl, ⟨hb.lim, ?_, rfl, hb.down, hb.fuse⟩, rfl, Nat.zero_le _⟩
      show latest R.ps R.ws = latest S.ps S.ws
      rw [h.ps, h.ws]
  · exact ⟨rfl, h, rfl, by show S.ws.length ≤ _; omega⟩
theorem Like.grow {S R : St} (h : Like S R) (n : Int) : (R.grow n).1 = (S.grow n).1 ∧ Like (S.grow n).2 (R.grow n).2 ∧ (S.grow n).2.lim = S.lim ∧ (S.grow n).2.ws.length ≤ S.ws.length := by
  unfold St.grow
  rw [h.down, h.lim]
  cases hd : S.down
  · simp only [Bool.false_eq_true, ↓reduceIte]
    split
    · exact ⟨rfl, h, rfl, by show S.ws.length ≤ _; omega⟩
    split
    · exact ⟨rfl, h, rfl, by show S.ws.length ≤ _; omega⟩
    by_cases hz : S.fuse = 0
    · rw [if_pos hz, if_pos ((h.zero hd).2 hz)]
      exact ⟨rfl, h.dead, rfl, by show S.ws.length ≤ _; omega⟩
    · rw [if_neg hz, if_neg (fun h' => hz ((h.zero hd).1 h'))]
      have hb := h.burn hz
      refine ⟨rfl, ⟨hb.lim, ?_, hb.ws, hb.down, hb.fuse⟩, rfl, by show S.ws.length ≤ _; omega⟩
      show growTo R.ps _ = growTo S.ps _
      rw [h.ps]
  · exact ⟨rfl, h, rfl, by show S.ws.length ≤ _; omega⟩
theorem Like.shrink {S R : St} (h : Like S R) (n : Int) : (R.shrink n).1 = (S.shrink n).1 ∧ Like (S.shrink n).2 (R.shrink n).2 ∧ (S.shrink n).2.lim = S.lim ∧ (S.shrink n).2.ws.length ≤ S.ws.length := by
  unfold St.shrink
  rw [h.down, h.ps]
  cases hd : S.down
  · simp only [Bool.false_eq_true, ↓reduceIte]
    split
    · exact ⟨rfl, h, rfl, by show S.ws.length ≤ _; omega⟩
    by_cases hz : S.fuse = 0
    · rw [if_pos hz, if_pos ((h.zero hd).2 hz)]
      exact ⟨rfl, h.dead, rfl, by show S.ws.length ≤ _; omega⟩
    · rw [if_neg hz, if_neg (fun h' => hz ((h.zero hd).1 h'))]
      have hb := h.burn hz
      refine ⟨rfl, ⟨hb.lim, rfl, ?_, hb.down, hb.fuse⟩, rfl, ?_⟩
      · show R.ws.filter _ = S.ws.filter _
        rw [h.ws]
      · show (S.ws.filter _).length ≤ _
        exact List.length_filter_le _ _
  · exact ⟨rfl, h, rfl, by show S.ws.length ≤ _; omega⟩
theorem Like.setFuse {S R : St} (h : Like S R) (n : Int) : Like (S.setFuse n) (R.refFuse n) ∧ (S.setFuse n).lim = S.lim ∧ (S.setFuse n).ws.length ≤ S.ws.length := by
  unfold St.setFuse St.refFuse
  cases hd : S.down
  · rw [if_neg (by decide)]
    exact ⟨⟨h.lim, h.ps, h.ws, h.down.trans hd, fun _ => rfl⟩, rfl, by show S.ws.length ≤ _; omega⟩
  · rw [if_pos rfl]
    exact ⟨⟨h.lim, h.ps, h.ws, h.down, fun h' => by rw [hd] at h'; cases h'⟩, rfl, by omega⟩
theorem Like.crash {S R : St} (h : Like S R) (cs : List UInt8) : Like (S.crash cs) (R.crash cs) ∧ (S.crash cs).lim = S.lim ∧ (S.crash cs).ws.length ≤ S.ws.length := by
  unfold St.crash
  rw [h.lim, h.ps, h.ws]
  exact ⟨⟨rfl, rfl, rfl, rfl, fun _ => rfl⟩, rfl, Nat.zero_le _⟩

/-- Both in memory, apart, all of it new. -/
structure Both (w0 w : World) (p q : Nat) (S R : St) (F G : Nat → Prop) : Prop where
  D : Disk w F p S
  E : Rd w G q R
  sep : ∀ b, F b → ¬ G b
  AF : Above w0.heap.size w0 w F
  AG : Above w0.heap.size w0 w G
theorem Both.new {w0 w w' : World} {p q : Nat} {S R : St} {F G : Nat → Prop} (h : Both w0 w p q S R F G) (n : New w w') : Both w0 w' p q S R F G := ⟨h.D.after n, h.E.after n, h.sep, h.AF.new n, h.AG.new n⟩
theorem Both.left {w0 w w' : World} {p q : Nat} {S R S' : St} {F G F' : Nat → Prop} (h : Both w0 w p q S R F G) (D' : Disk w' F' p S') (k : Step F F' w w') : Both w0 w' p q S' R F' G := by
  refine ⟨D', h.E.apart k (fun b hb hf => h.sep b hf hb), fun b hb hg => ?_, h.AF.step k, ⟨(h.AF.step k).below, h.AG.foot, (h.AF.step k).size⟩⟩
  rcases k.foot b hb with h1 | h1
  · exact h.sep b h1 hg
  · have := h.E.inside b hg
    omega
theorem Both.right {w0 w w' : World} {p q : Nat} {S R R' : St} {F G G' : Nat → Prop} (h : Both w0 w p q S R F G) (E' : Rd w' G' q R') (k : Step G G' w w') : Both w0 w' p q S R' F G' := by
  refine ⟨h.D.apart k (fun b hb hg => h.sep b hb hg), E', fun b hb hg => ?_, ⟨(h.AG.step k).below, h.AF.foot, (h.AG.step k).size⟩, h.AG.step k⟩
  rcases k.foot b hg with h1 | h1
  · exact h.sep b hb h1
  · have := h.D.inside b hb
    omega

/-- A list of one-cell values copied behind nothing. -/
theorem run_copied_wide (w : World) (T t ty : TypeId) (z : Value) (bytes : Nat) (hT : Try.prog.underlying T = some (.slice t)) (hi : (Try.prog.info? t).map (fun i => (i.zero, i.size, i.bytes)) = some (some z, 1, bytes)) (hz : z.cells.size = 1)
    (a : Option Addr) (c : Nat) (vs : List Value) (hA : 0 < vs.length → ∃ x, a = some x ∧ ∀ j u, vs[j]? = some u → w.cell? (x.add j) = some u) (hone : ∀ u ∈ vs, u.oneCell' = true) (hn : vs.length * bytes ≤ 140737488355328) (hn2 : vs.length ≤ maxLen) :
    ∃ v w', (Builtin.append_ #[T, T] ty #[.slice (some ⟨w.heap.size, 0, none⟩) 0 0, .slice a vs.length c]).run Try.prog (w.alloc (.cells #[] t)) = .ok v w' ∧ Pl w' (Fresh w) t 1 v (vs.map fun u => [u]) ∧ New w w' := by
  obtain ⟨i0, hi0, hz0, hz1, hz2⟩ := info_parts hi
  have hN : New w (w.alloc (.cells #[] t)) := (New.refl w).alloc _
  have ho : (w.alloc (.cells #[] t)).ownsRow w.heap.size t 1 (.slice (some ⟨w.heap.size, 0, none⟩) 0 0) 0 [] :=
    ⟨rfl, .inr ⟨w.heap.size, 0, #[], rfl, Nat.le_refl _, heap_alloc_new w _, Nat.le_refl _, by unfold maxLen; omega, rfl, rfl⟩⟩
  have hfl : ∀ l : List Value, (l.map fun u => [u]).flatten = l := fun l => by
    induction l with
    | nil => rfl
    | cons x l ih => rw [List.map_cons, List.flatten_cons, ih]; rfl
  by_cases h0 : vs.length = 0
  · obtain rfl : vs = [] := List.eq_nil_of_length_eq_zero h0
    refine ⟨.slice (some ⟨w.heap.size, 0, none⟩) 0 0, w.alloc (.cells #[] t), ?_, ⟨(fun e he => by cases he), ?_, (fun g hg => by cases hg; exact Nat.le_refl _)⟩, hN⟩
    · cases a with
      | none => simp [Builtin.append_, run_underlying hT, sizeOf, typeInfo, hi0, Builtin.lenOf, Builtin.firstCells, storeCells]
      | some x =>
        have hld := run_loadCells_list (P := Try.prog) (w.alloc (.cells #[] t)) x [] (fun j v hv => by simp at hv)
        rw [List.length_nil] at hld
        simp [Builtin.append_, run_underlying hT, sizeOf, typeInfo, hi0, Builtin.lenOf, Builtin.firstCells, storeCells, hld]
    · exact ⟨ho.1, ho.2.imp id fun ⟨g, c, cur, hv, _, r⟩ => ⟨g, c, cur, hv, Nat.zero_le _, r⟩⟩
  · obtain ⟨x, rfl, hx⟩ := hA (by omega)
    obtain ⟨v', w', hr, h2, h3, _, h5⟩ := run_append_own_at (P := Try.prog) (w.alloc (.cells #[] t)) w.heap.size T ty t i0 _ 1 bytes hT hi0 hz0 hz1 hz2 hz (by decide) _ 0 [] ho x vs.length c vs (by omega)
      (fun j u hu => by
        have hc := hx j u hu
        exact (hN.cell (World.block_lt_of_cell? w _ hc)).trans hc) hone (by rw [Nat.zero_add]; exact hn2) (by rw [Nat.zero_add]; exact hn) (by simp)
    have hfr : ∀ k, v'.ownBlock = some k → w.heap.size ≤ k := fun k hk => (h2.lt k hk).1
    refine ⟨v', w', by simpa using hr, ⟨fun e he => by obtain ⟨u, _, rfl⟩ := List.mem_map.1 he; rfl, ?_, hfr⟩, hN.grown h3 (fun k hk => by cases hk; exact Nat.le_refl _)⟩
    rw [Nat.zero_add, List.nil_append] at h2
    rw [hfl, List.length_map]
    exact ⟨h2.1, h2.2.imp id fun ⟨g, c, cur, hv, _, r⟩ => ⟨g, c, cur, hv, Nat.zero_le _, r⟩⟩

theorem bytes_cells {w : World} {a : Option Addr} {l : List UInt8} (h : Bytes w a l) : 0 < (cellsL l).length → ∃ x, a = some x ∧ ∀ j u, (cellsL l)[j]? = some u → w.cell? (x.add j) = some u := fun h0 => by
  rw [cellsL_length] at h0
  obtain ⟨x, hx, hc⟩ := h h0
  refine ⟨x, hx, fun j u hu => ?_⟩
  unfold cellsL at hu
  rw [List.getElem?_map] at hu
  cases hj : l[j]? with
  | none => rw [hj] at hu; cases hu
  | some t =>
    rw [hj] at hu
    cases hu
    rw [hc j (List.getElem?_eq_some_iff.1 hj).1, List.getD_eq_getElem?_getD, hj]; rfl
theorem Pl.bytes {w : World} {F : Nat → Prop} {a : Option Addr} {n c : Nat} {l : List UInt8} (h : Pl w F 5 1 (.slice a n c) ((cellsL l).map fun u => [u])) : Bytes w a l ∧ n = l.length := by
  have hn : n = l.length := by
    obtain ⟨a', c', hv, _⟩ := h.form
    cases hv
    rw [List.length_map, cellsL_length]
  refine ⟨fun h0 => ?_, hn⟩
  obtain ⟨g, c', hv, _⟩ := h.full (by rw [List.length_map, cellsL_length]; exact h0)
  cases hv
  refine ⟨_, rfl, fun i hi => ?_⟩
  have := h.own.cells (g := g) rfl i (.int .u8 ((l.getD i 0).toNat : Int)) (by
    have hc := flat_cell h.each (i := i) (by rw [List.length_map, cellsL_length]; exact hi) (j := 0) (by omega)
    rw [Nat.mul_one, Nat.add_zero] at hc
    rw [hc, List.getElem_map]
    unfold cellsL
    rw [List.getElem_map, List.getD_eq_getElem?_getD, List.getElem?_eq_getElem hi]; rfl)
  exact this

/-- A call that is asked for. -/
structure Ask1 where
  k : Int
  z : Int
  u : UInt8
  a : Option Addr
  c : Nat
  cs : List UInt8
def ask0 : Ask1 := ⟨0, 0, 0, none, 0, []⟩
structure Asked (w : World) (y : Addr) (e : Ask1) : Prop where
  c0 : w.cell? y = some (.int .i64 e.k)
  c1 : w.cell? (y.add 1) = some (.int .i64 e.z)
  c2 : w.cell? (y.add 2) = some (.int .u8 (e.u.toNat : Int))
  c3 : w.cell? (y.add 3) = some (.slice e.a e.cs.length e.c)
  by_ : Bytes w e.a e.cs
  lo : -9223372036854775808 ≤ e.z
  hi : e.z ≤ 9223372036854775807
  len : e.cs.length ≤ 140737488351232
def Steps (w : World) (p : Option Addr) (l : List Ask1) : Prop := 0 < l.length → ∃ x, p = some x ∧ ∀ i, i < l.length → Asked w (x.add (i * 4)) (l.getD i ask0)
section
variable {H : Type} {enc : TypeId × Value → H} {W : World} {base : Nat} {d : DataW H} {p : List MemPlace} {v : Value}
theorem all_mem {P : Program} {e : TypeId} : ∀ {l : List (DataW H)} {y : DataW H} {x : Nat}, y ∈ l → x ∈ y.weights P e → x ∈ DataW.weightsAll P e l
  | z :: l, y, x, hy, hx => by
    unfold DataW.weightsAll
    rw [List.mem_append]
    rcases List.mem_cons.1 hy with rfl | hy
    · exact .inl hx
    · exact .inr (all_mem hy hx)
theorem bytes_sized {fuel : Nat} {v : Value} {x : DataW H × List MemPlace} (hf : DataW.trod enc Try.prog W 0 (fun _ => true) true fuel 30 [v] = some x) (hs : ∀ n ∈ DataW.weights Try.prog 30 x.1, n ≤ reachBytes) : ∃ a cap l, v = .slice a l.length cap ∧ Bytes W a l ∧ l.length ≤ 140737488351232 := by
  obtain ⟨a, cap, l, hv, hb, _⟩ := bytes_of hf
  refine ⟨a, cap, l, hv, hb, ?_⟩
  subst hv
  rcases Go.Deep.open_slice Try.underlying30 hf with ⟨hcs, _⟩ | ⟨y, ln, c, m, n, D, Pp, hcs, _, hl, hm, hmm, rfl, _⟩
  · simp at hcs
    rw [hcs.2.1]; simp
  · simp at hcs
    have h1 := hs (((List.range ln).map D).length + ((List.range (m - ln)).map fun j => D (ln + j)).length) (by
      have : Try.prog.bytesOf 5 = 1 := by kernel_rfl
      simp [DataW.weights, Try.underlying30, this])
    rw [List.length_map, List.length_range] at h1
    have h2 : reachBytes = 140737488351232 := by decide
    have := hcs.2.1
    omega
theorem ask_steps (hsz : ∀ n ∈ DataW.weights Try.prog 22 d, n ≤ reachBytes) (hv : Value.okWide Try.prog W .any base 22 v) (h : DataW.Trod enc Try.prog W 0 (fun _ => true) true 22 v d p) : ∃ a cap l, v = .slice a l.length cap ∧ Steps W a l ∧ l.length ≤ maxLen := by
  obtain ⟨a, len, cap, rfl⟩ := okWide_slice Try.underlying22 hv
  obtain ⟨fuel, hf⟩ := h
  rcases Go.Deep.open_slice Try.underlying22 hf with ⟨hcs, _⟩ | ⟨x, l, c, m, n, D, Pp, hcs, _, hl, hm, hmm, hpl, hcell⟩
  · simp [Value.cells] at hcs
    obtain ⟨rfl, rfl, rfl⟩ := hcs
    exact ⟨none, 0, [], rfl, fun h => absurd h (by simp), by simp⟩
  · simp [Value.cells] at hcs
    obtain ⟨rfl, rfl, rfl⟩ := hcs
    have each : ∀ i, i < len → ∃ e : Ask1, Asked W (x.add (i * 4)) e := fun i hi => by
      obtain ⟨cs', h1, h2⟩ := hcell i (by rw [hmm]; split <;> omega)
      have hwi : ∀ n ∈ DataW.weights Try.prog 32 (D i), n ≤ reachBytes := fun n hn => by
        refine hsz n ?_
        have hd9 : d = _ := (Prod.ext_iff.1 hpl).1
        rw [hd9]
        simp only [DataW.weights, Try.underlying22]
        exact List.mem_cons_of_mem _ (List.mem_append_left _ (all_mem (List.mem_map.2 ⟨i, List.mem_range.2 hi, rfl⟩) hn))
      rw [show Try.prog.cellsOf 32 = 4 by kernel_rfl] at h1
      obtain ⟨_, hlen, hc⟩ := World.cells?_some h1
      obtain ⟨y0, y1, y2, y3, n', hag, _, g0, g1, g2, g3⟩ := Go.Joins.trod_struct4 Try.underlying32 h2
      rw [show Try.prog.cellsOf 3 = 1 by kernel_rfl] at g0 g1
      rw [show Try.prog.cellsOf 5 = 1 by kernel_rfl] at g2
      rw [show Try.prog.cellsOf 30 = 1 by kernel_rfl] at g3
      match cs', hlen with
      | [v0, v1, v2, v3], _ =>
        have e0 := hc 0 (by omega)
        have e1 := hc 1 (by omega)
        have e2 := hc 2 (by omega)
        have e3 := hc 3 (by omega)
        obtain ⟨k, hk, _, _⟩ := DataW.trod_int Try.underlying3 g0
        obtain ⟨z, hz, _, hwz⟩ := DataW.trod_int Try.underlying3 g1
        obtain ⟨u, hu, _, hw⟩ := DataW.trod_int Try.underlying5 g2
        obtain ⟨u, rfl⟩ := byte_of hw
        have hb := bounds_i64 hwz
        simp at hk hz hu g3 e1 e2 e3
        have e0' : W.cell? (x.add (i * 4)) = some v0 := by simpa [Addr.add] using e0
        obtain ⟨a, cap', l', hl', hby, hml⟩ := bytes_sized g3 (fun n hn => hwi n (by
          have hd9 : D i = _ := (Prod.ext_iff.1 hag).1
          rw [hd9]
          simp only [DataW.weights, Try.underlying32, DataW.weightsEach, List.map_cons, List.map_nil]
          simp [hn]))
        exact ⟨⟨k, z, u, a, cap', l'⟩, by rw [e0', hk], by rw [e1, hz], by rw [e2, hu], by rw [e3, hl'], hby, hb.1, hb.2, hml⟩
    haveI : Inhabited Ask1 := ⟨ask0⟩
    obtain ⟨q, hq⟩ := Go.Deep.choose_lt (α := Ask1) each
    refine ⟨some x, cap, (List.range len).map q, by rw [List.length_map, List.length_range], fun h0 => ⟨x, rfl, fun i hi => ?_⟩, ?_⟩
    · rw [List.length_map, List.length_range] at hi
      rw [range_getD q _ hi]
      exact hq i hi
    · rw [List.length_map, List.length_range]; omega
end

end Go.Proofs.Ytamaijolggdakaa
