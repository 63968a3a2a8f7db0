/-
  The document's own add, what its maker is in memory, what its contract says. A slice copied behind an empty one, whatever its elements' size; a row read inside a region that draws.
-/
import Derived.Test.YtjikdbmdaeonlaaDoorGaq
namespace Go.Proofs.YtjikdbmdaeonlaaDoor
open Go.RowKit
set_option maxRecDepth 20000

def nd0 : Nd := ⟨0, [], false, [], no16⟩
theorem built49_0 : Tryd.prog.built 55 [] = some (ndA nd0) := by kernel_rfl
theorem built49_x (p : Bt) : Tryd.prog.built 55 [(0, .int .i64 2), (1, .string (bs p))] = some (ndA ⟨2, p, false, [], no16⟩) := by kernel_rfl
/-- The maker in memory: its pairs and their nibbles, the nodes and the paths so far. -/
def Mk (B M : Nat) (vl vn : Value) (ts : List Nd) (ps : List Bt) (w : World) : Prop := M < B ∧ B ≤ w.heap.size ∧ ∃ (vt vp : Value) (Ft Fp : Nat → Prop),
  Row w M #[vl, vn, vt, vp] 75 ∧ Pl w Ft 55 20 vt (ts.map ndC) ∧ Pl w Fp 9 1 vp (ps.map txC) ∧ (∀ b, Ft b → B ≤ b) ∧ (∀ b, Fp b → B ≤ b) ∧ (∀ b, Ft b → ¬ Fp b)
/-- Keys and values where they lie. -/
def Rd (gl ol gn : Nat) (L : List Pr) (w : World) : Prop := ∀ i p, L[i]? = some p → w.cell? ⟨gn, i, none⟩ = some (.string (bs p.1)) ∧ w.cell? ⟨gl, ol + i * 2 + 1, none⟩ = some (.string (bs p.2))
theorem Rd.thru {gl ol gn B M : Nat} {L : List Pr} {w w' : World} (h : Rd gl ol gn L w) (t : Thru B M w w') (hg : gl < B ∧ gl ≠ M ∧ gn < B ∧ gn ≠ M) : Rd gl ol gn L w' := fun i p hp =>
  ⟨(t.cell hg.2.2.1 hg.2.2.2).trans (h i p hp).1, (t.cell hg.1 hg.2.1).trans (h i p hp).2⟩
/-- Two footprints, apart, all new since B. -/
structure Apart (B : Nat) (Ft Fp : Nat → Prop) : Prop where
  t : ∀ b, Ft b → B ≤ b
  p : ∀ b, Fp b → B ≤ b
  d : ∀ b, Ft b → ¬ Fp b
def nds (G : List NP) : List Nd := G.map (·.1)
def pths (G : List NP) : List Bt := G.map (·.2)
theorem Mk.new {B M : Nat} {vl vn : Value} {ts : List Nd} {ps : List Bt} {w w' : World} (h : Mk B M vl vn ts ps w) (n : New w w') : Mk B M vl vn ts ps w' := by
  obtain ⟨a, b, vt, vp, Ft, Fp, R, Q, P, h⟩ := h
  exact ⟨a, Nat.le_trans b n.size, vt, vp, Ft, Fp, R.after n, Q.after n, P.after n, h⟩
theorem Mk.row {B M : Nat} {vl vn : Value} {ts : List Nd} {ps : List Bt} {w : World} (h : Mk B M vl vn ts ps w) : w.cell? ⟨M, 1, none⟩ = some vn ∧ w.cell? ⟨M, 0, none⟩ = some vl := by
  obtain ⟨_, _, vt, vp, Ft, Fp, R, _⟩ := h
  exact ⟨R.has 1 rfl, R.has 0 rfl⟩
theorem set_kid {E : Bool} {V : Bt} {ks : List Int} {h : Nat} (x : Int) : (ndC (brN E V ks)).set (4 + h) (.int .i64 x) = ndC (brN E V (ks.set h x)) := by
  unfold ndC brN
  rw [show 4 + h = h + 1 + 1 + 1 + 1 by omega]
  simp only [List.set_cons_succ, List.map_set]
theorem get_kid {E : Bool} {V : Bt} {ks : List Int} {h : Nat} {x : Int} (hk : ks[h]? = some x) : (ndC (brN E V ks))[4 + h]? = some (.int .i64 x) := by
  unfold ndC brN
  rw [show 4 + h = h + 1 + 1 + 1 + 1 by omega]
  simp only [List.getElem?_cons_succ, List.getElem?_map, hk, Option.map_some]
theorem set_mid' {α : Type} (a : List α) (x y : α) (c d : List α) : (a ++ [x] ++ c ++ d).set a.length y = a ++ [y] ++ (c ++ d) := by
  rw [List.append_assoc, List.append_assoc, List.set_append_right _ _ (Nat.le_refl _), Nat.sub_self, List.append_assoc]; rfl
theorem get_mid' {α : Type} (a : List α) (x : α) (c d : List α) : (a ++ [x] ++ c ++ d)[a.length]? = some x := by
  rw [List.append_assoc, List.append_assoc, List.getElem?_append_right (Nat.le_refl _), Nat.sub_self]; rfl
theorem set_mid {α : Type} (a : List α) (x y : α) (c : List α) : (a ++ [x] ++ c).set a.length y = a ++ y :: c := by
  rw [List.append_assoc, List.set_append_right _ _ (Nat.le_refl _), Nat.sub_self]; rfl
theorem get_mid {α : Type} (a : List α) (x : α) (c : List α) : (a ++ [x] ++ c)[a.length]? = some x := by
  rw [List.append_assoc, List.getElem?_append_right (Nat.le_refl _), Nat.sub_self]; rfl
def AddOk (f : Nat) : Prop := ∀ {w : World} {B M gl ol cl gn cn : Nat} {L : List Pr} {ts : List Nd} {ps : List Bt} {i e n : Nat}, 17 ≤ n + f → n ≤ 16 → i < e → e ≤ L.length → L.length ≤ 10000 → Fit (seg L i e) n →
  ts.length + 3 * (e - i) + 2 * f ≤ 40000 → ps.length = ts.length → L.length ≤ cl → L.length ≤ cn → (gl < B ∧ gl ≠ M ∧ gn < B ∧ gn ≠ M) →
  Mk B M (.slice (some ⟨gl, ol, none⟩) L.length cl) (.slice (some ⟨gn, 0, none⟩) L.length cn) ts ps w → Rd gl ol gn L w →
  Calls Tryd.prog 40 #[.pointer (some ⟨M, 0, none⟩), .int .i64 (i : Int), .int .i64 (e : Int), .int .i64 (n : Int)] w fun x w' => x = .returned (.int .i64 (ts.length : Int)) ∧
    Mk B M (.slice (some ⟨gl, ol, none⟩) L.length cl) (.slice (some ⟨gn, 0, none⟩) L.length cn) (ts ++ nds (grow f (seg L i e) n ts.length)) (ps ++ pths (grow f (seg L i e) n ts.length)) w' ∧ Thru B M w w'

end Go.Proofs.YtjikdbmdaeonlaaDoor
namespace Go.Proofs.YtjikdbmdaeonlaaDoor
open Go.RowKit
set_option maxRecDepth 20000

theorem run_copy_ls {w w1 : World} (T t ty : TypeId) (k : Nat) (z : Value) (bytes : Nat) (hT : Tryd.prog.underlying T = some (.slice t)) (hi : (Tryd.prog.info? t).map (fun i => (i.zero, i.size, i.bytes)) = some (some z, k, bytes)) (hz : z.cells.size = k) (hk : 0 < k) (hb : bytes ≤ 1000)
    {v : Value} {es : List (List Value)} (P : Ls w k v es) (he : ∀ e ∈ es, e.length = k) (hone : ∀ e ∈ es, ∀ u ∈ e, u.oneCell' = true) (h0 : 0 < es.length) (hn : es.length ≤ 1000000)
    {g0 : Nat} (R : Row w1 g0 #[] t) (N : New w w1) (hg0 : w.heap.size ≤ g0) :
    ∃ v' w', (Builtin.append_ #[T, T] ty #[.slice (some ⟨g0, 0, none⟩) 0 0, v]).run Tryd.prog w1 = .ok v' w' ∧ Pl w' (Fresh w) t k v' es ∧ New w w' ∧ w1.grownBy w' (some g0) := by
  obtain ⟨i0, hi0, hz0, hz1, hz2⟩ := info_parts hi
  have ho : w1.ownsRow w.heap.size t k (.slice (some ⟨g0, 0, none⟩) 0 0) 0 [] :=
    ⟨by simp, .inr ⟨g0, 0, #[], rfl, hg0, R, Nat.le_refl _, by unfold maxLen; omega, by simp, by simp⟩⟩
  obtain ⟨g, o, c, rfl, hc, hg, hr⟩ := P.full h0
  have hnews : ∀ j u, es.flatten[j]? = some u → w1.cell? ((⟨g, o, none⟩ : Addr).add j) = some u := fun j u hu => by
    have hj := (List.getElem?_eq_some_iff.1 hu).1
    rw [flat_length he] at hj
    have hi : j / k < es.length := Nat.div_lt_of_lt_mul (by rw [Nat.mul_comm]; exact hj)
    have hm : j % k < k := Nat.mod_lt _ hk
    have hjj : j / k * k + j % k = j := by rw [Nat.mul_comm]; exact Nat.div_add_mod j k
    rw [← hjj, flat_cell he hi hm] at hu
    have := hr (j / k) hi (j % k) u hu
    rw [Addr.add_mid]
    rw [Nat.add_assoc, hjj] at this
    exact (N.cell hg).trans this
  obtain ⟨v', w', hr2, h2, h3, _, h5⟩ := run_append_own_at (P := Tryd.prog) w1 w.heap.size T ty t i0 _ k bytes hT hi0 hz0 hz1 hz2 hz hk _ 0 [] ho ⟨g, o, none⟩ es.length c es.flatten (flat_length he) hnews
    (fun u hu => by obtain ⟨e, he', hu'⟩ := List.mem_flatten.1 hu; exact hone e he' u hu') (by unfold maxLen; omega) (by rw [Nat.zero_add]; exact Nat.le_trans (Nat.mul_le_mul hn hb) (by decide)) N.size
  have hfr : ∀ b, v'.ownBlock = some b → w.heap.size ≤ b := fun b hb => (h2.lt b hb).1
  refine ⟨v', w', hr2, ⟨he, ?_, hfr⟩, N.grown h3 (fun b hb => by cases hb; exact hg0), h3⟩
  rw [Nat.zero_add, List.nil_append] at h2
  exact ⟨h2.1, h2.2.imp id fun ⟨g, c, cur, hv, _, r⟩ => ⟨g, c, cur, hv, Nat.zero_le _, r⟩⟩
theorem run_buildNone (w : World) (T t : TypeId) (z : Value) (b n : Nat) (hu : Tryd.prog.underlying T = some (.slice t)) (hi : (Tryd.prog.info? t).map (fun i => (i.zero, i.size, i.bytes)) = some (some z, n, b)) :
    (Instr.buildSlice T 0 #[]).run Tryd.prog w = .ok (.slice (some ⟨w.heap.size, 0, none⟩) 0 0) (w.alloc (.cells #[] t)) := by
  obtain ⟨i0, hi0, hz0, hz1, hz2⟩ := info_parts hi
  simp [Instr.buildSlice, run_underlying hu, sizeOf, typeInfo, hi0, newRow, Instr.fill]
  exact congrArg (fun z => w.alloc (.cells z t)) (Array.ext' (by simp))
section
variable {P : Program} {o : Oper} {a : Act} {w : World}
theorem exec_buildNone {T : TypeId} {v : Value} {w' : World} (ho : o.op = .buildSlice T 0 #[]) (hr : (Instr.buildSlice T 0 #[]).run P w = .ok v w') : (execOp a.eval o).run P w = .ok (.value v) w' := by
  unfold execOp
  simp only [ho, List.map_toArray, List.map_nil, Sem.run_bind, hr, Result.andThen_ok, Sem.run_pure]
theorem exec_load {ty : TypeId} {x : Operand} (ho : o.op = .load ty x) (g off : Nat) (hx : a.eval x = .pointer (some ⟨g, off, none⟩)) (cs : List Value) (hr : w.rangeAt g off cs) (d : TypeDesc)
    (hu : P.underlying ty = some d) (hd : d.isRow = true) (hi : (P.info? ty).map (·.size) = some cs.length) : (execOp a.eval o).run P w = .ok (.value (.agg cs.toArray)) w := by
  have h1 := run_loadVar_mid w g off ty cs d hr hu hd hi
  unfold execOp
  simp only [ho, hx, Instr.loadAt, Instr.sureAddr, Sem.run_bind, Sem.run_pure, Result.andThen_ok, h1]
end
theorem HasC.pair {g o : Nat} {p : Pr} {w : World} (h : HasC g o (.string (bs p.1)) (.string (bs p.2)) w) : w.rangeAt g o (prC p) := fun j u hu => by
  obtain ⟨⟨W, h0, h1⟩, rfl⟩ := h
  match j, hu with
  | 0, hu => obtain rfl := Option.some.inj hu; exact h0
  | 1, hu => obtain rfl := Option.some.inj hu; exact h1
end Go.Proofs.YtjikdbmdaeonlaaDoor
