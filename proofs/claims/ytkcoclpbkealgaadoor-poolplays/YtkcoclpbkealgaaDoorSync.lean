/-
  What Sync and Grow tell, and what they leave.
-/
import Derived.Test.YtkcoclpbkealgaaDoorWrite
namespace Go.Proofs.YtkcoclpbkealgaaDoor
open Go.RowKit
set_option maxRecDepth 20000

theorem Disk.newStable {w0 w W2 : World} {F : Nat → Prop} {p : Nat} {S : St} {v1 v2 v : Value} {ps : List (List UInt8)} {F' : Nat → Prop} (S0 : Step F F' w0 w) (D : Disk w F p S)
    (R : Row w p #[.int .i64 (S.lim : Int), v1, v2, .int .i64 S.fuse, .bool S.down] 81) (M2 : New w W2) (Q : Pl W2 (Fresh w) 85 256 v (ps.map cellsL)) (hps : ∀ q ∈ ps, q.length = 256) (hlen : ps.length ≤ S.lim) :
    Left F p w0 { S with ps := ps, ws := [] } ((W2.setCell ⟨p, 1, none⟩ v).setCell ⟨p, 2, none⟩ (.slice none 0 0)) := by
  have hpl := D.lt
  have e : ∀ b, b ≠ p → ((W2.setCell ⟨p, 1, none⟩ v).setCell ⟨p, 2, none⟩ (.slice none 0 0)).heap[b]? = W2.heap[b]? := fun b hb => (Below.heap_setCell _ _ _ _ hb).trans (Below.heap_setCell _ _ _ _ hb)
  refine ⟨Wide F w0 _, Disk.build (F := F) (w := w0) (v1 := v) (v2 := .slice none 0 0) (G1 := fun g => w.heap.size ≤ g) (G2 := fun _ => True) D.base ⟨hps, (by intro x hx; cases hx), D.ok.lim, hlen, Nat.zero_le _, D.ok.lo, D.ok.hi⟩ (((R.after M2).set 1 _).set 2 _) ?_ (Pl.nil _ _ _ _) ?_ (fun g hg => by cases hg), ?_⟩
  · exact Q.of (fun b hb _ => e b (by have : w.heap.size ≤ b := hb; omega)) (fun _ h _ => h)
  · intro g hg
    have : w.heap.size ≤ g := Q.foot g hg
    exact ⟨.inr (Nat.le_trans S0.size this), by omega⟩
  · exact ((((S0.wide (G := F) fun k hk => .inl hk).trans (Step.new M2)).trans (Step.setCell W2 (a := ⟨p, 1, none⟩) D.base _)).trans (Step.setCell _ (a := ⟨p, 2, none⟩) D.base _)).widen

theorem Disk.addPage {w0 w W2 W3 : World} {F F0 : Nat → Prop} {p : Nat} {S : St} {v1 v2 : Value} {g3 m cap3 : Nat} {q : List UInt8} (S0 : Step F0 F w0 w) (h0 : F0 p) (D : Disk w F p S)
    (R : Row w p #[.int .i64 (S.lim : Int), v1, v2, .int .i64 S.fuse, .bool S.down] 81)
    (P2 : Pl w (fun g => F g ∧ g ≠ p ∧ v1.ownBlock ≠ some g) 113 257 v2 (S.ws.map waitL)) (P1 : Pl w (fun g => F g ∧ g ≠ p ∧ v2.ownBlock ≠ some g) 85 256 v1 (S.ps.map cellsL))
    (M2 : New w W2) (G3 : W2.grownBy W3 v1.ownBlock) (Q3 : Pl W3 (fun b => (F b ∧ b ≠ p ∧ v2.ownBlock ≠ some b) ∨ W2.heap.size ≤ b) 85 256 (.slice (some ⟨g3, 0, none⟩) m cap3) (S.ps.map cellsL ++ [cellsL q]))
    (hl : q.length = 256) (hlim : S.ps.length < S.lim) : Left F0 p w0 { S with ps := S.ps ++ [q] } (W3.setCell ⟨p, 1, none⟩ (.slice (some ⟨g3, 0, none⟩) m cap3)) := by
  have hpl := D.lt
  have hsz := M2.size
  have hR3 : Row W3 p _ 81 := (R.after M2).of (G3.block p (Nat.lt_of_lt_of_le hpl hsz) (fun e => (P1.foot p e.symm).2.1 rfl))
  have hg3 : g3 ≠ p ∧ v2.ownBlock ≠ some g3 ∧ (F g3 ∨ w.heap.size ≤ g3) := by
    rcases Q3.foot g3 rfl with ⟨h1, h2, h3⟩ | h
    · exact ⟨h2, h3, .inl h1⟩
    · refine ⟨by omega, fun e => ?_, .inr (by omega)⟩
      have := P2.lt e
      omega
  have e : ∀ b, b ≠ p → (W3.setCell ⟨p, 1, none⟩ (.slice (some ⟨g3, 0, none⟩) m cap3)).heap[b]? = W3.heap[b]? := fun b hb => Below.heap_setCell _ _ _ _ hb
  have hF : ∀ g, F g ∨ w.heap.size ≤ g → F0 g ∨ w0.heap.size ≤ g := fun g h => by
    rcases h with h | h
    · exact S0.foot g h
    · exact .inr (Nat.le_trans S0.size h)
  refine ⟨Wide F0 w0 (W3.setCell ⟨p, 1, none⟩ (.slice (some ⟨g3, 0, none⟩) m cap3)), Disk.build (F := F0) (w := w0) (v1 := .slice (some ⟨g3, 0, none⟩) m cap3) (v2 := v2) (G1 := fun g => g = g3) (G2 := fun g => v2.ownBlock = some g) h0 ⟨?_, ?_, D.ok.lim, ?_, D.ok.few, D.ok.lo, D.ok.hi⟩ (hR3.set 1 _) ?_ ?_ ?_ ?_, ?_⟩
  · intro x hx
    rcases List.mem_append.1 hx with h | h
    · exact D.ok.page x h
    · obtain rfl : x = q := by simpa using h
      exact hl
  · intro x hx
    have := D.ok.wait x hx
    exact ⟨by show x.1 < (S.ps ++ [q]).length; rw [List.length_append]; omega, this.2⟩
  · show (S.ps ++ [q]).length ≤ S.lim
    rw [List.length_append, List.length_singleton]; omega
  · show Pl _ _ 85 256 _ ((S.ps ++ [q]).map cellsL)
    rw [List.map_append]
    exact (Q3.refoot (G := fun g => g = g3) fun g hg => by cases hg; rfl).of (fun b hb _ => e b (hb ▸ hg3.1)) (fun _ h _ => h)
  · exact ((P2.refoot (G := fun g => v2.ownBlock = some g) fun _ h => h).after M2).of (fun b hb hlt => (e b (P2.foot b hb).2.1).trans (G3.block b hlt fun h => (P1.foot b h.symm).2.2 hb)) (fun _ h _ => h)
  · intro g hg
    obtain rfl : g3 = g := by cases hg; rfl
    exact ⟨hF _ hg3.2.2, hg3.1⟩
  · intro g hg
    refine ⟨hF _ (.inl (P2.foot g hg).1), (P2.foot g hg).2.1, fun h => ?_⟩
    have : g3 = g := by cases h; rfl
    exact hg3.2.1 (this ▸ hg)
  · exact (((S0.trans (Step.new M2)).trans (Step.grown G3 fun k hk => (P1.foot k hk).1)).trans (Step.setCell W3 (a := ⟨p, 1, none⟩) D.base _)).widen
theorem Disk.turned {w : World} {F : Nat → Prop} {p : Nat} {v1 v2 : Value} {es1 es2 : List (List Value)} (P1 : Pl w (fun g => F g ∧ g ≠ p) 85 256 v1 es1) (P2 : Pl w (fun g => F g ∧ g ≠ p ∧ v1.ownBlock ≠ some g) 113 257 v2 es2) :
    Pl w (fun g => F g ∧ g ≠ p ∧ v2.ownBlock ≠ some g) 85 256 v1 es1 := P1.refoot fun g hg => ⟨(P1.foot g hg).1, (P1.foot g hg).2, fun h => (P2.foot g h).2.2 hg⟩
theorem built77 : Tryd.prog.built 85 [] = some (cellsL zeros).toArray := by kernel_rfl
theorem info77_size : (Value.agg (cellsL zeros).toArray).cells.size = 256 := by show (cellsL zeros).toArray.size = 256; rw [cellsL_size, zeros_length]
theorem wpList_build_zero {w : World} {ops : Array Oper} {rest : List Oper} {o : Oper} {a : Act} {Q : Exit → Act → World → Prop} (hgd : o.guard = none) (ho : o.op = .build 85 #[]) (h : wpList Tryd.prog ops Q rest (a.put o.dst (.agg (cellsL zeros).toArray)) w) : wpList Tryd.prog ops Q (o :: rest) a w := by
  refine wpList_run hgd _ w ?_ h
  unfold execOp
  simp only [ho, List.map_toArray, List.map_nil, Sem.run_bind, run_build w 85 #[] _ built77, Result.andThen_ok, Sem.run_pure]
theorem growTo_length {ps : List (List UInt8)} {m : Nat} (h : ps.length ≤ m) : (growTo ps m).length = m := by unfold growTo; rw [List.length_append, List.length_replicate]; omega
theorem growTo_next {ps : List (List UInt8)} {m : Nat} (h : ps.length ≤ m) : growTo ps m ++ [zeros] = growTo ps (m + 1) := by
  unfold growTo
  rw [show m + 1 - ps.length = (m - ps.length) + 1 by omega, List.replicate_succ', List.append_assoc]
theorem growTo_same {ps : List (List UInt8)} {m : Nat} (h : m ≤ ps.length) : growTo ps m = ps := by unfold growTo; rw [show m - ps.length = 0 by omega]; simp
/-- How long the file is, by its cell. -/
def longAt (w : World) (p : Nat) : Nat := match w.cell? ⟨p, 1, none⟩ with | some (.slice _ l _) => l | _ => 0

end Go.Proofs.YtkcoclpbkealgaaDoor
