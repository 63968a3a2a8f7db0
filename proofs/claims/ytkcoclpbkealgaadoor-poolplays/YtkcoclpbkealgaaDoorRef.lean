/-
  The document's own disk in memory.
-/
import Derived.Test.YtkcoclpbkealgaaDoorRefFrom
import Derived.Test.YtkcoclpbkealgaaDoorSegs
namespace Go.Proofs.YtkcoclpbkealgaaDoor
open Go.RowKit
set_option maxRecDepth 20000

structure Rd (w : World) (F : Nat → Prop) (p : Nat) (S : St) : Prop where
  ok : Ok S
  base : F p
  inside : ∀ b, F b → b < w.heap.size
  has : ∃ v1 v2, Row w p #[.int .i64 (S.lim : Int), v1, v2, .int .i64 S.fuse, .bool S.down] 63 ∧ Pl w (fun g => F g ∧ g ≠ p) 9 1 v1 (S.ps.map textL) ∧ Pl w (fun g => F g ∧ g ≠ p ∧ v1.ownBlock ≠ some g) 76 2 v2 (S.ws.map tellL)

theorem Rd.of {w w' : World} {F : Nat → Prop} {p : Nat} {S : St} (h : Rd w F p S) (e : ∀ b, F b → w'.heap[b]? = w.heap[b]?) (hs : w.heap.size ≤ w'.heap.size) : Rd w' F p S := by
  obtain ⟨v1, v2, R, h1, h2⟩ := h.has
  exact ⟨h.ok, h.base, fun b hb => Nat.lt_of_lt_of_le (h.inside b hb) hs, v1, v2, R.of (e p h.base), h1.of (fun b hb _ => e b hb.1) (fun _ h _ => h), h2.of (fun b hb _ => e b hb.1) (fun _ h _ => h)⟩

theorem Rd.after {w w' : World} {F : Nat → Prop} {p : Nat} {S : St} (h : Rd w F p S) (n : New w w') : Rd w' F p S := h.of (fun b hb => n.block b (h.inside b hb)) n.size

theorem Rd.apart {w w' : World} {F G G' : Nat → Prop} {p : Nat} {S : St} (h : Rd w F p S) (k : Step G G' w w') (hd : ∀ b, F b → ¬ G b) : Rd w' F p S := h.of (fun b hb => k.block b (h.inside b hb) (hd b hb)) k.size

theorem Rd.lt {w : World} {F : Nat → Prop} {p : Nat} {S : St} (h : Rd w F p S) : p < w.heap.size := h.inside p h.base

theorem Rd.fuse {w : World} {F : Nat → Prop} {p : Nat} {S : St} (h : Rd w F p S) (n : Int) (h1 : -9223372036854775808 ≤ n) (h2 : n ≤ 9223372036854775807) : Rd (w.setCell ⟨p, 3, none⟩ (.int .i64 n)) F p { S with fuse := n } := by
  obtain ⟨v1, v2, R, r1, r2⟩ := h.has
  have e : ∀ b, b ≠ p → (w.setCell ⟨p, 3, none⟩ (.int .i64 n)).heap[b]? = w.heap[b]? := fun b hb => Below.heap_setCell _ _ _ _ hb
  exact ⟨⟨h.ok.page, h.ok.wait, h.ok.lim, h.ok.len, h.ok.few, h1, h2⟩, h.base, fun b hb => by simpa [World.setCell] using h.inside b hb, v1, v2, R.set 3 _, r1.of (fun b hb _ => e b hb.2) (fun _ h _ => h), r2.of (fun b hb _ => e b hb.2.1) (fun _ h _ => h)⟩

theorem Rd.down {w : World} {F : Nat → Prop} {p : Nat} {S : St} (h : Rd w F p S) (d : Bool) : Rd (w.setCell ⟨p, 4, none⟩ (.bool d)) F p { S with down := d } := by
  obtain ⟨v1, v2, R, r1, r2⟩ := h.has
  have e : ∀ b, b ≠ p → (w.setCell ⟨p, 4, none⟩ (.bool d)).heap[b]? = w.heap[b]? := fun b hb => Below.heap_setCell _ _ _ _ hb
  exact ⟨⟨h.ok.page, h.ok.wait, h.ok.lim, h.ok.len, h.ok.few, h.ok.lo, h.ok.hi⟩, h.base, fun b hb => by simpa [World.setCell] using h.inside b hb, v1, v2, R.set 4 _, r1.of (fun b hb _ => e b hb.2) (fun _ h _ => h), r2.of (fun b hb _ => e b hb.2.1) (fun _ h _ => h)⟩

theorem Rd.open {w : World} {F : Nat → Prop} {p : Nat} {S : St} (D : Rd w F p S) : ∃ a1 c1 a2 c2,
    w.cell? ⟨p, 0, none⟩ = some (.int .i64 (S.lim : Int)) ∧ w.cell? ⟨p, 1, none⟩ = some (.slice a1 S.ps.length c1) ∧ w.cell? ⟨p, 2, none⟩ = some (.slice a2 S.ws.length c2) ∧ w.cell? ⟨p, 3, none⟩ = some (.int .i64 S.fuse) ∧ w.cell? ⟨p, 4, none⟩ = some (.bool S.down) ∧
    (∀ i, w.frozen? ⟨p, i, none⟩ = false) ∧ Row w p #[.int .i64 (S.lim : Int), .slice a1 S.ps.length c1, .slice a2 S.ws.length c2, .int .i64 S.fuse, .bool S.down] 63 ∧
    Pl w (fun g => F g ∧ g ≠ p) 9 1 (.slice a1 S.ps.length c1) (S.ps.map textL) ∧ Pl w (fun g => F g ∧ g ≠ p ∧ (Value.slice a1 S.ps.length c1).ownBlock ≠ some g) 76 2 (.slice a2 S.ws.length c2) (S.ws.map tellL) := by
  obtain ⟨v1, v2, R, h1, h2⟩ := D.has
  obtain ⟨a1, c1, rfl, _⟩ := h1.form
  obtain ⟨a2, c2, rfl, _⟩ := h2.form
  simp only [List.length_map] at R h1 h2
  refine ⟨a1, c1, a2, c2, ?_, ?_, ?_, ?_, ?_, R.frozen, R, h1, h2⟩ <;> (rw [R.cell]; rfl)

theorem Rd.build {w w' : World} {F G1 G2 : Nat → Prop} {p : Nat} {S : St} {v1 v2 : Value} (hp : F p) (hok : Ok S) (R : Row w' p #[.int .i64 (S.lim : Int), v1, v2, .int .i64 S.fuse, .bool S.down] 63)
    (P1 : Pl w' G1 9 1 v1 (S.ps.map textL)) (P2 : Pl w' G2 76 2 v2 (S.ws.map tellL)) (h1 : ∀ g, v1.ownBlock = some g → (F g ∨ w.heap.size ≤ g) ∧ g ≠ p) (h2 : ∀ g, v2.ownBlock = some g → (F g ∨ w.heap.size ≤ g) ∧ g ≠ p ∧ v1.ownBlock ≠ some g) :
    Rd w' (Wide F w w') p S :=
  ⟨hok, ⟨.inl hp, R.lt⟩, fun _ hb => hb.2, v1, v2, R, P1.refoot fun g hg => ⟨⟨(h1 g hg).1, P1.lt hg⟩, (h1 g hg).2⟩, P2.refoot fun g hg => ⟨⟨(h2 g hg).1, P2.lt hg⟩, (h2 g hg).2⟩⟩

def RLeft (F : Nat → Prop) (p : Nat) (w : World) (S : St) (w' : World) : Prop := ∃ F', Rd w' F' p S ∧ Step F F' w w'

theorem RLeft.refl {w : World} {F : Nat → Prop} {p : Nat} {S : St} (D : Rd w F p S) : RLeft F p w S w := ⟨F, D, Step.refl F w⟩

theorem Rd.addWait {w0 w W2 W3 : World} {F : Nat → Prop} {p : Nat} {S : St} {a1 a2 : Option Addr} {c1 c2 g3 m cap3 : Nat} {n : Nat} {l : List UInt8} (S0 : Step F F w0 w) (D : Rd w F p S)
    (R : Row w p #[.int .i64 (S.lim : Int), .slice a1 S.ps.length c1, .slice a2 S.ws.length c2, .int .i64 S.fuse, .bool S.down] 63)
    (P1 : Pl w (fun g => F g ∧ g ≠ p) 9 1 (.slice a1 S.ps.length c1) (S.ps.map textL)) (P2 : Pl w (fun g => F g ∧ g ≠ p ∧ (Value.slice a1 S.ps.length c1).ownBlock ≠ some g) 76 2 (.slice a2 S.ws.length c2) (S.ws.map tellL))
    (M2 : New w W2) (G3 : W2.grownBy W3 (Value.slice a2 S.ws.length c2).ownBlock) (Q3 : Pl W3 (fun b => (F b ∧ b ≠ p ∧ (Value.slice a1 S.ps.length c1).ownBlock ≠ some b) ∨ W2.heap.size ≤ b) 76 2 (.slice (some ⟨g3, 0, none⟩) m cap3) (S.ws.map tellL ++ [tellL (n, l)]))
    (hn : n < S.ps.length) (hl : l.length = 256) (hfew : S.ws.length < 1000) : RLeft F p w0 { S with ws := S.ws ++ [(n, l)] } (W3.setCell ⟨p, 2, none⟩ (.slice (some ⟨g3, 0, none⟩) m cap3)) := by
  have hpl := D.lt
  have hsz := M2.size
  have hR3 : Row W3 p _ 63 := (R.after M2).of (G3.block p (Nat.lt_of_lt_of_le hpl hsz) (fun e => (P2.foot p e.symm).2.1 rfl))
  have hg3 : g3 ≠ p ∧ (Value.slice a1 S.ps.length c1).ownBlock ≠ some g3 ∧ (F g3 ∨ w.heap.size ≤ g3) := by
    rcases Q3.foot g3 rfl with ⟨h1, h2, h3⟩ | h
    · exact ⟨h2, h3, .inl h1⟩
    · refine ⟨by omega, fun e => ?_, .inr (by omega)⟩
      have := P1.lt e
      omega
  have e : ∀ b, b ≠ p → (W3.setCell ⟨p, 2, none⟩ (.slice (some ⟨g3, 0, none⟩) m cap3)).heap[b]? = W3.heap[b]? := fun b hb => Below.heap_setCell _ _ _ _ hb
  refine ⟨Wide F w0 (W3.setCell ⟨p, 2, none⟩ (.slice (some ⟨g3, 0, none⟩) m cap3)), Rd.build (F := F) (w := w0) (v1 := .slice a1 S.ps.length c1) (v2 := .slice (some ⟨g3, 0, none⟩) m cap3) (G1 := fun g => (Value.slice a1 S.ps.length c1).ownBlock = some g) (G2 := fun g => g = g3) D.base ⟨D.ok.page, ?_, D.ok.lim, D.ok.len, ?_, D.ok.lo, D.ok.hi⟩ (hR3.set 2 _) ?_ ?_ ?_ ?_, ?_⟩
  · intro x hx
    rcases List.mem_append.1 hx with h | h
    · exact D.ok.wait x h
    · obtain rfl : x = (n, l) := by simpa using h
      exact ⟨hn, hl⟩
  · show (S.ws ++ [(n, l)]).length ≤ 1000
    rw [List.length_append, List.length_singleton]; omega
  · exact ((P1.refoot (G := fun g => (Value.slice a1 S.ps.length c1).ownBlock = some g) fun _ h => h).after M2).of (fun b hb hlt => (e b (P1.foot b hb).2).trans (G3.block b hlt fun h => (P2.foot b h.symm).2.2 hb)) (fun _ h _ => h)
  · show Pl _ _ 76 2 _ ((S.ws ++ [(n, l)]).map tellL)
    rw [List.map_append]
    exact (Q3.refoot (G := fun g => g = g3) fun g hg => by cases hg; rfl).of (fun b hb _ => e b (hb ▸ hg3.1)) (fun _ h _ => h)
  · exact fun g hg => ⟨.inl (P1.foot g hg).1, (P1.foot g hg).2⟩
  · intro g hg
    obtain rfl : g3 = g := by cases hg; rfl
    exact ⟨hg3.2.2.imp id fun h => Nat.le_trans S0.size h, hg3.1, hg3.2.1⟩
  · exact (((S0.trans (Step.new M2)).trans (Step.grown G3 fun k hk => (P2.foot k hk).1)).trans (Step.setCell W3 D.base _)).widen

theorem Rd.addPage {w0 w W2 W3 : World} {F F0 : Nat → Prop} {p : Nat} {S : St} {v1 v2 : Value} {g3 m cap3 : Nat} {q : List UInt8} (S0 : Step F0 F w0 w) (h0 : F0 p) (D : Rd w F p S)
    (R : Row w p #[.int .i64 (S.lim : Int), v1, v2, .int .i64 S.fuse, .bool S.down] 63)
    (P2 : Pl w (fun g => F g ∧ g ≠ p ∧ v1.ownBlock ≠ some g) 76 2 v2 (S.ws.map tellL)) (P1 : Pl w (fun g => F g ∧ g ≠ p ∧ v2.ownBlock ≠ some g) 9 1 v1 (S.ps.map textL))
    (M2 : New w W2) (G3 : W2.grownBy W3 v1.ownBlock) (Q3 : Pl W3 (fun b => (F b ∧ b ≠ p ∧ v2.ownBlock ≠ some b) ∨ W2.heap.size ≤ b) 9 1 (.slice (some ⟨g3, 0, none⟩) m cap3) (S.ps.map textL ++ [textL q]))
    (hl : q.length = 256) (hlim : S.ps.length < S.lim) : RLeft F0 p w0 { S with ps := S.ps ++ [q] } (W3.setCell ⟨p, 1, none⟩ (.slice (some ⟨g3, 0, none⟩) m cap3)) := by
  have hpl := D.lt
  have hsz := M2.size
  have hR3 : Row W3 p _ 63 := (R.after M2).of (G3.block p (Nat.lt_of_lt_of_le hpl hsz) (fun e => (P1.foot p e.symm).2.1 rfl))
  have hg3 : g3 ≠ p ∧ v2.ownBlock ≠ some g3 ∧ (F g3 ∨ w.heap.size ≤ g3) := by
    rcases Q3.foot g3 rfl with ⟨h1, h2, h3⟩ | h
    · exact ⟨h2, h3, .inl h1⟩
    · refine ⟨by omega, fun e => ?_, .inr (by omega)⟩
      have := P2.lt e
      omega
  have e : ∀ b, b ≠ p → (W3.setCell ⟨p, 1, none⟩ (.slice (some ⟨g3, 0, none⟩) m cap3)).heap[b]? = W3.heap[b]? := fun b hb => Below.heap_setCell _ _ _ _ hb
  have hF : ∀ g, F g ∨ w.heap.size ≤ g → F0 g ∨ w0.heap.size ≤ g := fun g h => by
    rcases h with h | h
    · exact S0.foot g h
    · exact .inr (Nat.le_trans S0.size h)
  refine ⟨Wide F0 w0 (W3.setCell ⟨p, 1, none⟩ (.slice (some ⟨g3, 0, none⟩) m cap3)), Rd.build (F := F0) (w := w0) (v1 := .slice (some ⟨g3, 0, none⟩) m cap3) (v2 := v2) (G1 := fun g => g = g3) (G2 := fun g => v2.ownBlock = some g) h0 ⟨?_, ?_, D.ok.lim, ?_, D.ok.few, D.ok.lo, D.ok.hi⟩ (hR3.set 1 _) ?_ ?_ ?_ ?_, ?_⟩
  · intro x hx
    rcases List.mem_append.1 hx with h | h
    · exact D.ok.page x h
    · obtain rfl : x = q := by simpa using h
      exact hl
  · intro x hx
    have := D.ok.wait x hx
    exact ⟨by show x.1 < (S.ps ++ [q]).length; rw [List.length_append]; omega, this.2⟩
  · show (S.ps ++ [q]).length ≤ S.lim
    rw [List.length_append, List.length_singleton]; omega
  · show Pl _ _ 9 1 _ ((S.ps ++ [q]).map textL)
    rw [List.map_append]
    exact (Q3.refoot (G := fun g => g = g3) fun g hg => by cases hg; rfl).of (fun b hb _ => e b (hb ▸ hg3.1)) (fun _ h _ => h)
  · exact ((P2.refoot (G := fun g => v2.ownBlock = some g) fun _ h => h).after M2).of (fun b hb hlt => (e b (P2.foot b hb).2.1).trans (G3.block b hlt fun h => (P1.foot b h.symm).2.2 hb)) (fun _ h _ => h)
  · intro g hg
    obtain rfl : g3 = g := by cases hg; rfl
    exact ⟨hF _ hg3.2.2, hg3.1⟩
  · intro g hg
    refine ⟨hF _ (.inl (P2.foot g hg).1), (P2.foot g hg).2.1, fun h => ?_⟩
    have : g3 = g := by cases h; rfl
    exact hg3.2.1 (this ▸ hg)
  · exact (((S0.trans (Step.new M2)).trans (Step.grown G3 fun k hk => (P1.foot k hk).1)).trans (Step.setCell W3 (a := ⟨p, 1, none⟩) D.base _)).widen

theorem Rd.turned {w : World} {F : Nat → Prop} {p : Nat} {v1 v2 : Value} {es1 es2 : List (List Value)} (P1 : Pl w (fun g => F g ∧ g ≠ p) 9 1 v1 es1) (P2 : Pl w (fun g => F g ∧ g ≠ p ∧ v1.ownBlock ≠ some g) 76 2 v2 es2) :
    Pl w (fun g => F g ∧ g ≠ p ∧ v2.ownBlock ≠ some g) 9 1 v1 es1 := P1.refoot fun g hg => ⟨(P1.foot g hg).1, (P1.foot g hg).2, fun h => (P2.foot g h).2.2 hg⟩

theorem Rd.noWait {w : World} {F : Nat → Prop} {p : Nat} {S : St} (h : Rd w F p S) : Rd (w.setCell ⟨p, 2, none⟩ (.slice none 0 0)) F p { S with ws := [] } := by
  obtain ⟨v1, v2, R, r1, r2⟩ := h.has
  have e : ∀ b, b ≠ p → (w.setCell ⟨p, 2, none⟩ (.slice none 0 0)).heap[b]? = w.heap[b]? := fun b hb => Below.heap_setCell _ _ _ _ hb
  exact ⟨⟨h.ok.page, (by intro x hx; cases hx), h.ok.lim, h.ok.len, Nat.zero_le _, h.ok.lo, h.ok.hi⟩, h.base, fun b hb => by simpa [World.setCell] using h.inside b hb, v1, .slice none 0 0, R.set 2 _, r1.of (fun b hb _ => e b hb.2) (fun _ h _ => h), Pl.nil _ _ _ _⟩

theorem Rd.setPage {w W5 W6 : World} {F : Nat → Prop} {p g n c i : Nat} {S : St} {v2 : Value} {q : List UInt8} (D : Rd w F p S) (R : Row w p #[.int .i64 (S.lim : Int), .slice (some ⟨g, 0, none⟩) n c, v2, .int .i64 S.fuse, .bool S.down] 63)
    (P2 : Pl w (fun b => F b ∧ b ≠ p ∧ (Value.slice (some ⟨g, 0, none⟩) n c).ownBlock ≠ some b) 76 2 v2 (S.ws.map tellL)) (N : New w W5) (B : But g W5 W6) (hg : F g ∧ g ≠ p)
    (Q : Pl W6 (fun b => F b ∧ b ≠ p) 9 1 (.slice (some ⟨g, 0, none⟩) n c) ((S.ps.map textL).set i (textL q))) (hq : q.length = 256) : Rd W6 F p { S with ps := S.ps.set i q } ∧ Step F F w W6 := by
  refine ⟨⟨⟨?_, ?_, D.ok.lim, ?_, D.ok.few, D.ok.lo, D.ok.hi⟩, D.base, fun b hb => ?_, .slice (some ⟨g, 0, none⟩) n c, v2, (R.after N).of (B.block p (Ne.symm hg.2)), ?_, ?_⟩, (Step.new N).trans (B.step hg.1)⟩
  · exact set_all (P := fun l => l.length = 256) D.ok.page hq
  · intro x hx
    have := D.ok.wait x hx
    exact ⟨by show x.1 < (S.ps.set i q).length; rw [List.length_set]; exact this.1, this.2⟩
  · show (S.ps.set i q).length ≤ S.lim
    rw [List.length_set]; exact D.ok.len
  · rw [B.size]; exact Nat.lt_of_lt_of_le (D.inside b hb) N.size
  · show Pl _ _ 9 1 _ ((S.ps.set i q).map textL)
    rw [List.map_set]; exact Q
  · exact (P2.after N).of (fun b hb _ => B.block b (fun e => hb.2.2 (by rw [e]; rfl))) (fun _ h _ => h)

end Go.Proofs.YtkcoclpbkealgaaDoor
