/-
  What the document's own disk leaves behind Grow and Shrink.
-/
import Derived.Test.YtkcoclpbkealgaaDoorRefC
namespace Go.Proofs.YtkcoclpbkealgaaDoor
open Go.RowKit
set_option maxRecDepth 20000

/-- A new row of zeros, as a text. -/
theorem zero_text (w : World) : ∃ W, (Instr.makeSlice 22 (.int .i64 256) (.int .i64 256)).run Tryd.prog w = .ok (.slice (some ⟨w.heap.size, 0, none⟩) 256 256) W ∧ New w W ∧ (convert 22 9 (.slice (some ⟨w.heap.size, 0, none⟩) 256 256)).run Tryd.prog W = .ok (.string (bs zeros)) W := by
  obtain ⟨i0, hi0, hz0, hz1, hz2⟩ := info_parts info5
  have hmk := run_make (P := Tryd.prog) w 22 5 i0 _ Tryd.underlying22 hi0 hz0 .i64 .i64 256 256 (by omega) (by omega) (by rw [hz2]; omega) (by omega)
  have hrow : madeCells (Value.int .u8 0).cells ((256 : Int).toNat * i0.size) = (cellsL zeros).toArray := by
    rw [hz1]
    apply Array.ext'
    show (madeCells #[Value.int .u8 0] 256).toList = _
    rw [toList_madeCells_one]
    unfold cellsL zeros
    rw [List.map_replicate]; rfl
  rw [hrow] at hmk
  have R0 := Row.new w (cellsL zeros).toArray 5
  refine ⟨_, hmk, (New.refl w).alloc _, ?_⟩
  have hc := run_convert_bytes_back (w.alloc (.cells (cellsL zeros).toArray 5)) 22 9 5 ⟨w.heap.size, 0, none⟩ 256 zeros Tryd.underlying22 Tryd.underlying5 Tryd.underlying9 (fun j hj => by
    rw [Addr.add_mid, Nat.zero_add, R0.cell, List.getElem?_toArray]
    exact cellsL_get (List.getElem?_eq_getElem hj))
  rw [zeros_length] at hc
  exact hc

theorem takes_app {α β : Type} (f : α → β) (ws : List α) (q : α → Bool) (d : α) {i : Nat} (h : i < ws.length) : ((ws.take (i + 1)).filter q).map f = ((ws.take i).filter q).map f ++ (if q (ws.getD i d) then [f (ws.getD i d)] else []) := by
  rw [take_next ws d h, List.filter_append, List.map_append]
  congr 1
  by_cases hq : q (ws.getD i d) = true
  · rw [if_pos hq, List.filter_cons_of_pos hq]; rfl
  · rw [if_neg hq, List.filter_cons_of_neg hq]; rfl

theorem Pl.cases {w : World} {F : Nat → Prop} {t : TypeId} {k : Nat} {v : Value} {es : List (List Value)} (h : Pl w F t k v es) : (v = .slice none 0 0 ∧ es = []) ∨ ∃ g c, v = .slice (some ⟨g, 0, none⟩) es.length c ∧ es.length ≤ c := by
  rcases h.own.2 with ⟨h1, h2⟩ | ⟨g, cap, cur, hv, _, _, hc, _⟩
  · exact .inl ⟨h1, List.eq_nil_of_length_eq_zero h2⟩
  · exact .inr ⟨g, cap, hv, hc⟩
theorem Rd.rebuilt {w0 w W wr : World} {F : Nat → Prop} {p : Nat} {S : St} {v1 v2 v v6 : Value} {ps : List (List UInt8)} {ws : List (Nat × List UInt8)} (S0 : Step F F w0 w) (D : Rd w F p S) (R : Row w p #[.int .i64 (S.lim : Int), v1, v2, .int .i64 S.fuse, .bool S.down] 63) (N : New w W) (Q1 : Pl W (Fresh w) 9 1 v (ps.map textL))
    (N' : New (W.setCell ⟨p, 1, none⟩ v) wr) (Q2 : Pl wr (Fresh (W.setCell ⟨p, 1, none⟩ v)) 76 2 v6 (ws.map tellL)) (hok : Ok { S with ps := ps, ws := ws }) : RLeft F p w0 { S with ps := ps, ws := ws } (wr.setCell ⟨p, 2, none⟩ v6) := by
  have hpl := D.lt
  have hsz := N.size
  have hs1 : (W.setCell ⟨p, 1, none⟩ v).heap.size = W.heap.size := by simp [World.setCell]
  have R4 : Row (W.setCell ⟨p, 1, none⟩ v) p #[.int .i64 (S.lim : Int), v, v2, .int .i64 S.fuse, .bool S.down] 63 := (R.after N).set 1 v
  have e : ∀ b, b ≠ p → (wr.setCell ⟨p, 2, none⟩ v6).heap[b]? = wr.heap[b]? := fun b hb => Below.heap_setCell _ _ _ _ hb
  have f : ∀ b, b ≠ p → (W.setCell ⟨p, 1, none⟩ v).heap[b]? = W.heap[b]? := fun b hb => Below.heap_setCell _ _ _ _ hb
  have hn : ∀ g, v.ownBlock = some g → w.heap.size ≤ g ∧ g < W.heap.size := fun g hg => ⟨Q1.foot g hg, Q1.lt hg⟩
  have hn6 : ∀ g, v6.ownBlock = some g → W.heap.size ≤ g := fun g hg => by have := Q2.foot g hg; unfold Fresh at this; omega
  refine ⟨Wide F w0 _, Rd.build (F := F) (w := w0) (v1 := v) (v2 := v6) (G1 := fun g => v.ownBlock = some g) (G2 := fun g => v6.ownBlock = some g) D.base hok ((R4.after N').set 2 _) ?_ ?_ ?_ ?_, ?_⟩
  · have Q1' : Pl (W.setCell ⟨p, 1, none⟩ v) (fun g => v.ownBlock = some g) 9 1 v (ps.map textL) := (Q1.refoot (G := fun g => v.ownBlock = some g) fun _ h => h).of (fun b hb _ => f b (by have := (hn b hb).1; omega)) (fun _ h _ => h)
    exact (Q1'.after N').of (fun b hb _ => e b (by have := (hn b hb).1; omega)) (fun _ h _ => h)
  · exact (Q2.refoot (G := fun g => v6.ownBlock = some g) fun _ h => h).of (fun b hb _ => e b (by have := hn6 b hb; omega)) (fun _ h _ => h)
  · intro g hg
    have := (hn g hg).1
    exact ⟨.inr (Nat.le_trans S0.size this), by omega⟩
  · intro g hg
    have := hn6 g hg
    exact ⟨.inr (Nat.le_trans S0.size (Nat.le_trans hsz this)), by omega, fun h => by have := (hn g h).2; omega⟩
  · exact ((((S0.trans (Step.new N)).trans (Step.setCell W (a := ⟨p, 1, none⟩) D.base _)).trans (Step.new N')).trans (Step.setCell _ (a := ⟨p, 2, none⟩) D.base _)).widen
theorem Ok.shrunk {S : St} (h : Ok S) (k : Nat) (hk : k ≤ S.ps.length) : Ok { S with ps := S.ps.take k, ws := S.ws.filter fun x => decide (x.1 < k) } := by
  have hl : (S.ps.take k).length = k := by rw [List.length_take]; omega
  refine ⟨fun q hq => h.page q (List.mem_of_mem_take hq), fun x hx => ?_, h.lim, ?_, ?_, h.lo, h.hi⟩
  · obtain ⟨h1, h2⟩ := List.mem_filter.1 hx
    exact ⟨by show x.1 < (S.ps.take k).length; rw [hl]; simpa using h2, (h.wait x h1).2⟩
  · show (S.ps.take k).length ≤ S.lim
    have := h.len
    omega
  · show (S.ws.filter _).length ≤ 1000
    exact Nat.le_trans (List.length_filter_le _ _) h.few
theorem text_cells {w : World} {F : Nat → Prop} {g n c : Nat} {ps : List (List UInt8)} (h : Pl w F 9 1 (.slice (some ⟨g, 0, none⟩) n c) (ps.map textL)) (k : Nat) (hk : k ≤ ps.length) :
    0 < ((ps.take k).map fun t => Value.string (bs t)).length → ∃ x, some (⟨g, 0, none⟩ : Addr) = some x ∧ ∀ j u, ((ps.take k).map fun t => Value.string (bs t))[j]? = some u → w.cell? (x.add j) = some u := fun _ => by
  refine ⟨_, rfl, fun j u hu => ?_⟩
  rw [List.getElem?_map] at hu
  have hj : j < k := by
    rcases Nat.lt_or_ge j (ps.take k).length with h' | h'
    · rw [List.length_take] at h'; omega
    · rw [List.getElem?_eq_none h'] at hu; cases hu
  rw [List.getElem?_take, if_pos hj, List.getElem?_eq_getElem (by omega)] at hu
  cases hu
  rw [Addr.add_mid, Nat.zero_add, h.text (by omega), List.getD_eq_getElem?_getD, List.getElem?_eq_getElem (by omega)]; rfl
theorem texts_map (l : List (List UInt8)) : (l.map fun t => Value.string (bs t)).map (fun u => [u]) = l.map textL := by rw [List.map_map]; rfl

end Go.Proofs.YtkcoclpbkealgaaDoor
