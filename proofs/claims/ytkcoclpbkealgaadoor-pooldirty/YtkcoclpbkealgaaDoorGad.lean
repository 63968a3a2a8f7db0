/-
  Rows of pages in memory; a disk in memory; what a call may change.
-/
import Derived.Test.YtkcoclpbkealgaaDoorRows
import Derived.Test.YtkcoclpbkealgaaDoorGaa
import Derived.Test.YtkcoclpbkealgaaDoorGab
import Derived.Deep.AppendLies
import Derived.OwnWalk
import Derived.Laws.BytesString
namespace Go.Proofs.YtkcoclpbkealgaaDoor
open Go.RowKit
set_option maxRecDepth 20000

/-- The bytes as cells; a page that waits; a text; a text that waits. -/
def cellsL (l : List UInt8) : List Value := l.map fun c => Value.int .u8 (c.toNat : Int)
def waitL (x : Nat × List UInt8) : List Value := .int .i64 (x.1 : Int) :: cellsL x.2
def textL (l : List UInt8) : List Value := [.string (bs l)]
def tellL (x : Nat × List UInt8) : List Value := [.int .i64 (x.1 : Int), .string (bs x.2)]
theorem cellsL_length (l : List UInt8) : (cellsL l).length = l.length := by unfold cellsL; simp
theorem cellsL_append (l m : List UInt8) : cellsL (l ++ m) = cellsL l ++ cellsL m := by unfold cellsL; rw [List.map_append]
theorem cellsL_one (l : List UInt8) : ∀ v ∈ cellsL l, v.oneCell' = true := fun v hv => by
  unfold cellsL at hv; obtain ⟨c, _, rfl⟩ := List.mem_map.1 hv; rfl
theorem cellsL_put (l : List UInt8) (o : Nat) (s : List UInt8) : put (cellsL l) o (cellsL s) = cellsL (put l o s) := (put_map _ _ _ _).symm
theorem waitL_one (x : Nat × List UInt8) : ∀ v ∈ waitL x, v.oneCell' = true := fun v hv => by
  unfold waitL at hv
  rcases List.mem_cons.1 hv with rfl | h
  · rfl
  · exact cellsL_one _ v h

/-- A block that is known whole, and may be written. -/
def Row (w : World) (g : Nat) (cs : Array Value) (t : TypeId) : Prop := w.heap[g]? = some (.cells cs t (0, 0))
theorem Row.lt {w : World} {g : Nat} {cs : Array Value} {t : TypeId} (h : Row w g cs t) : g < w.heap.size := (Array.getElem?_eq_some_iff.1 h).1
theorem Row.cell {w : World} {g : Nat} {cs : Array Value} {t : TypeId} (h : Row w g cs t) (j : Nat) : w.cell? ⟨g, j, none⟩ = cs[j]? := cell_of_row w g j cs t (0, 0) h
theorem Row.frozen {w : World} {g : Nat} {cs : Array Value} {t : TypeId} (h : Row w g cs t) (j : Nat) : w.frozen? ⟨g, j, none⟩ = false := frozen_of_row w g j cs t h
theorem Row.alloc {w : World} {g : Nat} {cs : Array Value} {t : TypeId} (h : Row w g cs t) (o : Obj) : Row (w.alloc o) g cs t := (heap_alloc_old w o h.lt).trans h
theorem Row.new (w : World) (cs : Array Value) (t : TypeId) : Row (w.alloc (.cells cs t)) w.heap.size cs t := heap_alloc_new w _
theorem Row.set {w : World} {g : Nat} {cs : Array Value} {t : TypeId} (h : Row w g cs t) (i : Nat) (v : Value) : Row (w.setCell ⟨g, i, none⟩ v) g (cs.setIfInBounds i v) t := heap_setCell_same w g i cs t v h
theorem Row.of {w w' : World} {g : Nat} {cs : Array Value} {t : TypeId} (h : Row w g cs t) (e : w'.heap[g]? = w.heap[g]?) : Row w' g cs t := e.trans h
theorem Row.after {w w' : World} {g : Nat} {cs : Array Value} {t : TypeId} (h : Row w g cs t) (k : New w w') : Row w' g cs t := h.of (k.block g h.lt)

theorem setCells_other (b : Nat) : ∀ (vs : List Value) (o : Nat) (w : World) (k : Nat), k ≠ b → (w.setCells b o vs).heap[k]? = w.heap[k]?
  | [], _, _, _, _ => rfl
  | v :: r, o, w, k, h => by rw [World.setCells, setCells_other b r (o + 1) _ k h, Below.heap_setCell _ _ _ _ h]
theorem setCells_size (b : Nat) : ∀ (vs : List Value) (o : Nat) (w : World), (w.setCells b o vs).heap.size = w.heap.size
  | [], _, _ => rfl
  | v :: r, o, w => by rw [World.setCells, setCells_size b r (o + 1) _]; simp [World.setCell]
theorem setCells_rest (b : Nat) : ∀ (vs : List Value) (o : Nat) (w : World), (w.setCells b o vs).os = w.os ∧ (w.setCells b o vs).tape = w.tape ∧ (w.setCells b o vs).output = w.output
  | [], _, _ => ⟨rfl, rfl, rfl⟩
  | v :: r, o, w => by rw [World.setCells]; exact setCells_rest b r (o + 1) _
theorem Row.setCells {g : Nat} {t : TypeId} : ∀ (vs : List Value) (o : Nat) (w : World) (cs : Array Value), Row w g cs t → o + vs.length ≤ cs.size → Row (w.setCells g o vs) g (put cs.toList o vs).toArray t
  | [], o, w, cs, h, _ => by rw [put_nil]; exact h
  | v :: r, o, w, cs, h, hl => by
    simp only [List.length_cons] at hl
    rw [World.setCells, put_cons _ _ _ _ (by simp; omega)]
    have := Row.setCells r (o + 1) (w.setCell ⟨g, o, none⟩ v) _ (h.set o v) (by simp; omega)
    rw [Array.toList_setIfInBounds] at this
    exact this
theorem New.setCells {w w' : World} (h : New w w') {b : Nat} (hb : w.heap.size ≤ b) (o : Nat) (vs : List Value) : New w (w'.setCells b o vs) := by
  obtain ⟨h1, h2, h3⟩ := setCells_rest b vs o w'
  exact ⟨h1.trans h.os, h2.trans h.tape, h3.trans h.output, by rw [setCells_size]; exact h.size, fun k hk => (setCells_other b vs o w' k (by omega)).trans (h.block k hk)⟩
theorem New.setCell {w w' : World} (h : New w w') {a : Addr} (hb : w.heap.size ≤ a.block) (v : Value) : New w (w'.setCell a v) := Below.setCell h hb v
theorem New.grown {w w1 w2 : World} {row : Option Nat} (h : New w w1) (hg : w1.grownBy w2 row) (hr : ∀ k, row = some k → w.heap.size ≤ k) : New w w2 := Below.grown h hg h.size hr

/-- A slice of the call's own: its elements, k cells each. -/
structure Pl (w : World) (F : Nat → Prop) (t : TypeId) (k : Nat) (v : Value) (es : List (List Value)) : Prop where
  each : ∀ e ∈ es, e.length = k
  own : w.ownsRow 0 t k v es.length es.flatten
  foot : ∀ g, v.ownBlock = some g → F g
theorem Pl.nil (w : World) (F : Nat → Prop) (t : TypeId) (k : Nat) : Pl w F t k (.slice none 0 0) [] := ⟨fun _ h => by simp at h, World.ownsRow_nil _ _ _ _, fun _ h => by cases h⟩
theorem Pl.lt {w : World} {F : Nat → Prop} {t : TypeId} {k : Nat} {v : Value} {es : List (List Value)} (h : Pl w F t k v es) {g : Nat} (hg : v.ownBlock = some g) : g < w.heap.size := (h.own.lt g hg).2
theorem Pl.of {w w' : World} {F G : Nat → Prop} {t : TypeId} {k : Nat} {v : Value} {es : List (List Value)} (h : Pl w F t k v es) (e : ∀ b, F b → b < w.heap.size → w'.heap[b]? = w.heap[b]?) (hG : ∀ b, F b → b < w.heap.size → G b) : Pl w' G t k v es := by
  refine ⟨h.each, ?_, fun g hg => hG g (h.foot g hg) (h.lt hg)⟩
  rcases h.own with ⟨h1, h2 | ⟨g, cap, cur, hv, hb, h3, h4⟩⟩
  · exact ⟨h1, .inl h2⟩
  · subst hv
    exact ⟨h1, .inr ⟨g, cap, cur, rfl, hb, (e g (h.foot g rfl) (Array.getElem?_eq_some_iff.1 h3).1).trans h3, h4⟩⟩
theorem Pl.after {w w' : World} {F : Nat → Prop} {t : TypeId} {k : Nat} {v : Value} {es : List (List Value)} (h : Pl w F t k v es) (n : New w w') : Pl w' F t k v es := h.of (fun b _ hb => n.block b hb) (fun _ h _ => h)
theorem Pl.mono {w : World} {F G : Nat → Prop} {t : TypeId} {k : Nat} {v : Value} {es : List (List Value)} (h : Pl w F t k v es) (hG : ∀ b, F b → b < w.heap.size → G b) : Pl w G t k v es := h.of (fun _ _ _ => rfl) hG
theorem Pl.form {w : World} {F : Nat → Prop} {t : TypeId} {k : Nat} {v : Value} {es : List (List Value)} (h : Pl w F t k v es) : ∃ a c, v = .slice a es.length c ∧ es.length ≤ c := by
  rcases h.own.2 with ⟨rfl, h0⟩ | ⟨g, cap, cur, hv, _, _, hc, _⟩
  · exact ⟨none, 0, by rw [h0], by omega⟩
  · exact ⟨_, cap, hv, hc⟩
theorem Pl.full {w : World} {F : Nat → Prop} {t : TypeId} {k : Nat} {v : Value} {es : List (List Value)} (h : Pl w F t k v es) (hn : 0 < es.length) : ∃ g c, v = .slice (some ⟨g, 0, none⟩) es.length c ∧ F g ∧ g < w.heap.size ∧ es.length ≤ c := by
  rcases h.own.2 with ⟨_, h0⟩ | ⟨g, cap, cur, hv, _, h3, hc, _⟩
  · omega
  · subst hv; exact ⟨g, cap, rfl, h.foot g rfl, (Array.getElem?_eq_some_iff.1 h3).1, hc⟩
theorem flat_cell {k : Nat} {es : List (List Value)} (he : ∀ e ∈ es, e.length = k) {i : Nat} (hi : i < es.length) {j : Nat} (hj : j < k) : es.flatten[i * k + j]? = es[i][j]? := by
  rw [← flat_at i hi he, List.getElem?_take, if_pos hj, List.getElem?_drop]
theorem Pl.range {w : World} {F : Nat → Prop} {t : TypeId} {k g n c : Nat} {es : List (List Value)} (h : Pl w F t k (.slice (some ⟨g, 0, none⟩) n c) es) {i : Nat} (hi : i < es.length) : w.rangeAt g (i * k) es[i] := fun j v hv => by
  have hj : j < k := by rw [← h.each _ (List.getElem_mem hi)]; exact (List.getElem?_eq_some_iff.1 hv).1
  have := h.own.cells (g := g) rfl (i * k + j) v (by rw [flat_cell h.each hi hj]; exact hv)
  rw [Addr.add_mid, Nat.zero_add] at this
  exact this
theorem Pl.row {w : World} {F : Nat → Prop} {t : TypeId} {k g n c : Nat} {es : List (List Value)} (h : Pl w F t k (.slice (some ⟨g, 0, none⟩) n c) es) : ∃ cur, Row w g cur t ∧ n = es.length ∧ n ≤ c ∧ c ≤ maxLen ∧ cur.size = c * k ∧ cur.toList.take (n * k) = es.flatten := by
  rcases h.own.2 with ⟨h0, _⟩ | ⟨g', cap, cur, hv, _, h3, h4, h5, h6, h7⟩
  · cases h0
  · cases hv; exact ⟨cur, h3, rfl, h4, h5, h6, h7⟩
theorem Pl.there {w : World} {F : Nat → Prop} {t : TypeId} {k g n c : Nat} {es : List (List Value)} (h : Pl w F t k (.slice (some ⟨g, 0, none⟩) n c) es) {i : Nat} (hi : i < es.length) : w.there g (i * k) k := fun j hj => by
  obtain ⟨cur, R, _⟩ := h.row
  refine ⟨?_, R.frozen _⟩
  have hr := h.range hi
  have hk := h.each _ (List.getElem_mem hi)
  rw [hr j _ (List.getElem?_eq_getElem (by omega))]; rfl
theorem Pl.make {w : World} {F : Nat → Prop} {t : TypeId} {k g c : Nat} {es : List (List Value)} {cur : Array Value} (he : ∀ e ∈ es, e.length = k) (R : Row w g cur t) (h4 : es.length ≤ c) (h5 : c ≤ maxLen) (h6 : cur.size = c * k) (h7 : cur.toList.take (es.length * k) = es.flatten) (hF : F g) :
    Pl w F t k (.slice (some ⟨g, 0, none⟩) es.length c) es :=
  ⟨he, ⟨flat_length he, .inr ⟨g, c, cur, rfl, Nat.zero_le _, R, h4, h5, h6, h7⟩⟩, fun b hb => by cases hb; exact hF⟩
theorem take_put {α : Type} (l : List α) (o m : Nat) (s : List α) (h : o + s.length ≤ m) (hm : m ≤ l.length) : (put l o s).take m = put (l.take m) o s := by
  apply List.ext_getElem?
  intro j
  rw [List.getElem?_take]
  by_cases hj : j < m
  · rw [if_pos hj]
    by_cases h1 : o ≤ j ∧ j < o + s.length
    · obtain ⟨d, rfl⟩ : ∃ d, j = o + d := ⟨j - o, by omega⟩
      rw [get_put_in _ _ _ (by omega) _ (by omega), get_put_in _ _ _ (by rw [List.length_take]; omega) _ (by omega)]
    · rw [get_put_out _ _ _ (by omega) _ (by omega), get_put_out _ _ _ (by rw [List.length_take]; omega) _ (by omega), List.getElem?_take, if_pos hj]
  · rw [if_neg hj, List.getElem?_eq_none]
    rw [put_length _ _ _ (by rw [List.length_take]; omega), List.length_take]; omega
theorem Pl.set {w : World} {F : Nat → Prop} {t : TypeId} {k g n c : Nat} {es : List (List Value)} (h : Pl w F t k (.slice (some ⟨g, 0, none⟩) n c) es) {i : Nat} (hi : i < es.length) {e : List Value} (he : e.length = k) :
    Pl (w.setCells g (i * k) e) F t k (.slice (some ⟨g, 0, none⟩) n c) (es.set i e) := by
  obtain ⟨cur, R, rfl, h4, h5, h6, h7⟩ := h.row
  have hik : i * k + k ≤ es.length * k := by rw [← Nat.succ_mul]; exact Nat.mul_le_mul_right _ hi
  have hck : es.length * k ≤ c * k := Nat.mul_le_mul_right _ h4
  have := Pl.make (w := w.setCells g (i * k) e) (F := F) (t := t) (k := k) (g := g) (c := c) (es := es.set i e) (cur := (put cur.toList (i * k) e).toArray) ?_ (Row.setCells _ _ _ _ R (by rw [he]; omega)) (by rw [List.length_set]; exact h4) h5
    (by rw [List.size_toArray, put_length _ _ _ (by rw [he, Array.length_toList]; omega), Array.length_toList, h6])
    (by rw [List.length_set, take_put cur.toList (i * k) (es.length * k) e (by rw [he]; exact hik) (by rw [Array.length_toList (xs := cur), h6]; exact hck), h7, flat_set i hi h.each e he]) (h.foot g rfl)
  · rw [List.length_set] at this; exact this
  · intro x hx
    rcases List.mem_or_eq_of_mem_set hx with h1 | rfl
    · exact h.each x h1
    · exact he
theorem Pl.take {w : World} {F : Nat → Prop} {t : TypeId} {k g n c : Nat} {es : List (List Value)} (h : Pl w F t k (.slice (some ⟨g, 0, none⟩) n c) es) {m : Nat} (hm : m ≤ es.length) : Pl w F t k (.slice (some ⟨g, 0, none⟩) m c) (es.take m) := by
  obtain ⟨cur, R, rfl, h4, h5, h6, h7⟩ := h.row
  have hl : (es.take m).length = m := by rw [List.length_take]; omega
  have hmk : m * k ≤ es.length * k := Nat.mul_le_mul_right _ hm
  have := Pl.make (w := w) (F := F) (t := t) (k := k) (g := g) (c := c) (es := es.take m) (cur := cur) (fun x hx => h.each x (List.mem_of_mem_take hx)) R (by omega) h5 h6 (by rw [hl, ← flat_take m h.each, ← h7, List.take_take]; congr 1; omega) (h.foot g rfl)
  rw [hl] at this
  exact this

/-- Of what there was just what is the disk's may have changed; what it has now was its, or is new. -/
structure Step (F F' : Nat → Prop) (w w' : World) : Prop where
  os : w'.os = w.os
  tape : w'.tape = w.tape
  output : w'.output = w.output
  size : w.heap.size ≤ w'.heap.size
  block : ∀ k, k < w.heap.size → ¬ F k → w'.heap[k]? = w.heap[k]?
  foot : ∀ k, F' k → F k ∨ w.heap.size ≤ k
theorem Step.refl (F : Nat → Prop) (w : World) : Step F F w w := ⟨rfl, rfl, rfl, Nat.le_refl _, fun _ _ _ => rfl, fun _ h => .inl h⟩
theorem Step.new {F : Nat → Prop} {w w' : World} (h : New w w') : Step F F w w' := ⟨h.os, h.tape, h.output, h.size, fun k hk _ => h.block k hk, fun _ h => .inl h⟩
theorem Step.trans {F F' F'' : Nat → Prop} {w w1 w2 : World} (h : Step F F' w w1) (k : Step F' F'' w1 w2) : Step F F'' w w2 :=
  ⟨k.os.trans h.os, k.tape.trans h.tape, k.output.trans h.output, Nat.le_trans h.size k.size, fun i hi hn =>
    (k.block i (Nat.lt_of_lt_of_le hi h.size) (fun h1 => (h.foot i h1).elim hn (by omega))).trans (h.block i hi hn), fun i hi => by
      rcases k.foot i hi with h1 | h1
      · exact h.foot i h1
      · exact .inr (Nat.le_trans h.size h1)⟩
theorem Step.setCell {F : Nat → Prop} (w : World) {a : Addr} (ha : F a.block) (v : Value) : Step F F w (w.setCell a v) :=
  ⟨rfl, rfl, rfl, by simp [World.setCell], fun k _ hn => Below.heap_setCell _ _ _ _ (fun e => hn (e ▸ ha)), fun _ h => .inl h⟩
theorem Step.setCells {F : Nat → Prop} (w : World) {b : Nat} (ha : F b) (o : Nat) (vs : List Value) : Step F F w (w.setCells b o vs) := by
  obtain ⟨h1, h2, h3⟩ := setCells_rest b vs o w
  exact ⟨h1, h2, h3, by rw [setCells_size]; exact Nat.le_refl _, fun k _ hn => setCells_other b vs o w k (fun e => hn (e ▸ ha)), fun _ h => .inl h⟩
theorem Step.grown {F : Nat → Prop} {w w' : World} {row : Option Nat} (hg : w.grownBy w' row) (hr : ∀ k, row = some k → F k) : Step F F w w' :=
  ⟨hg.os, hg.tape, hg.output, hg.size, fun k hk hn => hg.block k hk (fun e => hn (hr k e.symm)), fun _ h => .inl h⟩
theorem Step.wide {F F' G : Nat → Prop} {w w' : World} (h : Step F F' w w') (hG : ∀ k, G k → F k ∨ w.heap.size ≤ k) : Step F G w w' := ⟨h.os, h.tape, h.output, h.size, h.block, hG⟩
theorem Step.below {F F' : Nat → Prop} {w0 w w' : World} {B : Nat} (h : Step F F' w w') (k : Below B w0 w) (hB : B ≤ w.heap.size) (hF : ∀ b, F b → B ≤ b) : Below B w0 w' ∧ (∀ b, F' b → B ≤ b) ∧ B ≤ w'.heap.size :=
  ⟨k.trans ⟨h.os, h.tape, h.output, h.size, fun i hi => h.block i (by omega) (fun h1 => by have := hF i h1; omega)⟩, fun b hb => (h.foot b hb).elim (hF b) (by omega), Nat.le_trans hB h.size⟩

/-- A disk in memory. -/
structure Disk (w : World) (F : Nat → Prop) (p : Nat) (S : St) : Prop where
  ok : Ok S
  base : F p
  inside : ∀ b, F b → b < w.heap.size
  has : ∃ v1 v2, Row w p #[.int .i64 (S.lim : Int), v1, v2, .int .i64 S.fuse, .bool S.down] 81 ∧ Pl w (fun g => F g ∧ g ≠ p) 85 256 v1 (S.ps.map cellsL) ∧ Pl w (fun g => F g ∧ g ≠ p ∧ v1.ownBlock ≠ some g) 113 257 v2 (S.ws.map waitL)
theorem Disk.of {w w' : World} {F : Nat → Prop} {p : Nat} {S : St} (h : Disk w F p S) (e : ∀ b, F b → w'.heap[b]? = w.heap[b]?) (hs : w.heap.size ≤ w'.heap.size) : Disk w' F p S := by
  obtain ⟨v1, v2, R, h1, h2⟩ := h.has
  exact ⟨h.ok, h.base, fun b hb => Nat.lt_of_lt_of_le (h.inside b hb) hs, v1, v2, R.of (e p h.base), h1.of (fun b hb _ => e b hb.1) (fun _ h _ => h), h2.of (fun b hb _ => e b hb.1) (fun _ h _ => h)⟩
theorem Disk.after {w w' : World} {F : Nat → Prop} {p : Nat} {S : St} (h : Disk w F p S) (n : New w w') : Disk w' F p S := h.of (fun b hb => n.block b (h.inside b hb)) n.size
/-- Another disk's call leaves it alone. -/
theorem Disk.apart {w w' : World} {F G G' : Nat → Prop} {p : Nat} {S : St} (h : Disk w F p S) (k : Step G G' w w') (hd : ∀ b, F b → ¬ G b) : Disk w' F p S := h.of (fun b hb => k.block b (h.inside b hb) (hd b hb)) k.size
theorem Disk.lt {w : World} {F : Nat → Prop} {p : Nat} {S : St} (h : Disk w F p S) : p < w.heap.size := h.inside p h.base
/-- One of its own cells is told another value. -/
theorem Disk.fuse {w : World} {F : Nat → Prop} {p : Nat} {S : St} (h : Disk w F p S) (n : Int) (h1 : -9223372036854775808 ≤ n) (h2 : n ≤ 9223372036854775807) : Disk (w.setCell ⟨p, 3, none⟩ (.int .i64 n)) F p { S with fuse := n } := by
  obtain ⟨v1, v2, R, r1, r2⟩ := h.has
  have e : ∀ b, b ≠ p → (w.setCell ⟨p, 3, none⟩ (.int .i64 n)).heap[b]? = w.heap[b]? := fun b hb => Below.heap_setCell _ _ _ _ hb
  exact ⟨⟨h.ok.page, h.ok.wait, h.ok.lim, h.ok.len, h.ok.few, h1, h2⟩, h.base, fun b hb => by simpa [World.setCell] using h.inside b hb, v1, v2, R.set 3 _, r1.of (fun b hb _ => e b hb.2) (fun _ h _ => h), r2.of (fun b hb _ => e b hb.2.1) (fun _ h _ => h)⟩
theorem Disk.down {w : World} {F : Nat → Prop} {p : Nat} {S : St} (h : Disk w F p S) (d : Bool) : Disk (w.setCell ⟨p, 4, none⟩ (.bool d)) F p { S with down := d } := by
  obtain ⟨v1, v2, R, r1, r2⟩ := h.has
  have e : ∀ b, b ≠ p → (w.setCell ⟨p, 4, none⟩ (.bool d)).heap[b]? = w.heap[b]? := fun b hb => Below.heap_setCell _ _ _ _ hb
  exact ⟨⟨h.ok.page, h.ok.wait, h.ok.lim, h.ok.len, h.ok.few, h.ok.lo, h.ok.hi⟩, h.base, fun b hb => by simpa [World.setCell] using h.inside b hb, v1, v2, R.set 4 _, r1.of (fun b hb _ => e b hb.2) (fun _ h _ => h), r2.of (fun b hb _ => e b hb.2.1) (fun _ h _ => h)⟩

theorem info5 : (Tryd.prog.info? 5).map (fun i => (i.zero, i.size, i.bytes)) = some (some (.int .u8 0), 1, 1) := by kernel_rfl
theorem i77 : (Tryd.prog.info? 85).map (·.size) = some 256 := by kernel_rfl
theorem i75 : (Tryd.prog.info? 83).map (·.size) = some 64 := by kernel_rfl
theorem i80 : (Tryd.prog.info? 113).map (·.size) = some 257 := by kernel_rfl
theorem info77 : (Tryd.prog.info? 85).map (fun i => (i.zero, i.size, i.bytes)) = some (some (.agg (cellsL zeros).toArray), 256, 256) := by kernel_rfl
theorem info80 : (Tryd.prog.info? 113).map (fun i => (i.zero, i.size, i.bytes)) = some (some (.agg (waitL (0, zeros)).toArray), 257, 264) := by kernel_rfl
theorem ret_int {a b : Int} (h : a = b) : Ending.returned (.int .i64 a) = .returned (.int .i64 b) := by rw [h]
theorem ret_bool {a b : Bool} (h : a = b) : Ending.returned (.bool a) = .returned (.bool b) := by rw [h]
theorem ret_str {a b : ByteArray} (h : a = b) : Ending.returned (.string a) = .returned (.string b) := by rw [h]

end Go.Proofs.YtkcoclpbkealgaaDoor
