/-
  The document's own pool in memory; which frame has a page; the pages it holds. The document's own pool finds a frame. The document's own Fetch, Unpin, Put.
-/
import Derived.Test.YtkcoclpbkealgaaDoorGas
import Derived.Test.YtkcoclpbkealgaaDoorGat
import Derived.Test.YtkcoclpbkealgaaDoorGai
namespace Go.Proofs.YtkcoclpbkealgaaDoor
open Go.RowKit
set_option maxRecDepth 20000

/-- Its number, or -1. -/
def rAt (f : Fm) : Int := if f.data = [] then -1 else (f.at_ : Int)
def rfL (f : Fm) : List Value := [.int .i64 (rAt f), .string (bs f.data), .int .i64 (f.pins : Int), .bool f.dirty, .bool f.used]
theorem rfL_length (f : Fm) : (rfL f).length = 5 := rfl
def rawL (a : Int) (t : List UInt8) (n : Nat) (d u : Bool) : List Value := [.int .i64 a, .string (bs t), .int .i64 (n : Int), .bool d, .bool u]
theorem rawL_one (a : Int) (t : List UInt8) (n : Nat) (d u : Bool) : ∀ v ∈ rawL a t n d u, v.oneCell' = true := fun v hv => by
  simp only [rawL, List.mem_cons, List.not_mem_nil, or_false] at hv
  rcases hv with rfl | rfl | rfl | rfl | rfl <;> rfl
theorem i97 : (Tryd.prog.info? 97).map (·.size) = some 5 := by kernel_rfl
theorem info97 : (Tryd.prog.info? 97).map (fun i => (i.zero, i.size, i.bytes)) = some (some (.agg (fmL noFm).toArray), 5, 40) := by kernel_rfl

/-- Its blocks and its disk's. -/
def rown (p g : Nat) (G : Nat → Prop) (k : Nat) : Prop := k = p ∨ k = g ∨ G k
structure RP (w : World) (m p g c q : Nat) (G : Nat → Prop) (T : PS) : Prop where
  inv : Inv T
  row : Row w p #[.pointer (some ⟨q, 0, none⟩), .slice (some ⟨g, 0, none⟩) T.fs.length c, .int .i64 (T.hand : Int)] 95
  pl : Pl w (fun x => x = g) 97 5 (.slice (some ⟨g, 0, none⟩) T.fs.length c) (T.fs.map rfL)
  disk : Rd w G q T.d
  pg : p ≠ g
  np : ¬ G p
  ng : ¬ G g
  pins : ∀ f ∈ T.fs, f.pins ≤ m
  room : T.d.ws.length + nd T.fs ≤ m
def RPL (p g c q : Nat) (G : Nat → Prop) (m : Nat) (w : World) (T : PS) (w' : World) : Prop := ∃ G', RP w' m p g c q G' T ∧ Step (rown p g G) (rown p g G') w w'
section
variable {w w' : World} {m p g c q : Nat} {G : Nat → Prop} {T : PS}
theorem RP.after (h : RP w m p g c q G T) (n : New w w') : RP w' m p g c q G T := { h with row := h.row.after n, pl := h.pl.after n, disk := h.disk.after n }
theorem RP.mono (h : RP w m p g c q G T) {m' : Nat} (hm : m ≤ m') : RP w m' p g c q G T := { h with pins := fun f hf => Nat.le_trans (h.pins f hf) hm, room := Nat.le_trans h.room hm }
theorem RP.g_lt (h : RP w m p g c q G T) : g < w.heap.size := h.pl.lt rfl
theorem RP.own_lt (h : RP w m p g c q G T) : ∀ x, rown p g G x → x < w.heap.size := fun x hx => by
  rcases hx with rfl | rfl | hx
  · exact h.row.lt
  · exact h.g_lt
  · exact h.disk.inside x hx
/-- Something else changes. -/
theorem RP.of (h : RP w m p g c q G T) (e : ∀ x, rown p g G x → w'.heap[x]? = w.heap[x]?) (hs : w.heap.size ≤ w'.heap.size) : RP w' m p g c q G T :=
  { h with row := h.row.of (e p (.inl rfl)), pl := h.pl.of (fun x hx _ => e x (.inr (.inl hx))) (fun _ h _ => h), disk := h.disk.of (fun x hx => e x (.inr (.inr hx))) hs }
/-- Its cells of a frame. -/
theorem RP.cells (h : RP w m p g c q G T) {i : Nat} (hi : i < T.fs.length) : w.rangeAt g (i * 5) (rfL (T.fm i)) := by
  have := h.pl.range (i := i) (by rw [List.length_map]; exact hi)
  rwa [List.getElem_map, show T.fs[i] = T.fm i by unfold PS.fm; rw [List.getD_eq_getElem?_getD, List.getElem?_eq_getElem hi]; rfl] at this
theorem RP.frozen (h : RP w m p g c q G T) (j : Nat) : w.frozen? ⟨g, j, none⟩ = false := by
  obtain ⟨cur, R, _⟩ := h.pl.row
  exact R.frozen j
/-- Frames, the hand and the disk anew. -/
theorem RP.make {m' : Nat} {T' : PS} {G' : Nat → Prop} (h : RP w m p g c q G T) (hI : Inv T') (hl : T'.fs.length = T.fs.length) (R : Row w' p #[.pointer (some ⟨q, 0, none⟩), .slice (some ⟨g, 0, none⟩) T.fs.length c, .int .i64 (T'.hand : Int)] 95)
    (P : Pl w' (fun x => x = g) 97 5 (.slice (some ⟨g, 0, none⟩) T.fs.length c) (T'.fs.map rfL)) (D : Rd w' G' q T'.d) (hp : ¬ G' p) (hg : ¬ G' g) (h1 : ∀ f ∈ T'.fs, f.pins ≤ m') (h2 : T'.d.ws.length + nd T'.fs ≤ m') : RP w' m' p g c q G' T' :=
  ⟨hI, by rw [hl]; exact R, by rw [hl]; exact P, D, h.pg, hp, hg, h1, h2⟩
/-- The disk's own call. -/
theorem RP.call {d' : St} (h : RP w m p g c q G T) (k : RLeft G q w d' w') (hps : d'.ps = T.d.ps) (hr : d'.ws.length + nd T.fs ≤ m) : ∃ G', RP w' m p g c q G' { T with d := d' } ∧ Step (rown p g G) (rown p g G') w w' := by
  obtain ⟨G', hd, hs⟩ := k
  have ltp := h.row.lt
  have ltg := h.g_lt
  have out : ∀ x, x < w.heap.size → ¬ G x → ¬ G' x := fun x hx hn hf => by rcases hs.foot x hf with h1 | h1; exact hn h1; omega
  refine ⟨G', h.make (T' := { T with d := d' }) ⟨h.inv.few, h.inv.most, h.inv.hand, h.inv.none, h.inv.size, by show ∀ f ∈ T.fs, f.data ≠ [] → f.at_ < d'.ps.length; rw [hps]; exact h.inv.in_, h.inv.apart⟩ rfl (h.row.of (hs.block p ltp h.np)) (h.pl.of (fun x hx hlt => hs.block x hlt (hx ▸ h.ng)) (fun _ h _ => h)) hd (out p ltp h.np) (out g ltg h.ng) h.pins hr, ⟨hs.os, hs.tape, hs.output, hs.size, fun x hx hn => hs.block x hx (fun hf => hn (.inr (.inr hf))), fun x hx => ?_⟩⟩
  rcases hx with rfl | rfl | hx
  · exact .inl (.inl rfl)
  · exact .inl (.inr (.inl rfl))
  · exact (hs.foot x hx).imp (fun h => .inr (.inr h)) id
/-- The hand. -/
theorem RP.setHand (h : RP w m p g c q G T) {k : Nat} (hk : k < T.fs.length) : RP (w.setCell ⟨p, 2, none⟩ (.int .i64 (k : Int))) m p g c q G { T with hand := k } := by
  have e : ∀ x, x ≠ p → (w.setCell ⟨p, 2, none⟩ (.int .i64 (k : Int))).heap[x]? = w.heap[x]? := fun x hx => Below.heap_setCell _ _ _ _ hx
  have hs : w.heap.size ≤ (w.setCell ⟨p, 2, none⟩ (.int .i64 (k : Int))).heap.size := by simp [World.setCell]
  exact h.make (T' := { T with hand := k }) ⟨h.inv.few, h.inv.most, hk, h.inv.none, h.inv.size, h.inv.in_, h.inv.apart⟩ rfl (h.row.set 2 _) (h.pl.of (fun x hx _ => e x (hx ▸ h.pg.symm)) (fun _ h _ => h)) (h.disk.of (fun x hx => e x (fun e2 => h.np (e2 ▸ hx))) hs) h.np h.ng h.pins h.room
/-- A frame. -/
theorem RP.frame {m' i : Nat} {f : Fm} (h : RP w m p g c q G T) (hb : But g w w') (P : Pl w' (fun x => x = g) 97 5 (.slice (some ⟨g, 0, none⟩) T.fs.length c) ((T.fs.map rfL).set i (rfL f))) (hI : Inv (T.setF i f)) (h1 : ∀ f2 ∈ (T.setF i f).fs, f2.pins ≤ m') (h2 : T.d.ws.length + nd (T.fs.set i f) ≤ m') : RP w' m' p g c q G (T.setF i f) :=
  h.make (T' := T.setF i f) hI (setF_len _ _ _) (h.row.of (hb.block p h.pg)) (by show Pl w' _ 97 5 _ ((T.fs.set i f).map rfL); rw [List.map_set]; exact P) (h.disk.of (fun x hx => hb.block x (fun e2 => h.ng (e2 ▸ hx))) (by rw [hb.size]; exact Nat.le_refl _)) h.np h.ng h1 h2
/-- One field of a frame. -/
theorem RP.fieldPl (h : RP w m p g c q G T) {i j : Nat} (hi : i < T.fs.length) (hj : j < 5) {v : Value} {e : List Value} (he : (rfL (T.fm i)).set j v = e) : Pl (w.setCell ⟨g, i * 5 + j, none⟩ v) (fun x => x = g) 97 5 (.slice (some ⟨g, 0, none⟩) T.fs.length c) ((T.fs.map rfL).set i e) := by
  have h1 := h.pl.setField (i := i) (by rw [List.length_map]; exact hi) hj v
  have : (T.fs.map rfL)[i]'(by rw [List.length_map]; exact hi) = rfL (T.fm i) := by rw [List.getElem_map]; unfold PS.fm; rw [List.getD_eq_getElem?_getD, List.getElem?_eq_getElem hi]; rfl
  rw [this, he] at h1
  exact h1
end
theorem RPL.trans {p g c q m : Nat} {G G' : Nat → Prop} {w w1 w2 : World} {T : PS} (s : Step (rown p g G) (rown p g G') w w1) (h : RPL p g c q G' m w1 T w2) : RPL p g c q G m w T w2 := by
  obtain ⟨G2, P2, s2⟩ := h; exact ⟨G2, P2, s.trans s2⟩

/-! Which frame has a page. -/
def idxZ (a : Int) (ks : List (Option Nat)) : Int := match idx a ks with | some i => (i : Int) | none => -1
theorem idx_first {a : Int} {ks : List (Option Nat)} {i : Nat} (hi : i < ks.length) (h : isAt a (ks.getD i none) = true) (hb : ∀ j, j < i → isAt a (ks.getD j none) = false) : idx a ks = some i := by
  unfold idx
  refine List.findIdx?_eq_some_iff_getElem.2 ⟨hi, by rw [List.getD_eq_getElem?_getD, List.getElem?_eq_getElem hi] at h; exact h, fun j hj => ?_⟩
  have := hb j hj
  rw [List.getD_eq_getElem?_getD, List.getElem?_eq_getElem (by omega)] at this
  simpa using this
theorem idx_nowhere {a : Int} {ks : List (Option Nat)} (hb : ∀ j, j < ks.length → isAt a (ks.getD j none) = false) : idx a ks = none := by
  unfold idx
  refine List.findIdx?_eq_none_iff.2 fun x hx => ?_
  obtain ⟨j, hj⟩ := List.mem_iff_getElem?.1 hx
  have := hb j (List.getElem?_eq_some_iff.1 hj).1
  rw [List.getD_eq_getElem?_getD, hj] at this
  exact this
theorem keys_getD {fs : List Fm} {i : Nat} (hi : i < fs.length) : (keys fs).getD i none = (fs.getD i noFm).key := by rw [List.getD_eq_getElem?_getD, keys_at hi]; rfl
theorem isAt_rAt (f : Fm) (a : Int) : isAt a f.key = (decide (rAt f = a) && decide (0 ≤ a)) := by
  unfold rAt Fm.key
  by_cases h : f.data = []
  · rw [if_pos h, if_pos h]
    show false = _
    by_cases h2 : (-1 : Int) = a
    · rw [decide_eq_true h2, decide_eq_false (by omega)]; rfl
    · rw [decide_eq_false h2]; rfl
  · rw [if_neg h, if_neg h]
    show decide ((f.at_ : Int) = a) = _
    by_cases h2 : (f.at_ : Int) = a
    · rw [decide_eq_true h2, decide_eq_true (by omega : (0 : Int) ≤ a)]; rfl
    · rw [decide_eq_false h2]; rfl
set_option maxHeartbeats 4000000 in
theorem rhas_any {w : World} {m p g c q : Nat} {G : Nat → Prop} {T : PS} (P : RP w m p g c q G T) (a : Int) :
    Calls Tryd.prog 43 #[.pointer (some ⟨p, 0, none⟩), .int .i64 a] w fun e w' => e = .returned (.int .i64 (idxZ a (keys T.fs))) ∧ w' = w := by
  obtain ⟨n, hn⟩ : ∃ n, T.fs.length = n := ⟨_, rfl⟩
  have c1 : w.cell? ⟨p, 1, none⟩ = some (.slice (some ⟨g, 0, none⟩) n c) := by rw [← hn]; exact P.row.cell 1
  have h64 : n ≤ 64 := by rw [← hn]; exact P.inv.most
  have HK : Hid (∀ i, i < n → w.cell? ⟨g, i * 5, none⟩ = some (.int .i64 (rAt (T.fm i)))) := fun i hi => by have := P.cells (i := i) (by omega) 0 _ rfl; rw [Nat.add_zero] at this; exact this
  have HN : Hid (T.fs.length = n) := hn
  clear P hn
  go_enter Tryd.func43, Tryd.ntmps43
  go_wp2_with fail
  go_loop [5] (fun u => ∃ i : Nat, u = .int .i64 (i : Int) ∧ i ≤ n ∧ Hid (∀ j, j < i → isAt a ((keys T.fs).getD j none) = false)) (fun u => n - (intOf u).toNat)
  case atStart => exact ⟨0, rfl, by omega, fun j hj => by omega⟩
  case round =>
    obtain ⟨i, rfl, hi, HB⟩ := hrel
    by_cases h : i < n
    · have h' : (i : Int) < (n : Int) := by omega
      have hil : i < T.fs.length := by rw [HN.out]; exact h
      have k0 := HK.out i h
      have HA : Hid (isAt a ((keys T.fs).getD i none) = (decide (rAt (T.fm i) = a) && decide (0 ≤ a))) := by show _ = _; rw [keys_getD hil, isAt_rAt]; rfl
      generalize rAt (T.fm i) = x at k0 HA
      clear hil
      have HS : Hid (∀ b, isAt a ((keys T.fs).getD i none) = b → b = false → (∀ j, j < i + 1 → isAt a ((keys T.fs).getD j none) = false)) := fun b h1 h2 j hj => by
        by_cases e : j = i
        · subst e; rw [h1, h2]
        · exact HB.out j (by omega)
      by_cases hx : x = a
      · by_cases ha : 0 ≤ a
        · have ha' : a ≥ 0 := ha
          go_wp2_with fail
          go_ret
          have : idxZ a (keys T.fs) = (i : Int) := by
            unfold idxZ
            rw [idx_first (by rw [keys_length, HN.out]; exact h) (by rw [HA.out, decide_eq_true hx, decide_eq_true ha]; rfl) HB.out]
          exact ⟨ret_int this.symm, rfl⟩
        · go_wp2_with fail
          go_round
          case rel => exact ⟨i + 1, by simp, by omega, HS.out _ HA.out (by rw [decide_eq_false ha]; simp)⟩
          case measure => simp [intOf]; omega
      · go_wp2_with fail
        go_round
        case rel => exact ⟨i + 1, by simp, by omega, HS.out _ HA.out (by rw [decide_eq_false hx]; rfl)⟩
        case measure => simp [intOf]; omega
    · obtain rfl : i = n := by omega
      go_wp2_with fail
      go_ret
      have : idxZ a (keys T.fs) = -1 := by
        unfold idxZ
        rw [idx_nowhere (fun j hj => HB.out j (by rw [keys_length, HN.out] at hj; exact hj))]
      exact ⟨ret_int this.symm, rfl⟩
end Go.Proofs.YtkcoclpbkealgaaDoor
namespace Go.Proofs.YtkcoclpbkealgaaDoor
open Go.RowKit
set_option maxRecDepth 20000

section
variable {T : PS} {fs : List Fm} {i : Nat}
theorem find_clean (hf : freeAt (keys T.fs) = none) (hc : chooseN T.hand T.fs.length (2 * T.fs.length) 0 T.fs = (some i, fs)) (hd : (fs.getD i noFm).dirty = false) : T.find = ⟨0, i, ⟨T.d, fs.set i noFm, (i + 1) % T.fs.length⟩⟩ := by
  have e := PS.find_some hf hc
  have hv : PS.vacate ⟨T.d, fs, i⟩ i = (0, ⟨T.d, fs.set i noFm, i⟩) := by
    unfold PS.vacate
    rw [show (PS.fm ⟨T.d, fs, i⟩ i).dirty = false from hd]; rfl
  rw [hv, if_pos rfl] at e; exact e
theorem write_at' (d : St) (fs : List Fm) (i h : Nat) : PS.write ⟨d, fs, h⟩ i = if (d.write ((fs.getD i noFm).at_ : Int) (fs.getD i noFm).data).1 = 0 then (0, ⟨(d.write ((fs.getD i noFm).at_ : Int) (fs.getD i noFm).data).2, fs.set i { fs.getD i noFm with dirty := false }, h⟩) else ((d.write ((fs.getD i noFm).at_ : Int) (fs.getD i noFm).data).1, ⟨(d.write ((fs.getD i noFm).at_ : Int) (fs.getD i noFm).data).2, fs, h⟩) := rfl
theorem find_err (hf : freeAt (keys T.fs) = none) (hc : chooseN T.hand T.fs.length (2 * T.fs.length) 0 T.fs = (some i, fs)) (hd : (fs.getD i noFm).dirty = true) {r : Int × St} (hr : T.d.write ((fs.getD i noFm).at_ : Int) (fs.getD i noFm).data = r) (he : r.1 ≠ 0) : T.find = ⟨r.1, 0, ⟨r.2, fs, i⟩⟩ := by
  have e := PS.find_some hf hc
  have hw := write_at' T.d fs i i
  rw [hr, if_neg he] at hw
  have hv : PS.vacate ⟨T.d, fs, i⟩ i = (r.1, ⟨r.2, fs, i⟩) := by
    unfold PS.vacate
    rw [show (PS.fm ⟨T.d, fs, i⟩ i).dirty = true from hd, if_pos rfl, hw, if_neg he]
  rw [hv, if_neg he] at e; exact e
theorem find_wrote (hf : freeAt (keys T.fs) = none) (hc : chooseN T.hand T.fs.length (2 * T.fs.length) 0 T.fs = (some i, fs)) (hd : (fs.getD i noFm).dirty = true) {r : Int × St} (hr : T.d.write ((fs.getD i noFm).at_ : Int) (fs.getD i noFm).data = r) (he : r.1 = 0) : T.find = ⟨0, i, ⟨r.2, fs.set i noFm, (i + 1) % T.fs.length⟩⟩ := by
  have e := PS.find_some hf hc
  have hw := write_at' T.d fs i i
  rw [hr, if_pos he] at hw
  have hv : PS.vacate ⟨T.d, fs, i⟩ i = (0, ⟨r.2, fs.set i noFm, i⟩) := by
    unfold PS.vacate
    rw [show (PS.fm ⟨T.d, fs, i⟩ i).dirty = true from hd, if_pos rfl, hw, if_pos rfl]
    show (0, _) = (0, _)
    unfold PS.setF
    simp only [List.set_set]
  rw [hv, if_pos rfl] at e; exact e
end
theorem built97 : Tryd.prog.built 97 [(0, .int .i64 (-1))] = some (rfL noFm).toArray := by kernel_rfl
theorem rfL_one (f : Fm) : ∀ v ∈ rfL f, v.oneCell' = true := rawL_one _ _ _ _ _
theorem wpList_build1 {P : Program} {w : World} {ops : Array Oper} {rest : List Oper} {o : Oper} {a : Act} {Q : Exit → Act → World → Prop} (hgd : o.guard = none) (t : TypeId) (x0 : Operand) (ho : o.op = .build t #[(0, x0)]) (v0 : Value) (h0 : a.eval x0 = v0) (cs : Array Value) (hb : P.built t [(0, v0)] = some cs)
    (h : wpList P ops Q rest (a.put o.dst (.agg cs)) w) : wpList P ops Q (o :: rest) a w := by
  have hv : ((#[(0, x0)] : Array (Nat × Operand)).map fun (i, x) => (i, a.eval x)).toList = [(0, v0)] := by simp [h0]
  refine wpList_build hgd t _ ho (by rw [hv, hb]; rfl) ?_
  rw [hv, hb]
  exact h
theorem rAt_full {f : Fm} (h : f.data ≠ []) : rAt f = (f.at_ : Int) := by unfold rAt; rw [if_neg h]
theorem rAt_neg (f : Fm) : rAt f < 0 ↔ f.data = [] := by
  unfold rAt
  by_cases h : f.data = []
  · rw [if_pos h]; exact ⟨fun _ => h, fun _ => by decide⟩
  · rw [if_neg h]; exact ⟨fun h2 => by omega, fun h2 => absurd h2 h⟩
/-- Frames that are used no longer. -/
theorem RP.calm {w : World} {m p g c q : Nat} {G : Nat → Prop} {T : PS} (P : RP w m p g c q G T) (hfree : freeAt (keys T.fs) = none) {d : St} {fs : List Fm} (hps : d.ps = T.d.ps) (hc : Calm T.fs fs) {h : Nat} (hh : h < T.fs.length) : Inv ⟨d, fs, h⟩ := by
  have := hc.inv P.inv hfree hh
  exact ⟨this.few, this.most, this.hand, this.none, this.size, by show ∀ f ∈ fs, f.data ≠ [] → f.at_ < d.ps.length; rw [hps]; exact this.in_, this.apart⟩

set_option maxHeartbeats 8000000 in
theorem rfind_any {w : World} {m p g c q : Nat} {G : Nat → Prop} {T : PS} (P : RP w m p g c q G T) (hm : m < 1000) :
    Calls Tryd.prog 44 #[.pointer (some ⟨p, 0, none⟩)] w fun e w' => e = .returned (FoundV T.find) ∧ RPL p g c q G m w T.find.S w' := by
  obtain ⟨n, hn⟩ : ∃ n, T.fs.length = n := ⟨_, rfl⟩
  have c1 : w.cell? ⟨p, 1, none⟩ = some (.slice (some ⟨g, 0, none⟩) n c) := by rw [← hn]; exact P.row.cell 1
  have h64 : n ≤ 64 := by rw [← hn]; exact P.inv.most
  have h1n : 1 ≤ n := by rw [← hn]; exact P.inv.few
  have HK : Hid (∀ i, i < n → w.cell? ⟨g, i * 5, none⟩ = some (.int .i64 (rAt (T.fm i)))) := fun i hi => by have := P.cells (i := i) (by omega) 0 _ rfl; rw [Nat.add_zero] at this; exact this
  have HN : Hid (T.fs.length = n) := hn
  have HP : Hid (RP w m p g c q G T) := P
  have hhn : T.hand < n := by rw [← hn]; exact P.inv.hand
  clear P hn
  go_enter Tryd.func44, Tryd.ntmps44
  go_wp2_with fail
  go_loopw [4] (fun u wr => ∃ i : Nat, u = .int .i64 (i : Int) ∧ i ≤ n ∧ wr = w ∧ Hid (∀ j, j < i → (keys T.fs)[j]? ≠ some none)) (fun u _ => n - (intOf u).toNat)
  case atStart => exact ⟨0, rfl, by omega, rfl, fun j hj => by omega⟩
  case round =>
    obtain ⟨i, rfl, hi, hwr, HB⟩ := hrel
    obtain rfl : w = wr := hwr.symm
    by_cases h : i < n
    · have h' : (i : Int) < (n : Int) := by omega
      have hil : i < T.fs.length := by rw [HN.out]; exact h
      have k0 := HK.out i h
      have HA : Hid (rAt (T.fm i) < 0 ↔ (keys T.fs)[i]? = some none) := by
        show _ ↔ _
        rw [keys_at hil, rAt_neg]
        constructor
        · intro hd
          have hd' : (T.fs.getD i noFm).data = [] := hd
          unfold Fm.key; rw [if_pos hd']
        · intro hk; exact key_none (by injection hk)
      generalize rAt (T.fm i) = x at k0 HA
      clear hil
      by_cases hx : x < 0
      · have HE : Hid (T.find = ⟨0, i, T⟩) := PS.find_free (freeAt_found (HA.out.1 hx) HB.out)
        go_wp2_with fail
        go_ret2
        rw [HE.out]
        exact ⟨rfl, G, HP.out, Step.refl _ _⟩
      · go_wp2_with fail
        refine ⟨⟨i + 1, by simp, by omega, by simp, fun j hj => ?_⟩, by simp [intOf]; omega⟩
        by_cases e : j = i
        · subst e; exact fun h2 => hx (HA.out.2 h2)
        · exact HB.out j (by omega)
    · obtain rfl : n = i := by omega
      have hfree : freeAt (keys T.fs) = none := freeAt_not (fun j hj => HB.out j (by rw [keys_length, HN.out] at hj; exact hj))
      have HFr : Hid (freeAt (keys T.fs) = none) := hfree
      obtain ⟨r, hr⟩ : ∃ r, chooseN T.hand n (2 * n) 0 T.fs = r := ⟨_, rfl⟩
      have HR : Hid (chooseN T.hand n (2 * n) 0 T.fs = r) := hr
      have hw1 : IntKind.i64.wrap (2 * (n : Int)) = ((2 * n : Nat) : Int) := by rw [IntKind.wrap_i64]; omega
      clear hfree hr HB
      go_wp2_with fail
      go_loopw [5] (fun u wr => ∃ (k : Nat) (fs : List Fm), u = .int .i64 (k : Int) ∧ k ≤ 2 * n ∧ Hid (RP wr m p g c q G ⟨T.d, fs, T.hand⟩ ∧ Step (rown p g G) (rown p g G) w wr ∧ chooseN T.hand n (2 * n - k) k fs = r ∧ Calm T.fs fs)) (fun u _ => 2 * n - (intOf u).toNat)
      case atStart => exact ⟨0, T.fs, rfl, by omega, HP.out, Step.refl _ _, HR.out, Calm.refl _⟩
      case round =>
        obtain ⟨k, fs, rfl, hk, HI⟩ := hrel
        rename World => w2
        obtain ⟨P2, s2, e2, cm⟩ := HI.out
        have hfl : fs.length = n := cm.len.trans HN.out
        have c1 : w2.cell? ⟨p, 1, none⟩ = some (.slice (some ⟨g, 0, none⟩) n c) := by have := P2.row.cell 1; simp only [hfl] at this; exact this
        have c2 : w2.cell? ⟨p, 2, none⟩ = some (.int .i64 (T.hand : Int)) := P2.row.cell 2
        have c0 : w2.cell? ⟨p, 0, none⟩ = some (.pointer (some ⟨q, 0, none⟩)) := P2.row.cell 0
        by_cases hkn : k < 2 * n
        · have hkn' : (k : Int) < 2 * (n : Int) := by omega
          obtain ⟨i, hij⟩ : ∃ i, i = (T.hand + k) % n := ⟨_, rfl⟩
          have hin : i < n := by rw [hij]; exact Nat.mod_lt _ (by omega)
          have hrem : Int.tmod ((T.hand : Int) + (k : Int)) (n : Int) = (i : Int) := by rw [hij]; rw [← Int.natCast_add, ← Int.ofNat_tmod]
          obtain ⟨f, hf⟩ : ∃ f, f = fs.getD i noFm := ⟨_, rfl⟩
          have hfull : f.data ≠ [] := by rw [hf]; exact full_at HFr.out cm (by rw [HN.out]; exact hin)
          have hcs := P2.cells (i := i) (by simp only [hfl]; exact hin)
          have hfm : PS.fm ⟨T.d, fs, T.hand⟩ i = f := hf.symm
          rw [hfm] at hcs
          have k0 : w2.cell? ⟨g, i * 5, none⟩ = some (.int .i64 (f.at_ : Int)) := by have := hcs 0 _ rfl; rw [Nat.add_zero, rAt_full hfull] at this; exact this
          have k1 : w2.cell? ⟨g, i * 5 + 1, none⟩ = some (.string (bs f.data)) := hcs 1 _ rfl
          have k2 : w2.cell? ⟨g, i * 5 + 2, none⟩ = some (.int .i64 (f.pins : Int)) := hcs 2 _ rfl
          have k3 : w2.cell? ⟨g, i * 5 + 3, none⟩ = some (.bool f.dirty) := hcs 3 _ rfl
          have k4 : w2.cell? ⟨g, i * 5 + 4, none⟩ = some (.bool f.used) := hcs 4 _ rfl
          have kf := P2.frozen (i * 5 + 4)
          have hpf : f.pins ≤ m := by rw [hf]; exact P2.pins _ (getD_mem (by show i < fs.length; omega))
          have hstep : 2 * n - k = (2 * n - (k + 1)) + 1 := by omega
          rw [hstep, chooseN, ← hij, ← hf] at e2
          have HFM : Hid (f = fs.getD i noFm ∧ fs.length = n ∧ Calm T.fs fs) := ⟨hf, hfl, cm⟩
          by_cases hp : 0 < f.pins
          · have hp' : (0 : Int) < (f.pins : Int) := by omega
            rw [if_pos hp] at e2
            have HE2 : Hid (chooseN T.hand n (2 * n - (k + 1)) (k + 1) fs = r) := e2
            clear P2 s2 e2 cm hfl hcs hij hf hfm hfull
            go_wp2_with fail
            go_quiet (fail)
            go_wp2_with fail
            have nq' := New.drewN w2 nq
            exact ⟨⟨k + 1, fs, by simp, by omega, HI.out.1.after nq', HI.out.2.1.trans (Step.new nq'), HE2.out, HI.out.2.2.2⟩, by simp [intOf]; omega⟩
          · have hp' : ¬ (0 : Int) < (f.pins : Int) := by omega
            rw [if_neg hp] at e2
            cases hu : f.used
            · rw [hu, if_neg (by decide)] at e2
              rw [hu] at k4
              have e3 : chooseN T.hand T.fs.length (2 * T.fs.length) 0 T.fs = (some i, fs) := by rw [HN.out, HR.out, ← e2]
              obtain ⟨kk, hkk⟩ : ∃ kk, (i + 1) % n = kk := ⟨_, rfl⟩
              have hkn2 : kk < n := by rw [← hkk]; exact Nat.mod_lt _ (by omega)
              have hrem2 : Int.tmod ((i : Int) + 1) (n : Int) = (kk : Int) := by rw [← hkk, show (i : Int) + 1 = ((i + 1 : Nat) : Int) by omega, ← Int.ofNat_tmod]
              cases hd : f.dirty
              · rw [hd] at k3
                have HE : Hid (T.find = ⟨0, i, ⟨T.d, fs.set i noFm, kk⟩⟩) := by rw [← hkk, ← HN.out]; exact find_clean HFr.out e3 (by rw [← hf]; exact hd)
                clear P2 s2 e2 e3 cm hfl hcs hij hf hfm hfull hkk
                go_wp2_with fail
                go_quiet (fail)
                have nq' := New.drewN w2 nq
                obtain ⟨P2, s2, _, _⟩ := HI.out
                have P5 := P2.after nq'
                have s5 := s2.trans (Step.new nq')
                have hfl := HFM.out.2.1
                have HPn : Hid (∀ f ∈ fs, f.pins ≤ m) := P2.pins
                have HRm : Hid (T.d.ws.length + nd (fs.set i noFm) ≤ m) := by
                  show T.d.ws.length + nd (fs.set i noFm) ≤ m
                  have h1 := P2.room
                  have h2 := nd_set (fs := fs) (i := i) (f := noFm) (by omega)
                  have : noFm.dirty = false := rfl
                  rw [this] at h2
                  simp only [Bool.false_eq_true, if_false] at h2
                  simp only at h1
                  omega
                clear P2 s2
                have hpl := P5.pl
                simp only [hfl] at hpl
                have HPL : Hid (Pl (w2.drewN nq) (fun x => x = g) 97 5 (.slice (some ⟨g, 0, none⟩) n c) (fs.map rfL) ∧ i < (fs.map rfL).length) := ⟨hpl, by rw [List.length_map]; omega⟩
                have HP5 : Hid (RP (w2.drewN nq) m p g c q G ⟨T.d, fs, T.hand⟩ ∧ Step (rown p g G) (rown p g G) w (w2.drewN nq) ∧ fs.length = n) := ⟨P5, s5, hfl⟩
                have c1 : (w2.drewN nq).cell? ⟨p, 1, none⟩ = some (.slice (some ⟨g, 0, none⟩) n c) := by have := P5.row.cell 1; simp only [hfl] at this; exact this
                have c2 : (w2.drewN nq).cell? ⟨p, 2, none⟩ = some (.int .i64 (T.hand : Int)) := P5.row.cell 2
                have f2 : (w2.drewN nq).frozen? ⟨p, 2, none⟩ = false := P5.row.frozen 2
                have HPc : Hid (∀ w7, But g (w2.drewN nq) w7 → w7.cell? ⟨p, 1, none⟩ = some (.slice (some ⟨g, 0, none⟩) n c) ∧ w7.cell? ⟨p, 2, none⟩ = some (.int .i64 (T.hand : Int)) ∧ w7.frozen? ⟨p, 2, none⟩ = false) := fun w7 B7 => by
                  have R7 := HP5.out.1.row.of (B7.block p HP5.out.1.pg)
                  simp only [HP5.out.2.2] at R7
                  exact ⟨R7.cell 1, R7.cell 2, R7.frozen 2⟩
                clear P5 s5 hpl c1 c2 f2
                go_wp2_with (first | (refine wpList_build1 (by rfl) _ _ (by rfl) _ (by rfl) _ built97 ?_) | (refine wpList_store_pl (by rfl) _ _ _ (by rfl) _ 97 5 g n c i _ (rfL noFm) HPL.out.1 HPL.out.2 (by rfl) (by rfl) rfl i97 (rfL_one noFm) ?_; rintro w7 P7 B7; obtain ⟨c1, c2, f2⟩ := HPc.out w7 B7))
                go_ret2
                rw [HE.out]
                obtain ⟨P5, s5, hfl⟩ := HP5.out
                have P8 : RP w7 m p g c q G (PS.setF ⟨T.d, fs, T.hand⟩ i noFm) := P5.frame B7 (by simp only [hfl]; exact P7) (P5.inv.drop (by simp only [hfl]; exact hin) rfl rfl P5.inv.hand) (fun f2 hf2 => by
                  rcases set_mem hf2 with h | rfl
                  · exact HPn.out f2 h
                  · exact Nat.zero_le _) (by
                  exact HRm.out)
                refine ⟨rfl, G, ?_, (s5.trans (B7.step (.inr (.inl rfl)))).trans (Step.setCell w7 (a := ⟨p, 2, none⟩) (.inl rfl) _)⟩
                have P9 := P8.setHand (k := kk) (by rw [setF_len]; simp only [hfl]; omega)
                exact P9
              · rw [hd] at k3
                obtain ⟨rr, hrr⟩ : ∃ rr, T.d.write (f.at_ : Int) f.data = rr := ⟨_, rfl⟩
                have hrw := P2.room
                have hws : T.d.ws.length < 1000 := by simp only at hrw; omega
                have HW : Hid (∀ w3, New w2 w3 → Calls Tryd.prog 51 #[.pointer (some ⟨q, 0, none⟩), .int .i64 (f.at_ : Int), .string (bs f.data)] w3 fun e w' => e = .returned (.int .i64 rr.1) ∧ RLeft G q w3 rr.2 w') := fun w3 n3 => by
                  have := refwrite_any (P2.disk.after n3) (f.at_ : Int) (bs f.data) hws
                  rw [L_bs] at this; simp only [hrr] at this; exact this
                have hps : rr.2.ps = T.d.ps := by rw [← hrr]; exact write_ps _ _ _
                have hfew := write_few T.d (f.at_ : Int) f.data
                rw [hrr] at hfew
                have HFew : Hid (rr.2.ps = T.d.ps ∧ ((rr.1 = 0 ∧ rr.2.ws.length = T.d.ws.length + 1) ∨ (rr.1 ≠ 0 ∧ rr.2.ws = T.d.ws))) := ⟨hps, hfew⟩
                have HErr : Hid (rr.1 ≠ 0 → T.find = ⟨rr.1, 0, ⟨rr.2, fs, i⟩⟩) := fun he => find_err HFr.out e3 (by rw [← hf]; exact hd) (by rw [← hf]; exact hrr) he
                have HOk : Hid (rr.1 = 0 → T.find = ⟨0, i, ⟨rr.2, fs.set i noFm, kk⟩⟩) := fun he => by have := find_wrote HFr.out e3 (by rw [← hf]; exact hd) (by rw [← hf]; exact hrr) he; rw [HN.out, hkk] at this; exact this
                have HND : Hid (nd (fs.set i noFm) + 1 = nd fs ∧ f.dirty = true) := by
                  have h2 := nd_set (fs := fs) (i := i) (f := noFm) (by omega)
                  rw [← hf, hd, show noFm.dirty = false from rfl] at h2
                  simp only [if_true, Bool.false_eq_true, if_false] at h2
                  exact ⟨h2, hd⟩
                clear P2 s2 e2 e3 cm hfl hcs hij hf hfm hfull hkk hrr hrw hws hps hfew
                have hne := NewW.ne w2
                go_wp2_with fail
                go_quiet (fail)
                have nq' := New.drewN w2 nq
                obtain ⟨w3, hw3⟩ : ∃ w3, w2.drewN nq = w3 := ⟨_, rfl⟩
                rw [hw3] at nq' ⊢
                have k0 := (nq'.cell (World.block_lt_of_cell? _ _ k0)).trans k0
                have k1 := (nq'.cell (World.block_lt_of_cell? _ _ k1)).trans k1
                have k3 := (nq'.cell (World.block_lt_of_cell? _ _ k3)).trans k3
                have k2 := (nq'.cell (World.block_lt_of_cell? _ _ k2)).trans k2
                have k4 := (nq'.cell (World.block_lt_of_cell? _ _ k4)).trans k4
                have c0 := (nq'.cell (World.block_lt_of_cell? _ _ c0)).trans c0
                have c1 := (nq'.cell (World.block_lt_of_cell? _ _ c1)).trans c1
                have c2 := (nq'.cell (World.block_lt_of_cell? _ _ c2)).trans c2
                clear hne hw3
                have hne := NewW.ne w3
                have q0 : ∀ q' : NewW w3, q'.v.cell? ⟨p, 0, none⟩ = some (.pointer (some ⟨q, 0, none⟩)) := fun q' => NewW.cell c0 q'
                have q1 : ∀ q' : NewW w3, q'.v.cell? ⟨g, i * 5, none⟩ = some (.int .i64 (f.at_ : Int)) := fun q' => NewW.cell k0 q'
                have q2 : ∀ q' : NewW w3, q'.v.cell? ⟨g, i * 5 + 1, none⟩ = some (.string (bs f.data)) := fun q' => NewW.cell k1 q'
                go_wp2_with fail
                refine region_first 12 2 w3 (New.refl w3) (by kernel_rfl) (by kernel_rfl) ?_
                simp only [List.take_succ_cons, List.take_zero, List.drop_succ_cons, List.drop_zero, List.take_nil]
                iterate 12 (go_big_quiet_step (fail))
                refine wpQuiet_nil ?_
                rintro W5 ⟨⟨_, N5⟩, rfl⟩
                clear q0 q1 q2 hne
                have NN := nq'.trans N5
                go_wp2_with fail
                refine (HW.out W5 NN).mono ?_
                rintro _ w6 ⟨rfl, l6⟩
                obtain ⟨hps, hfew⟩ := HFew.out
                obtain ⟨P2, s2, _, _⟩ := HI.out
                have hrm := P2.room
                have hndd := HND.out.1
                clear c0 c1 c2 k0 k1 k2 k3 k4
                by_cases he : rr.1 = 0
                · have HE := HOk.out he
                  have hw6 : rr.2.ws.length = T.d.ws.length + 1 := by rcases hfew with h | h; exact h.2; exact absurd he h.1
                  obtain ⟨G5, P5, s6⟩ := ((P2.after NN).mono (Nat.le_succ m)).call l6 hps (by simp only at hrm ⊢; omega)
                  have s5 := (s2.trans (Step.new NN)).trans s6
                  have hfl := HFM.out.2.1
                  have HPn : Hid (∀ f ∈ fs, f.pins ≤ m) := P2.pins
                  have HRm : Hid (rr.2.ws.length + nd (fs.set i noFm) ≤ m) := by
                    show rr.2.ws.length + nd (fs.set i noFm) ≤ m
                    simp only at hrm
                    omega
                  have HE' : Hid (T.find = ⟨0, i, ⟨rr.2, fs.set i noFm, kk⟩⟩) := HE
                  rw [he]
                  clear P2 s2 HE hrm hndd hfew hps l6 s6 he hw6
                  have HE : Hid (T.find = ⟨0, i, ⟨rr.2, fs.set i noFm, kk⟩⟩) := HE'.out
                  have hpl := P5.pl
                  simp only [hfl] at hpl
                  have HPL : Hid (Pl w6 (fun x => x = g) 97 5 (.slice (some ⟨g, 0, none⟩) n c) (fs.map rfL) ∧ i < (fs.map rfL).length) := ⟨hpl, by rw [List.length_map]; omega⟩
                  have HP5 : Hid (RP w6 (m + 1) p g c q G5 ⟨rr.2, fs, T.hand⟩ ∧ Step (rown p g G) (rown p g G5) w w6 ∧ fs.length = n) := ⟨P5, s5, hfl⟩
                  have c1 : w6.cell? ⟨p, 1, none⟩ = some (.slice (some ⟨g, 0, none⟩) n c) := by have := P5.row.cell 1; simp only [hfl] at this; exact this
                  have c2 : w6.cell? ⟨p, 2, none⟩ = some (.int .i64 (T.hand : Int)) := P5.row.cell 2
                  have f2 : w6.frozen? ⟨p, 2, none⟩ = false := P5.row.frozen 2
                  have HPc : Hid (∀ w7, But g w6 w7 → w7.cell? ⟨p, 1, none⟩ = some (.slice (some ⟨g, 0, none⟩) n c) ∧ w7.cell? ⟨p, 2, none⟩ = some (.int .i64 (T.hand : Int)) ∧ w7.frozen? ⟨p, 2, none⟩ = false) := fun w7 B7 => by
                    have R7 := HP5.out.1.row.of (B7.block p HP5.out.1.pg)
                    simp only [HP5.out.2.2] at R7
                    exact ⟨R7.cell 1, R7.cell 2, R7.frozen 2⟩
                  clear P5 s5 hpl c1 c2 f2
                  go_wp2_with (first | (refine wpList_build1 (by rfl) _ _ (by rfl) _ (by rfl) _ built97 ?_) | (refine wpList_store_pl (by rfl) _ _ _ (by rfl) _ 97 5 g n c i _ (rfL noFm) HPL.out.1 HPL.out.2 (by rfl) (by rfl) rfl i97 (rfL_one noFm) ?_; rintro w7 P7 B7; obtain ⟨c1, c2, f2⟩ := HPc.out w7 B7))
                  go_ret2
                  rw [HE.out]
                  obtain ⟨P5, s5, hfl⟩ := HP5.out
                  have P8 : RP w7 m p g c q G5 (PS.setF ⟨rr.2, fs, T.hand⟩ i noFm) := P5.frame B7 (by simp only [hfl]; exact P7) (P5.inv.drop (by simp only [hfl]; exact hin) rfl rfl P5.inv.hand) (fun f2 hf2 => by
                    rcases set_mem hf2 with h | rfl
                    · exact HPn.out f2 h
                    · exact Nat.zero_le _) (by
                    exact HRm.out)
                  refine ⟨rfl, G5, ?_, (s5.trans (B7.step (.inr (.inl rfl)))).trans (Step.setCell w7 (a := ⟨p, 2, none⟩) (.inl rfl) _)⟩
                  have P9 := P8.setHand (k := kk) (by rw [setF_len]; simp only [hfl]; omega)
                  exact P9
                · obtain ⟨G5, P5, s5⟩ := (P2.after NN).call l6 hps (by rcases hfew with h | h; exact absurd h.1 he; rw [h.2]; exact hrm)
                  have HE := HErr.out he
                  have hfl := HFM.out.2.1
                  have c2 : w6.cell? ⟨p, 2, none⟩ = some (.int .i64 (T.hand : Int)) := P5.row.cell 2
                  have f2 : w6.frozen? ⟨p, 2, none⟩ = false := P5.row.frozen 2
                  have P6 := P5.setHand (k := i) (by show i < fs.length; omega)
                  have HG : Hid (RPL p g c q G m w ⟨rr.2, fs, i⟩ (w6.setCell ⟨p, 2, none⟩ (.int .i64 (i : Int)))) := ⟨G5, P6, ((s2.trans (Step.new NN)).trans s5).trans (Step.setCell w6 (a := ⟨p, 2, none⟩) (.inl rfl) _)⟩
                  have HE' : Hid (T.find = ⟨rr.1, 0, ⟨rr.2, fs, i⟩⟩) := HE
                  obtain ⟨z, hz⟩ : ∃ z, rr.1 = z := ⟨_, rfl⟩
                  have HZ : Hid (rr.1 = z) := hz
                  rw [hz] at he ⊢
                  clear P2 s2 P5 s5 P6 HE hz hrm hndd hfew hps l6 hfl
                  go_wp2_with fail
                  go_ret2
                  rw [HE'.out]
                  refine ⟨?_, HG.out⟩
                  rw [HZ.out]; rfl
            · rw [hu, if_pos rfl] at e2
              rw [hu] at k4
              have HE2 : Hid (chooseN T.hand n (2 * n - (k + 1)) (k + 1) (fs.set i { f with used := false }) = r) := e2
              clear P2 s2 e2 cm hfl hcs hij hf hfm hfull
              go_wp2_with fail
              go_quiet (fail)
              go_wp2_with fail
              have nq' := New.drewN w2 nq
              obtain ⟨P2, s2, _, cm⟩ := HI.out
              obtain ⟨hf, hfl, _⟩ := HFM.out
              have hil : i < fs.length := by omega
              have cm2 : Calm T.fs (fs.set i { f with used := false }) := by rw [hf]; exact cm.trans (Calm.set fs hil false)
              have P3 := P2.after nq'
              have hpl := P3.fieldPl (i := i) (j := 4) (v := .bool false) (e := rfL { f with used := false }) hil (by decide) (by rw [show PS.fm ⟨T.d, fs, T.hand⟩ i = f from hf.symm]; rfl)
              have P4 : RP ((w2.drewN nq).setCell ⟨g, i * 5 + 4, none⟩ (.bool false)) m p g c q G (PS.setF ⟨T.d, fs, T.hand⟩ i { f with used := false }) := P3.frame (But.setCell' _ g _ _) hpl (HP.out.calm HFr.out rfl cm2 HP.out.inv.hand) (cm2.pins_le HP.out.pins) (by have h1 := HP.out.room; rw [cm2.nd]; exact h1)
              exact ⟨⟨k + 1, fs.set i { f with used := false }, by simp, by omega, P4, (s2.trans (Step.new nq')).trans (Step.setCell _ (a := ⟨g, i * 5 + 4, none⟩) (.inr (.inl rfl)) _), HE2.out, cm2⟩, by simp [intOf]; omega⟩
        · obtain rfl : k = 2 * n := by omega
          have HE : Hid (T.find = ⟨5, 0, ⟨T.d, fs, T.hand⟩⟩) := by
            rw [Nat.sub_self] at e2
            have e3 : chooseN T.hand T.fs.length (2 * T.fs.length) 0 T.fs = (none, fs) := by rw [HN.out, HR.out, ← e2]; rfl
            exact PS.find_none HFr.out e3
          clear P2 s2 e2 cm
          go_wp2_with fail
          go_ret2
          rw [HE.out]
          exact ⟨rfl, G, HI.out.1, HI.out.2.1⟩
end Go.Proofs.YtkcoclpbkealgaaDoor
namespace Go.Proofs.YtkcoclpbkealgaaDoor
open Go.RowKit
set_option maxRecDepth 20000

section
variable {w : World} {m m0 p g c q i : Nat} {G : Nat → Prop} {T : PS}
/-- A frame keeps its page. -/
theorem RP.field (P : RP w m p g c q G T) (hi : i < T.fs.length) (hf : (T.fm i).data ≠ []) {f : Fm} (h1 : f.at_ = (T.fm i).at_) (h2 : f.data = (T.fm i).data) (h3 : f.dirty = (T.fm i).dirty) {m' : Nat} (hm : m ≤ m') (hp : f.pins ≤ m') {j : Nat} {v : Value} (hj : j < 5) (he : (rfL (T.fm i)).set j v = rfL f) :
    RP (w.setCell ⟨g, i * 5 + j, none⟩ v) m' p g c q G (T.setF i f) := by
  refine P.frame (But.setCell' w g _ v) (P.fieldPl hi hj he) (P.inv.same hi h1 h2 hf rfl rfl P.inv.hand) (fun f2 hf2 => ?_) ?_
  · rcases set_mem hf2 with h | rfl
    · have := P.pins f2 h; omega
    · exact hp
  · have h4 := P.room
    have h5 := nd_set (fs := T.fs) (i := i) (f := f) hi
    rw [h3] at h5
    have : (T.fs.getD i noFm).dirty = (T.fm i).dirty := rfl
    rw [this] at h5
    omega
theorem rbump_facts {m : Nat} (P1 : RP w m0 p g c q G T) (hm : m0 ≤ m + 1 ∧ m < 1000) (hi1 : i < T.fs.length) (hf : (T.fm i).data ≠ []) :
    ∃ (n pn : Nat) (t : List UInt8) (u : Bool), w.cell? ⟨p, 1, none⟩ = some (.slice (some ⟨g, 0, none⟩) n c) ∧ w.cell? ⟨g, i * 5 + 1, none⟩ = some (.string (bs t)) ∧ w.cell? ⟨g, i * 5 + 2, none⟩ = some (.int .i64 (pn : Int)) ∧ w.cell? ⟨g, i * 5 + 4, none⟩ = some (.bool u) ∧
      w.frozen? ⟨g, i * 5 + 2, none⟩ = false ∧ w.frozen? ⟨g, i * 5 + 4, none⟩ = false ∧ (i : Int) < (n : Int) ∧ n ≤ 64 ∧ pn ≤ 100000 ∧
      (RP ((w.setCell ⟨g, i * 5 + 2, none⟩ (.int .i64 ((pn : Int) + 1))).setCell ⟨g, i * 5 + 4, none⟩ (.bool true)) (m + 2) p g c q G (T.bump i) ∧ Step (rown p g G) (rown p g G) w ((w.setCell ⟨g, i * 5 + 2, none⟩ (.int .i64 ((pn : Int) + 1))).setCell ⟨g, i * 5 + 4, none⟩ (.bool true))) ∧ (T.fm i).data = t := by
  have hc := P1.cells hi1
  have hp := P1.pins _ (T.fm_mem hi1)
  refine ⟨T.fs.length, (T.fm i).pins, (T.fm i).data, (T.fm i).used, P1.row.cell 1, hc 1 _ rfl, hc 2 _ rfl, hc 4 _ rfl, P1.frozen _, P1.frozen _, by omega, P1.inv.most, by omega, ⟨?_, ?_⟩, rfl⟩
  · have e : ((((T.fm i).pins + 1 : Nat)) : Int) = ((T.fm i).pins : Int) + 1 := by omega
    have P2 := P1.field (f := { T.fm i with pins := (T.fm i).pins + 1 }) hi1 hf rfl rfl rfl (m' := m + 2) (by omega) (by simp only; omega) (j := 2) (v := .int .i64 (((T.fm i).pins + 1 : Nat) : Int)) (by decide) rfl
    rw [e] at P2
    have hfm : (T.setF i { T.fm i with pins := (T.fm i).pins + 1 }).fm i = { T.fm i with pins := (T.fm i).pins + 1 } := setF_fm_same hi1 _
    have P3 := P2.field (i := i) (f := { T.fm i with pins := (T.fm i).pins + 1, used := true }) (by rw [setF_len]; exact hi1) (by rw [hfm]; exact hf) (by rw [hfm]) (by rw [hfm]) (by rw [hfm]) (m' := m + 2) (Nat.le_refl _) (by simp only; omega) (j := 4) (v := .bool true) (by decide) (by rw [hfm]; rfl)
    have : (T.setF i { T.fm i with pins := (T.fm i).pins + 1 }).setF i { T.fm i with pins := (T.fm i).pins + 1, used := true } = T.bump i := by
      unfold PS.bump PS.setF; simp only [List.set_set]
    rw [this] at P3
    exact P3
  · exact (Step.setCell w (a := ⟨g, i * 5 + 2, none⟩) (.inr (.inl rfl)) _).trans (Step.setCell _ (a := ⟨g, i * 5 + 4, none⟩) (.inr (.inl rfl)) _)
end
theorem idxZ_some {a : Int} {ks : List (Option Nat)} {i : Nat} (h : idx a ks = some i) : idxZ a ks = (i : Int) := by unfold idxZ; rw [h]
theorem idxZ_none {a : Int} {ks : List (Option Nat)} (h : idx a ks = none) : idxZ a ks = -1 := by unfold idxZ; rw [h]
theorem built97' (a : Int) (s : ByteArray) : Tryd.prog.built 97 [(0, .int .i64 a), (1, .string s)] = some #[.int .i64 a, .string s, .int .i64 0, .bool false, .bool false] := by kernel_rfl
theorem built97a (a : Int) : Tryd.prog.built 97 [(0, .int .i64 a)] = some (rawL a [] 0 false false).toArray := by kernel_rfl
/-- A page comes into an empty frame. -/
theorem RP.come {w w' : World} {m p g c q i : Nat} {G : Nat → Prop} {T : PS} (P : RP w m p g c q G T) (hi : i < T.fs.length) {f : Fm} (hf : f.data.length = 256) (hat : f.at_ < T.d.ps.length) (hn : idx (f.at_ : Int) (keys T.fs) = none) (hp : f.pins ≤ m)
    (hb : But g w w') (Pl' : Pl w' (fun x => x = g) 97 5 (.slice (some ⟨g, 0, none⟩) T.fs.length c) ((T.fs.map rfL).set i (rfL f))) : RP w' (m + 1) p g c q G (T.setF i f) := by
  refine P.frame hb Pl' (P.inv.come hi hf hat hn rfl rfl P.inv.hand) (fun f2 hf2 => ?_) ?_
  · rcases set_mem hf2 with h | rfl
    · have := P.pins f2 h; omega
    · omega
  · have h1 := P.room
    have h2 := nd_le (f := f) hi
    omega

set_option maxHeartbeats 8000000 in
theorem rfetch_any {w : World} {m p g c q : Nat} {G : Nat → Prop} {T : PS} (P : RP w m p g c q G T) (hm : m < 1000) (a : Int) :
    Calls Tryd.prog 15 #[.pointer (some ⟨p, 0, none⟩), .int .i64 a] w fun e w' => e = .returned (.tuple #[.string (bs (T.fetch a).t), .int .i64 (T.fetch a).e]) ∧ RPL p g c q G (m + 2) w (T.fetch a).S w' := by
  have hhas := rhas_any P a
  cases hix : idx a (keys T.fs) with
  | some i =>
    rw [idxZ_some hix] at hhas
    obtain ⟨hi, hfull, _⟩ := idx_full hix
    have HE : Hid (T.fetch a = ⟨0, (T.fm i).data, T.bump i⟩) := PS.fetch_hit hix
    have hi0 : ¬ (i : Int) < 0 := by omega
    obtain ⟨T1, hT1⟩ : ∃ T1, T1 = T := ⟨_, rfl⟩
    obtain ⟨G1, hG1⟩ : ∃ G1, G1 = G := ⟨_, rfl⟩
    have HP : Hid (RP w m p g c q G1 T1 ∧ i < T1.fs.length ∧ (T1.fm i).data ≠ [] ∧ Step (rown p g G) (rown p g G1) w w) := ⟨by rw [hT1, hG1]; exact P, by rw [hT1]; exact hi, by rw [hT1]; exact hfull, by rw [hG1]; exact Step.refl _ _⟩
    rw [← hT1] at HE ⊢
    clear P hix hi hfull hT1 hG1
    go_enter Tryd.func15, Tryd.ntmps15
    go_wp2_with fail
    refine hhas.mono ?_
    rintro _ w1 ⟨rfl, hw1⟩
    obtain ⟨P1, hi1, hfull1, s1⟩ := HP.out
    rw [← hw1] at P1
    have s1 : Step (rown p g G) (rown p g G1) w w1 := by rw [hw1]; exact s1
    clear hhas HP hw1
    obtain ⟨n, pn, t, u, c1, k1, k2, k4, f2, f4, hi2, h64, hpn, HG', HD'⟩ := rbump_facts P1 (m := m) ⟨by omega, hm⟩ hi1 hfull1
    have HG : Hid (RP ((w1.setCell ⟨g, i * 5 + 2, none⟩ (.int .i64 ((pn : Int) + 1))).setCell ⟨g, i * 5 + 4, none⟩ (.bool true)) (m + 2) p g c q G1 (T1.bump i) ∧ Step (rown p g G1) (rown p g G1) w1 ((w1.setCell ⟨g, i * 5 + 2, none⟩ (.int .i64 ((pn : Int) + 1))).setCell ⟨g, i * 5 + 4, none⟩ (.bool true))) := HG'
    have HD : Hid ((T1.fm i).data = t) := HD'
    have HS : Hid (Step (rown p g G) (rown p g G1) w w1) := s1
    clear P1 hi1 hfull1 HG' HD' s1
    go_wp2_with fail
    go_ret2
    rw [HE.out, HD.out]
    exact ⟨rfl, G1, HG.out.1, HS.out.trans HG.out.2⟩
  | none =>
    rw [idxZ_none hix] at hhas
    have hF := rfind_any P hm
    by_cases he : T.find.e = 0
    · have fo := find_ok P.inv he
      have h64 := P.inv.most
      have hV : FoundV T.find = .tuple #[.int .i64 (T.find.i : Int), .int .i64 0] := by unfold FoundV; rw [he]
      rw [hV] at hF
      have HRd : Hid (∀ w1 G1, RP w1 m p g c q G1 T.find.S → Calls Tryd.prog 45 #[.pointer (some ⟨q, 0, none⟩), .int .i64 a] w1 fun e w' => e = .returned (.tuple #[.string (bs (T.find.S.d.read a).2), .int .i64 (T.find.S.d.read a).1]) ∧ w' = w1) := fun w1 G1 P1 => refread_any P1.disk a
      by_cases h1 : (T.find.S.d.read a).1 = 0
      · have hin := read_in h1
        have hri : Hid (∀ w2, Calls Tryd.prog 46 #[.string (bs (T.find.S.d.read a).2)] w2 fun e w' => e = .returned (.bool (rightB (T.find.S.d.read a).2)) ∧ New w2 w') := fun w2 => by have := refRight_any (bs (T.find.S.d.read a).2) w2; rwa [L_bs] at this
        cases h2 : rightB (T.find.S.d.read a).2
        · have HE : Hid (T.fetch a = ⟨6, [], T.find.S⟩) := by have e := PS.readIn_page he h1 h2; have := PS.fetch_no hix (by rw [e]; simp); rw [e] at this; exact this
          rw [h1] at HRd
          rw [h2] at hri
          generalize (T.find.S.d.read a).2 = t at HRd hri
          generalize T.find = fd at hF HRd HE
          clear P fo hin h1 h2 hV he hix
          go_enter Tryd.func15, Tryd.ntmps15
          go_wp2_with fail
          refine hhas.mono ?_
          rintro _ w ⟨rfl, rfl⟩
          go_wp2_with fail
          refine hF.mono ?_
          rintro _ w1 ⟨rfl, G1, P1, s1⟩
          have c0 : w1.cell? ⟨p, 0, none⟩ = some (.pointer (some ⟨q, 0, none⟩)) := P1.row.cell 0
          go_wp2_with fail
          refine (HRd.out w1 G1 P1).mono ?_
          rintro _ w1 ⟨rfl, rfl⟩
          go_wp2_with fail
          refine (hri.out w1).mono ?_
          rintro _ w3 ⟨rfl, n3⟩
          go_wp2_with fail
          go_ret2
          rw [HE.out]
          exact ⟨rfl, G1, ((P1.after n3).mono (by omega)), s1.trans (Step.new n3)⟩
        · have e1 := PS.readIn_yes he h1 h2
          have HFY := PS.fetch_yes hix (by rw [e1])
          rw [e1] at HFY
          have hlen : (T.find.S.d.read a).2.length = 256 := (rightB_iff _).1 h2 |>.1
          have hne : (T.find.S.d.read a).2 ≠ [] := fun h => by rw [h] at hlen; cases hlen
          rw [h1] at HRd
          rw [h2] at hri
          obtain ⟨x, hx⟩ : ∃ x : Nat, a = (x : Int) := ⟨a.toNat, by omega⟩
          subst hx
          rw [Int.toNat_natCast] at HFY
          have hfi : T.find.i < T.find.S.fs.length := by rw [fo.len]; exact fo.lt
          have HX : Hid (idx (x : Int) (keys T.find.S.fs) = none ∧ x < T.find.S.d.ps.length ∧ T.find.i < T.find.S.fs.length ∧ T.find.S.fs.length ≤ 64) := ⟨fo.none _ hix, by omega, hfi, by rw [fo.len]; exact h64⟩
          have HE : Hid (T.fetch (x : Int) = ⟨0, ((T.find.S.setF T.find.i ⟨x, (T.find.S.d.read (x : Int)).2, 0, false, false⟩).fm T.find.i).data, (T.find.S.setF T.find.i ⟨x, (T.find.S.d.read (x : Int)).2, 0, false, false⟩).bump T.find.i⟩) := HFY
          generalize (T.find.S.d.read (x : Int)).2 = t at HRd hri hlen hne HE
          generalize T.find = fd at hF HRd HX HE
          obtain ⟨n, hn⟩ : ∃ n, fd.S.fs.length = n := ⟨_, rfl⟩
          have HN : Hid (fd.S.fs.length = n) := hn
          have hin2 : fd.i < n := by rw [← hn]; exact HX.out.2.2.1
          have hn64 : n ≤ 64 := by rw [← hn]; exact HX.out.2.2.2
          obtain ⟨i, hi⟩ : ∃ i, fd.i = i := ⟨_, rfl⟩
          rw [hi] at hF HX HE hin2
          have HT : Hid (t.length = 256 ∧ t ≠ []) := ⟨hlen, hne⟩
          clear P fo hin h1 h2 hV he hix e1 HFY hfi hn hi hlen hne h64
          go_enter Tryd.func15, Tryd.ntmps15
          go_wp2_with fail
          refine hhas.mono ?_
          rintro _ w ⟨rfl, rfl⟩
          go_wp2_with fail
          refine hF.mono ?_
          rintro _ w1 ⟨rfl, G1, P1, s1⟩
          have c0 : w1.cell? ⟨p, 0, none⟩ = some (.pointer (some ⟨q, 0, none⟩)) := P1.row.cell 0
          go_wp2_with fail
          refine (HRd.out w1 G1 P1).mono ?_
          rintro _ w1 ⟨rfl, rfl⟩
          go_wp2_with fail
          refine (hri.out w1).mono ?_
          rintro _ w3 ⟨rfl, n3⟩
          have P3 := P1.after n3
          have c1 : w3.cell? ⟨p, 1, none⟩ = some (.slice (some ⟨g, 0, none⟩) n c) := by have := P3.row.cell 1; rw [HN.out] at this; exact this
          have HPL : Hid (Pl w3 (fun x => x = g) 97 5 (.slice (some ⟨g, 0, none⟩) n c) (fd.S.fs.map rfL) ∧ i < (fd.S.fs.map rfL).length) := ⟨by have := P3.pl; rw [HN.out] at this; exact this, by rw [List.length_map, HN.out]; exact hin2⟩
          have hrf : rfL ⟨x, t, 0, false, false⟩ = [.int .i64 (x : Int), .string (bs t), .int .i64 0, .bool false, .bool false] := by unfold rfL rAt; rw [if_neg HT.out.2]; rfl
          have HRF : Hid (rfL ⟨x, t, 0, false, false⟩ = [.int .i64 (x : Int), .string (bs t), .int .i64 0, .bool false, .bool false]) := hrf
          have HFr : Hid (∀ w7, Pl w7 (fun x => x = g) 97 5 (.slice (some ⟨g, 0, none⟩) n c) ((fd.S.fs.map rfL).set i [.int .i64 (x : Int), .string (bs t), .int .i64 0, .bool false, .bool false]) → But g w3 w7 → RP w7 (m + 1) p g c q G1 (fd.S.setF i ⟨x, t, 0, false, false⟩) ∧ Step (rown p g G) (rown p g G1) w w7 ∧ i < (fd.S.setF i ⟨x, t, 0, false, false⟩).fs.length ∧ ((fd.S.setF i ⟨x, t, 0, false, false⟩).fm i).data ≠ []) := fun w7 P7 B7 => by
            have hil : i < fd.S.fs.length := HX.out.2.2.1
            refine ⟨P3.come hil (f := ⟨x, t, 0, false, false⟩) HT.out.1 HX.out.2.1 HX.out.1 (Nat.zero_le _) B7 (by rw [HN.out, hrf]; exact P7), (s1.trans (Step.new n3)).trans (B7.step (.inr (.inl rfl))), by rw [setF_len]; exact hil, by rw [setF_fm_same hil]; exact HT.out.2⟩
          obtain ⟨T1, hT1⟩ : ∃ T1, T1 = fd.S.setF i ⟨x, t, 0, false, false⟩ := ⟨_, rfl⟩
          rw [← hT1] at HFr HE
          clear P1 s1 P3 n3 c0 hF HRd hri hhas hrf
          have HOne : Hid (∀ v ∈ ([.int .i64 (x : Int), .string (bs t), .int .i64 0, .bool false, .bool false] : List Value), v.oneCell' = true) := rawL_one (x : Int) t 0 false false
          go_wp2_with (first | (refine wpList_build2 (by rfl) _ _ _ (by rfl) _ _ (by rfl) (by rfl) _ (built97' _ _) ?_) | (refine wpList_store_pl (by rfl) _ _ _ (by rfl) _ 97 5 g n c i _ [.int .i64 (x : Int), .string (bs t), .int .i64 0, .bool false, .bool false] HPL.out.1 HPL.out.2 (by rfl) (by rfl) rfl i97 HOne.out ?_; rintro w1 P7 B7; obtain ⟨P1, s1, hi1, hfull1⟩ := HFr.out w1 P7 B7; obtain ⟨n9, pn, t9, u, c1, k1, k2, k4, f2, f4, hi2, h64, hpn, HG', HD'⟩ := rbump_facts P1 (m := m) ⟨Nat.le_refl _, hm⟩ hi1 hfull1))
          go_ret2
          rw [HE.out, HD']
          exact ⟨rfl, G1, HG'.1, s1.trans HG'.2⟩
      · have HE : Hid (T.fetch a = ⟨(T.find.S.d.read a).1, [], T.find.S⟩) := by have e := PS.readIn_disk he h1; have := PS.fetch_no hix (by rw [e]; exact h1); rw [e] at this; exact this
        obtain ⟨z, hz⟩ : ∃ z, (T.find.S.d.read a).1 = z := ⟨_, rfl⟩
        rw [hz] at HE HRd h1
        generalize (T.find.S.d.read a).2 = t at HRd
        generalize T.find = fd at hF HRd HE
        clear P fo hV he hix hz
        go_enter Tryd.func15, Tryd.ntmps15
        go_wp2_with fail
        refine hhas.mono ?_
        rintro _ w ⟨rfl, rfl⟩
        go_wp2_with fail
        refine hF.mono ?_
        rintro _ w1 ⟨rfl, G1, P1, s1⟩
        have c0 : w1.cell? ⟨p, 0, none⟩ = some (.pointer (some ⟨q, 0, none⟩)) := P1.row.cell 0
        go_wp2_with fail
        refine (HRd.out w1 G1 P1).mono ?_
        rintro _ w1 ⟨rfl, rfl⟩
        go_wp2_with fail
        go_ret2
        rw [HE.out]
        exact ⟨rfl, G1, P1.mono (by omega), s1⟩
    · have HE : Hid (T.fetch a = ⟨T.find.e, [], T.find.S⟩) := by have e := PS.readIn_no (a := a) he; have := PS.fetch_no hix (by rw [e]; exact he); rw [e] at this; exact this
      obtain ⟨z, hz⟩ : ∃ z, T.find.e = z := ⟨_, rfl⟩
      have hV : FoundV T.find = .tuple #[.int .i64 (T.find.i : Int), .int .i64 z] := by unfold FoundV; rw [hz]
      rw [hV] at hF
      rw [hz] at HE he
      generalize T.find = fd at hF HE
      clear P hV hix hz
      go_enter Tryd.func15, Tryd.ntmps15
      go_wp2_with fail
      refine hhas.mono ?_
      rintro _ w ⟨rfl, rfl⟩
      go_wp2_with fail
      refine hF.mono ?_
      rintro _ w1 ⟨rfl, G1, P1, s1⟩
      go_wp2_with fail
      go_ret2
      rw [HE.out]
      exact ⟨rfl, G1, P1.mono (by omega), s1⟩

set_option maxHeartbeats 4000000 in
theorem runpin_any {w : World} {m p g c q : Nat} {G : Nat → Prop} {T : PS} (P : RP w m p g c q G T) (hm : m < 1000) (a : Int) :
    Calls Tryd.prog 17 #[.pointer (some ⟨p, 0, none⟩), .int .i64 a] w fun e w' => e = .returned (.int .i64 (T.unpin a).1) ∧ RPL p g c q G m w (T.unpin a).2 w' := by
  have hhas := rhas_any P a
  have HP : Hid (RP w m p g c q G T) := P
  cases hix : idx a (keys T.fs) with
  | none =>
    rw [idxZ_none hix] at hhas
    have HE : Hid (T.unpin a = (1, T)) := PS.unpin_none hix
    clear P hix
    go_enter Tryd.func17, Tryd.ntmps17
    go_wp2_with fail
    refine hhas.mono ?_
    rintro _ w ⟨rfl, rfl⟩
    go_wp2_with fail
    go_ret
    rw [HE.out]
    exact ⟨rfl, G, HP.out, Step.refl _ _⟩
  | some i =>
    rw [idxZ_some hix] at hhas
    obtain ⟨hi, hfull, _⟩ := idx_full hix
    obtain ⟨n, hn⟩ : ∃ n, T.fs.length = n := ⟨_, rfl⟩
    have c1 : w.cell? ⟨p, 1, none⟩ = some (.slice (some ⟨g, 0, none⟩) n c) := by rw [← hn]; exact P.row.cell 1
    have k2 : w.cell? ⟨g, i * 5 + 2, none⟩ = some (.int .i64 ((T.fm i).pins : Int)) := P.cells hi 2 _ rfl
    have f2 := P.frozen (i * 5 + 2)
    have h64 : n ≤ 64 := by rw [← hn]; exact P.inv.most
    have hin : (i : Int) < (n : Int) := by omega
    have hi0 : ¬ (i : Int) < 0 := by omega
    have hpb := P.pins _ (T.fm_mem hi)
    by_cases hp : (T.fm i).pins = 0
    · rw [hp] at k2
      have HE : Hid (T.unpin a = (1, T)) := PS.unpin_zero hix hp
      clear P hix hi hfull hn hp hpb
      go_enter Tryd.func17, Tryd.ntmps17
      go_wp2_with fail
      refine hhas.mono ?_
      rintro _ w ⟨rfl, rfl⟩
      go_wp2_with fail
      go_ret
      rw [HE.out]
      exact ⟨rfl, G, HP.out, Step.refl _ _⟩
    · have HE : Hid (T.unpin a = (0, T.setF i { T.fm i with pins := (T.fm i).pins - 1 })) := PS.unpin_some hix hp
      have P2 := P.field (f := { T.fm i with pins := (T.fm i).pins - 1 }) hi hfull rfl rfl rfl (Nat.le_refl m) (by simp only; omega) (j := 2) (v := .int .i64 (((T.fm i).pins - 1 : Nat) : Int)) (by decide) rfl
      rw [show ((((T.fm i).pins - 1 : Nat)) : Int) = ((T.fm i).pins : Int) - 1 by omega] at P2
      have HG : Hid (RP (w.setCell ⟨g, i * 5 + 2, none⟩ (.int .i64 (((T.fm i).pins : Int) - 1))) m p g c q G (T.setF i { T.fm i with pins := (T.fm i).pins - 1 })) := P2
      obtain ⟨pn, hpn⟩ : ∃ pn, (T.fm i).pins = pn := ⟨_, rfl⟩
      rw [hpn] at k2 HG hp hpb HE
      have hp' : ((pn : Int) == 0) = false := beq_eq_false_iff_ne.2 (by omega)
      have hi0' : decide ((i : Int) < 0) = false := decide_eq_false hi0
      clear P hix hi hfull hn P2 hpn
      go_enter Tryd.func17, Tryd.ntmps17
      go_wp2_with fail
      refine hhas.mono ?_
      rintro _ w ⟨rfl, rfl⟩
      go_wp2_with fail
      go_ret
      rw [HE.out]
      exact ⟨rfl, G, HG.out, Step.setCell w (a := ⟨g, i * 5 + 2, none⟩) (.inr (.inl rfl)) _⟩
end Go.Proofs.YtkcoclpbkealgaaDoor
