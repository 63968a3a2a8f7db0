/-
  The document's own pool in memory; which frame has a page; the pages it holds.
-/
import Derived.Test.YtkcoclpbkealgaaDoorRefF
import Derived.Test.YtkcoclpbkealgaaDoorQGood
namespace Go.Proofs.YtkcoclpbkealgaaDoor
open Go.RowKit
set_option maxRecDepth 20000

/-- Its number, or -1. -/
def rAt (f : Fm) : Int := if f.data = [] then -1 else (f.at_ : Int)
def rfL (f : Fm) : List Value := [.int .i64 (rAt f), .string (bs f.data), .int .i64 (f.pins : Int), .bool f.dirty, .bool f.used]
theorem rfL_length (f : Fm) : (rfL f).length = 5 := rfl
def rawL (a : Int) (t : List UInt8) (n : Nat) (d u : Bool) : List Value := [.int .i64 a, .string (bs t), .int .i64 (n : Int), .bool d, .bool u]
theorem rawL_one (a : Int) (t : List UInt8) (n : Nat) (d u : Bool) : ∀ v ∈ rawL a t n d u, v.oneCell' = true := fun v hv => by
  simp only [rawL, List.mem_cons, List.not_mem_nil, or_false] at hv
  rcases hv with rfl | rfl | rfl | rfl | rfl <;> rfl
theorem i97 : (Tryd.prog.info? 97).map (·.size) = some 5 := by kernel_rfl
theorem info97 : (Tryd.prog.info? 97).map (fun i => (i.zero, i.size, i.bytes)) = some (some (.agg (fmL noFm).toArray), 5, 40) := by kernel_rfl

/-- Its blocks and its disk's. -/
def rown (p g : Nat) (G : Nat → Prop) (k : Nat) : Prop := k = p ∨ k = g ∨ G k
structure RP (w : World) (m p g c q : Nat) (G : Nat → Prop) (T : PS) : Prop where
  inv : Inv T
  row : Row w p #[.pointer (some ⟨q, 0, none⟩), .slice (some ⟨g, 0, none⟩) T.fs.length c, .int .i64 (T.hand : Int)] 95
  pl : Pl w (fun x => x = g) 97 5 (.slice (some ⟨g, 0, none⟩) T.fs.length c) (T.fs.map rfL)
  disk : Rd w G q T.d
  pg : p ≠ g
  np : ¬ G p
  ng : ¬ G g
  pins : ∀ f ∈ T.fs, f.pins ≤ m
  room : T.d.ws.length + nd T.fs ≤ m
def RPL (p g c q : Nat) (G : Nat → Prop) (m : Nat) (w : World) (T : PS) (w' : World) : Prop := ∃ G', RP w' m p g c q G' T ∧ Step (rown p g G) (rown p g G') w w'
section
variable {w w' : World} {m p g c q : Nat} {G : Nat → Prop} {T : PS}
theorem RP.after (h : RP w m p g c q G T) (n : New w w') : RP w' m p g c q G T := { h with row := h.row.after n, pl := h.pl.after n, disk := h.disk.after n }
theorem RP.mono (h : RP w m p g c q G T) {m' : Nat} (hm : m ≤ m') : RP w m' p g c q G T := { h with pins := fun f hf => Nat.le_trans (h.pins f hf) hm, room := Nat.le_trans h.room hm }
theorem RP.g_lt (h : RP w m p g c q G T) : g < w.heap.size := h.pl.lt rfl
theorem RP.own_lt (h : RP w m p g c q G T) : ∀ x, rown p g G x → x < w.heap.size := fun x hx => by
  rcases hx with rfl | rfl | hx
  · exact h.row.lt
  · exact h.g_lt
  · exact h.disk.inside x hx
/-- Something else changes. -/
theorem RP.of (h : RP w m p g c q G T) (e : ∀ x, rown p g G x → w'.heap[x]? = w.heap[x]?) (hs : w.heap.size ≤ w'.heap.size) : RP w' m p g c q G T :=
  { h with row := h.row.of (e p (.inl rfl)), pl := h.pl.of (fun x hx _ => e x (.inr (.inl hx))) (fun _ h _ => h), disk := h.disk.of (fun x hx => e x (.inr (.inr hx))) hs }
/-- Its cells of a frame. -/
theorem RP.cells (h : RP w m p g c q G T) {i : Nat} (hi : i < T.fs.length) : w.rangeAt g (i * 5) (rfL (T.fm i)) := by
  have := h.pl.range (i := i) (by rw [List.length_map]; exact hi)
  rwa [List.getElem_map, show T.fs[i] = T.fm i by unfold PS.fm; rw [List.getD_eq_getElem?_getD, List.getElem?_eq_getElem hi]; rfl] at this
theorem RP.frozen (h : RP w m p g c q G T) (j : Nat) : w.frozen? ⟨g, j, none⟩ = false := by
  obtain ⟨cur, R, _⟩ := h.pl.row
  exact R.frozen j
/-- Frames, the hand and the disk anew. -/
theorem RP.make {m' : Nat} {T' : PS} {G' : Nat → Prop} (h : RP w m p g c q G T) (hI : Inv T') (hl : T'.fs.length = T.fs.length) (R : Row w' p #[.pointer (some ⟨q, 0, none⟩), .slice (some ⟨g, 0, none⟩) T.fs.length c, .int .i64 (T'.hand : Int)] 95)
    (P : Pl w' (fun x => x = g) 97 5 (.slice (some ⟨g, 0, none⟩) T.fs.length c) (T'.fs.map rfL)) (D : Rd w' G' q T'.d) (hp : ¬ G' p) (hg : ¬ G' g) (h1 : ∀ f ∈ T'.fs, f.pins ≤ m') (h2 : T'.d.ws.length + nd T'.fs ≤ m') : RP w' m' p g c q G' T' :=
  ⟨hI, by rw [hl]; exact R, by rw [hl]; exact P, D, h.pg, hp, hg, h1, h2⟩
/-- The disk's own call. -/
theorem RP.call {d' : St} (h : RP w m p g c q G T) (k : RLeft G q w d' w') (hps : d'.ps = T.d.ps) (hr : d'.ws.length + nd T.fs ≤ m) : ∃ G', RP w' m p g c q G' { T with d := d' } ∧ Step (rown p g G) (rown p g G') w w' := by
  obtain ⟨G', hd, hs⟩ := k
  have ltp := h.row.lt
  have ltg := h.g_lt
  have out : ∀ x, x < w.heap.size → ¬ G x → ¬ G' x := fun x hx hn hf => by rcases hs.foot x hf with h1 | h1; exact hn h1; omega
  refine ⟨G', h.make (T' := { T with d := d' }) ⟨h.inv.few, h.inv.most, h.inv.hand, h.inv.none, h.inv.size, by show ∀ f ∈ T.fs, f.data ≠ [] → f.at_ < d'.ps.length; rw [hps]; exact h.inv.in_, h.inv.apart⟩ rfl (h.row.of (hs.block p ltp h.np)) (h.pl.of (fun x hx hlt => hs.block x hlt (hx ▸ h.ng)) (fun _ h _ => h)) hd (out p ltp h.np) (out g ltg h.ng) h.pins hr, ⟨hs.os, hs.tape, hs.output, hs.size, fun x hx hn => hs.block x hx (fun hf => hn (.inr (.inr hf))), fun x hx => ?_⟩⟩
  rcases hx with rfl | rfl | hx
  · exact .inl (.inl rfl)
  · exact .inl (.inr (.inl rfl))
  · exact (hs.foot x hx).imp (fun h => .inr (.inr h)) id
/-- The hand. -/
theorem RP.setHand (h : RP w m p g c q G T) {k : Nat} (hk : k < T.fs.length) : RP (w.setCell ⟨p, 2, none⟩ (.int .i64 (k : Int))) m p g c q G { T with hand := k } := by
  have e : ∀ x, x ≠ p → (w.setCell ⟨p, 2, none⟩ (.int .i64 (k : Int))).heap[x]? = w.heap[x]? := fun x hx => Below.heap_setCell _ _ _ _ hx
  have hs : w.heap.size ≤ (w.setCell ⟨p, 2, none⟩ (.int .i64 (k : Int))).heap.size := by simp [World.setCell]
  exact h.make (T' := { T with hand := k }) ⟨h.inv.few, h.inv.most, hk, h.inv.none, h.inv.size, h.inv.in_, h.inv.apart⟩ rfl (h.row.set 2 _) (h.pl.of (fun x hx _ => e x (hx ▸ h.pg.symm)) (fun _ h _ => h)) (h.disk.of (fun x hx => e x (fun e2 => h.np (e2 ▸ hx))) hs) h.np h.ng h.pins h.room
/-- A frame. -/
theorem RP.frame {m' i : Nat} {f : Fm} (h : RP w m p g c q G T) (hb : But g w w') (P : Pl w' (fun x => x = g) 97 5 (.slice (some ⟨g, 0, none⟩) T.fs.length c) ((T.fs.map rfL).set i (rfL f))) (hI : Inv (T.setF i f)) (h1 : ∀ f2 ∈ (T.setF i f).fs, f2.pins ≤ m') (h2 : T.d.ws.length + nd (T.fs.set i f) ≤ m') : RP w' m' p g c q G (T.setF i f) :=
  h.make (T' := T.setF i f) hI (setF_len _ _ _) (h.row.of (hb.block p h.pg)) (by show Pl w' _ 97 5 _ ((T.fs.set i f).map rfL); rw [List.map_set]; exact P) (h.disk.of (fun x hx => hb.block x (fun e2 => h.ng (e2 ▸ hx))) (by rw [hb.size]; exact Nat.le_refl _)) h.np h.ng h1 h2
/-- One field of a frame. -/
theorem RP.fieldPl (h : RP w m p g c q G T) {i j : Nat} (hi : i < T.fs.length) (hj : j < 5) {v : Value} {e : List Value} (he : (rfL (T.fm i)).set j v = e) : Pl (w.setCell ⟨g, i * 5 + j, none⟩ v) (fun x => x = g) 97 5 (.slice (some ⟨g, 0, none⟩) T.fs.length c) ((T.fs.map rfL).set i e) := by
  have h1 := h.pl.setField (i := i) (by rw [List.length_map]; exact hi) hj v
  have : (T.fs.map rfL)[i]'(by rw [List.length_map]; exact hi) = rfL (T.fm i) := by rw [List.getElem_map]; unfold PS.fm; rw [List.getD_eq_getElem?_getD, List.getElem?_eq_getElem hi]; rfl
  rw [this, he] at h1
  exact h1
end
theorem RPL.trans {p g c q m : Nat} {G G' : Nat → Prop} {w w1 w2 : World} {T : PS} (s : Step (rown p g G) (rown p g G') w w1) (h : RPL p g c q G' m w1 T w2) : RPL p g c q G m w T w2 := by
  obtain ⟨G2, P2, s2⟩ := h; exact ⟨G2, P2, s.trans s2⟩

/-! Which frame has a page. -/
def idxZ (a : Int) (ks : List (Option Nat)) : Int := match idx a ks with | some i => (i : Int) | none => -1
theorem idx_first {a : Int} {ks : List (Option Nat)} {i : Nat} (hi : i < ks.length) (h : isAt a (ks.getD i none) = true) (hb : ∀ j, j < i → isAt a (ks.getD j none) = false) : idx a ks = some i := by
  unfold idx
  refine List.findIdx?_eq_some_iff_getElem.2 ⟨hi, by rw [List.getD_eq_getElem?_getD, List.getElem?_eq_getElem hi] at h; exact h, fun j hj => ?_⟩
  have := hb j hj
  rw [List.getD_eq_getElem?_getD, List.getElem?_eq_getElem (by omega)] at this
  simpa using this
theorem idx_nowhere {a : Int} {ks : List (Option Nat)} (hb : ∀ j, j < ks.length → isAt a (ks.getD j none) = false) : idx a ks = none := by
  unfold idx
  refine List.findIdx?_eq_none_iff.2 fun x hx => ?_
  obtain ⟨j, hj⟩ := List.mem_iff_getElem?.1 hx
  have := hb j (List.getElem?_eq_some_iff.1 hj).1
  rw [List.getD_eq_getElem?_getD, hj] at this
  exact this
theorem keys_getD {fs : List Fm} {i : Nat} (hi : i < fs.length) : (keys fs).getD i none = (fs.getD i noFm).key := by rw [List.getD_eq_getElem?_getD, keys_at hi]; rfl
theorem isAt_rAt (f : Fm) (a : Int) : isAt a f.key = (decide (rAt f = a) && decide (0 ≤ a)) := by
  unfold rAt Fm.key
  by_cases h : f.data = []
  · rw [if_pos h, if_pos h]
    show false = _
    by_cases h2 : (-1 : Int) = a
    · rw [decide_eq_true h2, decide_eq_false (by omega)]; rfl
    · rw [decide_eq_false h2]; rfl
  · rw [if_neg h, if_neg h]
    show decide ((f.at_ : Int) = a) = _
    by_cases h2 : (f.at_ : Int) = a
    · rw [decide_eq_true h2, decide_eq_true (by omega : (0 : Int) ≤ a)]; rfl
    · rw [decide_eq_false h2]; rfl
set_option maxHeartbeats 4000000 in
theorem rhas_any {w : World} {m p g c q : Nat} {G : Nat → Prop} {T : PS} (P : RP w m p g c q G T) (a : Int) :
    Calls Tryd.prog 43 #[.pointer (some ⟨p, 0, none⟩), .int .i64 a] w fun e w' => e = .returned (.int .i64 (idxZ a (keys T.fs))) ∧ w' = w := by
  obtain ⟨n, hn⟩ : ∃ n, T.fs.length = n := ⟨_, rfl⟩
  have c1 : w.cell? ⟨p, 1, none⟩ = some (.slice (some ⟨g, 0, none⟩) n c) := by rw [← hn]; exact P.row.cell 1
  have h64 : n ≤ 64 := by rw [← hn]; exact P.inv.most
  have HK : Hid (∀ i, i < n → w.cell? ⟨g, i * 5, none⟩ = some (.int .i64 (rAt (T.fm i)))) := fun i hi => by have := P.cells (i := i) (by omega) 0 _ rfl; rw [Nat.add_zero] at this; exact this
  have HN : Hid (T.fs.length = n) := hn
  clear P hn
  go_enter Tryd.func43, Tryd.ntmps43
  go_wp2_with fail
  go_loop [5] (fun u => ∃ i : Nat, u = .int .i64 (i : Int) ∧ i ≤ n ∧ Hid (∀ j, j < i → isAt a ((keys T.fs).getD j none) = false)) (fun u => n - (intOf u).toNat)
  case atStart => exact ⟨0, rfl, by omega, fun j hj => by omega⟩
  case round =>
    obtain ⟨i, rfl, hi, HB⟩ := hrel
    by_cases h : i < n
    · have h' : (i : Int) < (n : Int) := by omega
      have hil : i < T.fs.length := by rw [HN.out]; exact h
      have k0 := HK.out i h
      have HA : Hid (isAt a ((keys T.fs).getD i none) = (decide (rAt (T.fm i) = a) && decide (0 ≤ a))) := by show _ = _; rw [keys_getD hil, isAt_rAt]; rfl
      generalize rAt (T.fm i) = x at k0 HA
      clear hil
      have HS : Hid (∀ b, isAt a ((keys T.fs).getD i none) = b → b = false → (∀ j, j < i + 1 → isAt a ((keys T.fs).getD j none) = false)) := fun b h1 h2 j hj => by
        by_cases e : j = i
        · subst e; rw [h1, h2]
        · exact HB.out j (by omega)
      by_cases hx : x = a
      · by_cases ha : 0 ≤ a
        · have ha' : a ≥ 0 := ha
          go_wp2_with fail
          go_ret
          have : idxZ a (keys T.fs) = (i : Int) := by
            unfold idxZ
            rw [idx_first (by rw [keys_length, HN.out]; exact h) (by rw [HA.out, decide_eq_true hx, decide_eq_true ha]; rfl) HB.out]
          exact ⟨ret_int this.symm, rfl⟩
        · go_wp2_with fail
          go_round
          case rel => exact ⟨i + 1, by simp, by omega, HS.out _ HA.out (by rw [decide_eq_false ha]; simp)⟩
          case measure => simp [intOf]; omega
      · go_wp2_with fail
        go_round
        case rel => exact ⟨i + 1, by simp, by omega, HS.out _ HA.out (by rw [decide_eq_false hx]; rfl)⟩
        case measure => simp [intOf]; omega
    · obtain rfl : i = n := by omega
      go_wp2_with fail
      go_ret
      have : idxZ a (keys T.fs) = -1 := by
        unfold idxZ
        rw [idx_nowhere (fun j hj => HB.out j (by rw [keys_length, HN.out] at hj; exact hj))]
      exact ⟨ret_int this.symm, rfl⟩
end Go.Proofs.YtkcoclpbkealgaaDoor
