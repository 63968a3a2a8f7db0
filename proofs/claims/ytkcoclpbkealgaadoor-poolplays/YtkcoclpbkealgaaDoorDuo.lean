/-
  The program's pool and the document's own in memory, apart, all of it made since w0.
-/
import Derived.Test.YtkcoclpbkealgaaDoorLike
namespace Go.Proofs.YtkcoclpbkealgaaDoor
open Go.RowKit
set_option maxRecDepth 20000

theorem Inv.disk {S : PS} (h : Inv S) {d : St} (hl : d.ps.length = S.d.ps.length) : Inv { S with d := d } :=
  ⟨h.few, h.most, h.hand, h.none, h.size, fun f hf hn => by show f.at_ < d.ps.length; rw [hl]; exact h.in_ f hf hn, h.apart⟩
/-- The disk's own call. -/
theorem Pool.disk {w w' : World} {m p g b q : Nat} {F : Nat → Prop} {S : PS} {d : St} (P : Pool w m p g b q F S) (k : Left F q w d w') (hl : d.ps.length = S.d.ps.length) (hr : d.ws.length ≤ S.d.ws.length) : PLeft p g b q F m w { S with d := d } w' := by
  obtain ⟨F', B', s⟩ := P.bits.call k
  exact ⟨F', ⟨P.inv.disk hl, B', P.pins, Nat.le_trans (Nat.add_le_add_right hr _) P.room⟩, s⟩
theorem RP.disk' {w w' : World} {m p g c q : Nat} {G : Nat → Prop} {T : PS} {d : St} (h : RP w m p g c q G T) (k : RLeft G q w d w') (hl : d.ps.length = T.d.ps.length) (hr : d.ws.length ≤ T.d.ws.length) : RPL p g c q G m w { T with d := d } w' := by
  obtain ⟨G', hd, hs⟩ := k
  have ltp := h.row.lt
  have ltg := h.g_lt
  have out : ∀ x, x < w.heap.size → ¬ G x → ¬ G' x := fun x hx hn hf => by rcases hs.foot x hf with h1 | h1; exact hn h1; omega
  refine ⟨G', h.make (T' := { T with d := d }) (h.inv.disk hl) rfl (h.row.of (hs.block p ltp h.np)) (h.pl.of (fun x hx hlt => hs.block x hlt (hx ▸ h.ng)) (fun _ h _ => h)) hd (out p ltp h.np) (out g ltg h.ng) h.pins (Nat.le_trans (Nat.add_le_add_right hr _) h.room), ?_⟩
  refine ⟨hs.os, hs.tape, hs.output, hs.size, fun x hlt hx => hs.block x hlt (fun hg => hx (.inr (.inr hg))), fun x hx => ?_⟩
  rcases hx with rfl | rfl | hx
  · exact .inl (.inl rfl)
  · exact .inl (.inr (.inl rfl))
  · exact (hs.foot x hx).imp (fun h => .inr (.inr h)) id

structure Duo (w0 w : World) (m p g b q p' g' c q' : Nat) (F G : Nat → Prop) (S T : PS) : Prop where
  P : Pool w m p g b q F S
  R : RP w m p' g' c q' G T
  sep : ∀ x, own p g b F x → ¬ rown p' g' G x
  AF : Above w0.heap.size w0 w (own p g b F)
  AG : Above w0.heap.size w0 w (rown p' g' G)
  z : 0 < w0.heap.size
section
variable {w0 w w' : World} {m p g b q p' g' c q' : Nat} {F G : Nat → Prop} {S T : PS}
theorem Duo.new (h : Duo w0 w m p g b q p' g' c q' F G S T) (n : New w w') : Duo w0 w' m p g b q p' g' c q' F G S T := ⟨h.P.after n, h.R.after n, h.sep, h.AF.new n, h.AG.new n, h.z⟩
theorem Duo.mono (h : Duo w0 w m p g b q p' g' c q' F G S T) {n : Nat} (hn : m ≤ n) : Duo w0 w n p g b q p' g' c q' F G S T := ⟨h.P.mono hn, h.R.mono hn, h.sep, h.AF, h.AG, h.z⟩
theorem Duo.left (h : Duo w0 w m p g b q p' g' c q' F G S T) {m' : Nat} (hm : m ≤ m') {S' : PS} (k : PLeft p g b q F m' w S' w') : ∃ F', Duo w0 w' m' p g b q p' g' c q' F' G S' T ∧ Step (own p g b F) (own p g b F') w w' := by
  obtain ⟨F', P', s⟩ := k
  have hA := h.AF.step s
  refine ⟨F', ⟨P', (h.R.of (fun x hx => s.block x (h.R.own_lt x hx) (fun hf => h.sep x hf hx)) s.size).mono hm, fun x hx hg => ?_, hA, ⟨hA.below, h.AG.foot, hA.size⟩, h.z⟩, s⟩
  rcases s.foot x hx with h1 | h1
  · exact h.sep x h1 hg
  · have := h.R.own_lt x hg
    omega
theorem Pool.of (h : Pool w m p g b q F S) {G G' : Nat → Prop} (s : Step G G' w w') (hd : ∀ x, own p g b F x → ¬ G x) (h0 : ¬ G 0) : Pool w' m p g b q F S := by
  have e : ∀ x, own p g b F x → w'.heap[x]? = w.heap[x]? := fun x hx => s.block x (h.bits.own_lt x hx) (hd x hx)
  refine ⟨h.inv, { h.bits with
    tab := h.bits.tab.of (s.block 0 h.bits.tab.1 h0) s.size
    row := h.bits.row.of (e p (.inl rfl))
    pl := h.bits.pl.of (fun x hx _ => e x (.inr (.inl hx))) (fun _ h _ => h)
    map := by obtain ⟨D, h1, h2⟩ := h.bits.map; exact ⟨D, owns_of h1 (e b (.inr (.inr (.inl rfl)))), h2⟩
    disk := h.bits.disk.of (fun x hx => e x (.inr (.inr (.inr hx)))) s.size }, h.pins, h.room⟩
theorem Duo.right (h : Duo w0 w m p g b q p' g' c q' F G S T) {m' : Nat} (hm : m ≤ m') {T' : PS} (k : RPL p' g' c q' G m' w T' w') : ∃ G', Duo w0 w' m' p g b q p' g' c q' F G' S T' ∧ Step (rown p' g' G) (rown p' g' G') w w' := by
  obtain ⟨G', R', s⟩ := k
  have hA := h.AG.step s
  refine ⟨G', ⟨(h.P.of s h.sep (fun h0 => by have := h.AG.foot 0 h0; have := h.z; omega)).mono hm, R', fun x hx hg => ?_, ⟨hA.below, h.AF.foot, hA.size⟩, hA, h.z⟩, s⟩
  rcases s.foot x hg with h1 | h1
  · exact h.sep x hx h1
  · have := h.P.bits.own_lt x hx
    omega
theorem Duo.toNew (h : Duo w0 w m p g b q p' g' c q' F G S T) : New w0 w := h.AF.below
theorem Row.aside {cs : Array Value} {t : TypeId} {k : Nat} {F F' : Nat → Prop} (R : Row w k cs t) (s : Step F F' w w') (hn : ¬ F k) : Row w' k cs t ∧ ¬ F' k :=
  ⟨R.of (s.block k R.lt hn), fun h => (s.foot k h).elim hn (fun h => by have := R.lt; omega)⟩
end
/-- A new pair. -/
theorem Duo.make {w0 w w' w2 : World} {p g b q p' g' c q' n : Nat} {F G : Nat → Prop} {d : St} (hz : 0 < w0.heap.size) (hN : New w0 w) (hF : ∀ x, F x → w0.heap.size ≤ x) (hG : ∀ x, G x → w0.heap.size ≤ x) (hFG : ∀ x, F x → ¬ G x)
    (hp : w.heap.size ≤ p) (hg : w.heap.size ≤ g) (hb : w.heap.size ≤ b) (P : ∀ m, d.ws.length ≤ m → Pool w' m p g b q F (startP d n)) (N1 : New w w') (hGl : ∀ x, G x → x < w.heap.size)
    (hp' : w'.heap.size ≤ p') (hg' : w'.heap.size ≤ g') (R : ∀ m, d.ws.length ≤ m → RP w2 m p' g' c q' G (startP d n)) (N2 : New w' w2) (hd : d.ws = []) : Duo w0 w2 0 p g b q p' g' c q' F G (startP d n) (startP d n) := by
  have P0 := P 0 (by rw [hd]; exact Nat.le_refl _)
  have s0 := hN.size
  have s1 := N1.size
  have NN := (hN.trans N1).trans N2
  refine ⟨P0.after N2, R 0 (by rw [hd]; exact Nat.le_refl _), fun x hx hr => ?_, ⟨NN, fun x hx => ?_, NN.size⟩, ⟨NN, fun x hx => ?_, NN.size⟩, hz⟩
  · have hl := P0.bits.own_lt x hx
    rcases hr with rfl | rfl | hr
    · omega
    · omega
    · have := hGl x hr
      rcases hx with rfl | rfl | rfl | hx
      · omega
      · omega
      · omega
      · exact hFG x hx hr
  · rcases hx with rfl | rfl | rfl | hx
    · omega
    · omega
    · omega
    · exact hF x hx
  · rcases hx with rfl | rfl | hx
    · omega
    · omega
    · exact hG x hx
end Go.Proofs.YtkcoclpbkealgaaDoor
