/-
  A pool in memory: its own cells, its frames, its map, its disk.
-/
import Derived.Test.YtkcoclpbkealgaaDoorQPlain
import Derived.Test.YtkcoclpbkealgaaDoorPgPage
import Derived.Test.YtkcoclpbkealgaaDoorHold
import Derived.Maps.OwnSet
namespace Go.Proofs.YtkcoclpbkealgaaDoor
open Go.RowKit Go.Maps
set_option maxRecDepth 20000

def fmL (f : Fm) : List Value := [.int .i64 (f.at_ : Int), .string (bs f.data), .int .i64 (f.pins : Int), .bool f.dirty, .bool f.used]
theorem fmL_length (f : Fm) : (fmL f).length = 5 := rfl
theorem fmL_one (f : Fm) : ∀ v ∈ fmL f, v.oneCell' = true := fun v hv => by
  simp only [fmL, List.mem_cons, List.not_mem_nil, or_false] at hv
  rcases hv with rfl | rfl | rfl | rfl | rfl <;> rfl

def Apart (ks : List (Option Nat)) : Prop := ∀ i j x : Nat, ks[i]? = some (some x) → ks[j]? = some (some x) → i = j
theorem idx_iff {a : Int} {ks : List (Option Nat)} (hA : Apart ks) (i : Nat) : idx a ks = some i ↔ ∃ x : Nat, ks[i]? = some (some x) ∧ (x : Int) = a :=
  ⟨idx_at, fun ⟨_, h1, h2⟩ => idx_eq hA h1 h2⟩
theorem idx_ext {a : Int} {ks ks' : List (Option Nat)} (hA' : Apart ks') (h : ∀ i x : Nat, (x : Int) = a → (ks[i]? = some (some x) ↔ ks'[i]? = some (some x))) : idx a ks = idx a ks' := by
  cases h1 : idx a ks with
  | some i => obtain ⟨x, h2, h3⟩ := idx_at h1; exact (idx_eq hA' ((h i x h3).1 h2) h3).symm
  | none =>
    cases h2 : idx a ks' with
    | none => rfl
    | some j => obtain ⟨x, h3, h4⟩ := idx_at h2; exact absurd h4 (idx_none h1 j x ((h j x h4).2 h3))
theorem Apart.put {ks : List (Option Nat)} (hA : Apart ks) {i a : Nat} (hn : idx (a : Int) ks = none) : Apart (ks.set i (some a)) := by
  have key : ∀ j x : Nat, (ks.set i (some a))[j]? = some (some x) → (i = j ∧ x = a) ∨ (i ≠ j ∧ ks[j]? = some (some x) ∧ x ≠ a) := fun j x hj => by
    by_cases e : i = j
    · subst e
      by_cases hi : i < ks.length
      · rw [List.getElem?_set_self hi] at hj; simp at hj; exact .inl ⟨rfl, hj.symm⟩
      · rw [List.getElem?_eq_none (by rw [List.length_set]; omega)] at hj; cases hj
    · rw [List.getElem?_set_ne e] at hj; exact .inr ⟨e, hj, fun e2 => idx_none hn j x hj (by rw [e2])⟩
  intro j k x hj hk
  rcases key j x hj with ⟨h1, h2⟩ | ⟨h1, h2, h3⟩ <;> rcases key k x hk with ⟨k1, k2⟩ | ⟨k1, k2, k3⟩
  · omega
  · exact absurd h2 k3
  · exact absurd k2 h3
  · exact hA j k x h2 k2
theorem Apart.del {ks : List (Option Nat)} (hA : Apart ks) (i : Nat) : Apart (ks.set i none) := by
  have key : ∀ j x : Nat, (ks.set i none)[j]? = some (some x) → ks[j]? = some (some x) := fun j x hj => by
    by_cases e : i = j
    · subst e
      by_cases hi : i < ks.length
      · rw [List.getElem?_set_self hi] at hj; cases hj
      · rw [List.getElem?_eq_none (by rw [List.length_set]; omega)] at hj; cases hj
    · rwa [List.getElem?_set_ne e] at hj
  exact fun j k x hj hk => hA j k x (key j x hj) (key k x hk)

/-- What the map reads as: by a page's number, which frame has it. -/
def MapOf (D : DataW Unit) (ks : List (Option Nat)) : Prop :=
  ∀ a : Int, Maps.has D (.int .i64 a) = (idx a ks).isSome ∧ D.atKey (.int .i64 a) (.lit (.int .i64 0)) = .lit (.int .i64 (((idx a ks).getD 0 : Nat) : Int))
theorem lit_ne {a x : Int} (h : x ≠ a) : (Lit.int .i64 x) ≠ .int .i64 a := fun e => h (by injection e)
theorem MapOf.put {D : DataW Unit} {ks : List (Option Nat)} (h : MapOf D ks) (hD : IsMap D) (hA : Apart ks) {i a : Nat} (hi : i < ks.length) (hk : ks[i]? = some none) (hn : idx (a : Int) ks = none) : MapOf (D.put (.int .i64 (a : Int)) (.lit (.int .i64 (i : Int)))) (ks.set i (some a)) := by
  intro x
  have hA' := hA.put (i := i) hn
  by_cases e : x = (a : Int)
  · subst e
    have : idx (a : Int) (ks.set i (some a)) = some i := idx_eq hA' (List.getElem?_set_self hi) rfl
    have hkl : WideAt.IsKeyLit (Lit.int .i64 (a : Int)) := trivial
    rw [this, has_put_same hD hkl, atKey_put_same hD hkl]
    exact ⟨rfl, rfl⟩
  · rw [has_put_other (lit_ne e), atKey_put_other (lit_ne e)]
    have : idx x (ks.set i (some a)) = idx x ks := idx_ext hA fun j y hy => by
      by_cases e2 : i = j
      · subst e2
        rw [List.getElem?_set_self hi, hk]
        simp only [Option.some.injEq, reduceCtorEq, iff_false]
        intro e3; apply e; rw [← hy, e3]
      · rw [List.getElem?_set_ne e2]
    rw [this]; exact h x
theorem MapOf.del {D : DataW Unit} {ks : List (Option Nat)} (h : MapOf D ks) (hA : Apart ks) {i a : Nat} (hk : ks[i]? = some (some a)) : MapOf (D.del (.int .i64 (a : Int))) (ks.set i none) := by
  intro x
  have hA' := hA.del i
  have hi : i < ks.length := (List.getElem?_eq_some_iff.1 hk).1
  by_cases e : x = (a : Int)
  · subst e
    have : idx (a : Int) (ks.set i none) = none := by
      cases h1 : idx (a : Int) (ks.set i none) with
      | none => rfl
      | some j =>
        obtain ⟨y, hy, hya⟩ := idx_at h1
        have e3 : y = a := by omega
        subst e3
        by_cases e2 : i = j
        · subst e2; rw [List.getElem?_set_self hi] at hy; cases hy
        · rw [List.getElem?_set_ne e2] at hy; exact absurd (hA i j _ hk hy) e2
    rw [this, has_del_same, atKey_del_same]
    exact ⟨rfl, rfl⟩
  · rw [has_del_other (lit_ne e), atKey_del_other (lit_ne e)]
    have : idx x (ks.set i none) = idx x ks := idx_ext hA fun j y hy => by
      by_cases e2 : i = j
      · subst e2
        rw [List.getElem?_set_self hi, hk]
        simp only [Option.some.injEq, reduceCtorEq, false_iff]
        intro e3; apply e; rw [← hy, ← e3]
      · rw [List.getElem?_set_ne e2]
    rw [this]; exact h x

/-- The blocks of a pool and of its disk. -/
def own (p g b : Nat) (Fd : Nat → Prop) (k : Nat) : Prop := k = p ∨ k = g ∨ k = b ∨ Fd k
theorem mapLaw : Keyed Tryd.prog 3 := int_keyed Tryd.underlying3
theorem zero3 (w : World) : (zeroValue 3).run Tryd.prog w = .ok (.int .i64 0) w := by kernel_rfl
theorem i103 : (Tryd.prog.info? 103).map (·.size) = some 5 := by kernel_rfl
theorem info103 : (Tryd.prog.info? 103).map (fun i => (i.zero, i.size, i.bytes)) = some (some (.agg (fmL noFm).toArray), 5, 40) := by kernel_rfl

/-- A pool's parts; ks: what its map says. -/
structure Bits (w : World) (m p g b q : Nat) (Fd : Nat → Prop) (d : St) (fs : List Fm) (hand : Nat) (ks : List (Option Nat)) : Prop where
  tab : Tab w
  row : Row w p #[.pointer (some ⟨q, 0, none⟩), .slice (some ⟨g, 0, none⟩) fs.length fs.length, .map (some b), .int .i64 (hand : Int)] 92
  pl : Pl w (fun x => x = g) 103 5 (.slice (some ⟨g, 0, none⟩) fs.length fs.length) (fs.map fmL)
  map : ∃ D : DataW Unit, w.ownsMap Tryd.prog 3 (plainElem Tryd.prog 3) b m D ∧ MapOf D ks
  disk : Disk w Fd q d
  keys : Apart ks
  pg : p ≠ g
  pb : p ≠ b
  gb : g ≠ b
  np : ¬ Fd p
  ng : ¬ Fd g
  nb : ¬ Fd b
  n0 : ¬ Fd 0
  p0 : p ≠ 0
  g0 : g ≠ 0
  b0 : b ≠ 0
section
variable {w w' : World} {m p g b q : Nat} {Fd : Nat → Prop} {d : St} {fs : List Fm} {hand : Nat} {ks : List (Option Nat)}
theorem Tab.of (h : Tab w) (h0 : w'.heap[0]? = w.heap[0]?) (hs : w.heap.size ≤ w'.heap.size) : Tab w' := by
  refine ⟨Nat.lt_of_lt_of_le h.1 hs, fun i hi => ?_⟩
  have := h.2 i hi
  unfold World.cell? at this ⊢
  simp only at this ⊢
  rw [h0]; exact this
theorem owns_of {D : DataW Unit} (h : w.ownsMap Tryd.prog 3 (plainElem Tryd.prog 3) b m D) (e : w'.heap[b]? = w.heap[b]?) : w'.ownsMap Tryd.prog 3 (plainElem Tryd.prog 3) b m D := by
  obtain ⟨es, clock, hb, r⟩ := h
  exact ⟨es, clock, e.trans hb, r⟩
theorem Bits.g_lt (h : Bits w m p g b q Fd d fs hand ks) : g < w.heap.size := h.pl.lt rfl
theorem Bits.b_lt (h : Bits w m p g b q Fd d fs hand ks) : b < w.heap.size := by obtain ⟨D, h1, _⟩ := h.map; exact h1.lt
theorem Bits.mono (h : Bits w m p g b q Fd d fs hand ks) {n : Nat} (hn : m ≤ n) : Bits w n p g b q Fd d fs hand ks :=
  { h with map := by obtain ⟨D, h1, h2⟩ := h.map; exact ⟨D, h1.mono hn, h2⟩ }
/-- New memory alone. -/
theorem Bits.after (h : Bits w m p g b q Fd d fs hand ks) (n : New w w') : Bits w' m p g b q Fd d fs hand ks :=
  { h with
    tab := h.tab.after n
    row := h.row.after n
    pl := h.pl.after n
    map := by obtain ⟨D, h1, h2⟩ := h.map; exact ⟨D, owns_of h1 (n.block b h1.lt), h2⟩
    disk := h.disk.after n }
/-- The hand. -/
theorem Bits.setHand (h : Bits w m p g b q Fd d fs hand ks) (k : Nat) : Bits (w.setCell ⟨p, 3, none⟩ (.int .i64 (k : Int))) m p g b q Fd d fs k ks := by
  have e : ∀ x, x ≠ p → (w.setCell ⟨p, 3, none⟩ (.int .i64 (k : Int))).heap[x]? = w.heap[x]? := fun x hx => Below.heap_setCell _ _ _ _ hx
  have hs : w.heap.size ≤ (w.setCell ⟨p, 3, none⟩ (.int .i64 (k : Int))).heap.size := by simp [World.setCell]
  exact { h with
    tab := h.tab.of (e 0 h.p0.symm) hs
    row := h.row.set 3 _
    pl := h.pl.of (fun x hx _ => e x (hx ▸ h.pg.symm)) (fun _ h _ => h)
    map := by obtain ⟨D, h1, h2⟩ := h.map; exact ⟨D, owns_of h1 (e b h.pb.symm), h2⟩
    disk := h.disk.of (fun x hx => e x (fun e2 => h.np (e2 ▸ hx))) hs }
/-- A frame. -/
theorem Bits.frames {fs' : List Fm} (h : Bits w m p g b q Fd d fs hand ks) (hb : But g w w') (hl : fs'.length = fs.length) (hp : Pl w' (fun x => x = g) 103 5 (.slice (some ⟨g, 0, none⟩) fs.length fs.length) (fs'.map fmL)) : Bits w' m p g b q Fd d fs' hand ks :=
  { h with
    tab := h.tab.of (hb.block 0 h.g0.symm) (by rw [hb.size]; exact Nat.le_refl _)
    row := by rw [hl]; exact h.row.of (hb.block p h.pg)
    pl := by rw [hl]; exact hp
    map := by obtain ⟨D, h1, h2⟩ := h.map; exact ⟨D, owns_of h1 (hb.block b h.gb.symm), h2⟩
    disk := h.disk.of (fun x hx => hb.block x (fun e2 => h.ng (e2 ▸ hx))) (by rw [hb.size]; exact Nat.le_refl _) }
theorem Pl.setField {F : Nat → Prop} {t : TypeId} {k n c : Nat} {es : List (List Value)} (h : Pl w F t k (.slice (some ⟨g, 0, none⟩) n c) es) {i : Nat} (hi : i < es.length) {j : Nat} (hj : j < k) (v : Value) :
    Pl (w.setCell ⟨g, i * k + j, none⟩ v) F t k (.slice (some ⟨g, 0, none⟩) n c) (es.set i (es[i].set j v)) := by
  obtain ⟨cur, R, rfl, h4, h5, h6, h7⟩ := h.row
  have hik : i * k + k ≤ es.length * k := by rw [← Nat.succ_mul]; exact Nat.mul_le_mul_right _ hi
  have hck : es.length * k ≤ c * k := Nat.mul_le_mul_right _ h4
  have hei := h.each _ (List.getElem_mem hi)
  have := Pl.make (w := w.setCell ⟨g, i * k + j, none⟩ v) (F := F) (t := t) (k := k) (g := g) (c := c) (es := es.set i (es[i].set j v)) (cur := cur.setIfInBounds (i * k + j) v) ?_ (R.set _ _) (by rw [List.length_set]; exact h4) h5 (by rw [Array.size_setIfInBounds, h6]) ?_ (h.foot g rfl)
  · rw [List.length_set] at this; exact this
  · intro x hx
    rcases List.mem_or_eq_of_mem_set hx with h1 | rfl
    · exact h.each x h1
    · rw [List.length_set]; exact hei
  · rw [List.length_set, Array.toList_setIfInBounds, List.take_set, h7, ← flat_set i hi h.each _ (by rw [List.length_set]; exact hei)]
    unfold put
    rw [List.length_set, hei]
    apply List.ext_getElem?
    intro x
    have hfl := flat_length h.each
    by_cases h1 : x < i * k
    · rw [List.getElem?_set_ne (by omega), List.getElem?_append_left (by rw [List.length_take]; omega), List.getElem?_take, if_pos h1]
    · rw [List.getElem?_append_right (by rw [List.length_take]; omega), List.length_take, show min (i * k) es.flatten.length = i * k by omega]
      by_cases h2 : x < i * k + k
      · rw [List.getElem?_append_left (by rw [List.length_set]; omega)]
        by_cases h3 : x = i * k + j
        · subst h3
          rw [List.getElem?_set_self (by omega), show i * k + j - i * k = j by omega, List.getElem?_set_self (by omega)]
        · rw [List.getElem?_set_ne (by omega), List.getElem?_set_ne (by omega), show x = i * k + (x - i * k) by omega, flat_cell h.each hi (by omega)]
          congr 1; omega
      · rw [List.getElem?_set_ne (by omega), List.getElem?_append_right (by rw [List.length_set]; omega), List.length_set, hei, List.getElem?_drop]
        congr 1; omega
theorem But.setCell' (w : World) (g i : Nat) (v : Value) : But g w (w.setCell ⟨g, i, none⟩ v) := ⟨rfl, rfl, rfl, by simp [World.setCell], fun k hk => Below.heap_setCell _ _ _ _ hk⟩
theorem Bits.field (h : Bits w m p g b q Fd d fs hand ks) {i j : Nat} (hi : i < fs.length) (hj : j < 5) {v : Value} {f : Fm} (hf : (fmL (fs.getD i noFm)).set j v = fmL f) : Bits (w.setCell ⟨g, i * 5 + j, none⟩ v) m p g b q Fd d (fs.set i f) hand ks := by
  have h1 := h.pl.setField (i := i) (by rw [List.length_map]; exact hi) hj v
  refine h.frames (But.setCell' w g _ v) (List.length_set ..) ?_
  rw [List.map_set, ← hf]
  have : (fs.map fmL)[i]'(by rw [List.length_map]; exact hi) = fmL (fs.getD i noFm) := by rw [List.getElem_map, List.getD_eq_getElem?_getD, List.getElem?_eq_getElem hi]; rfl
  rw [← this]; exact h1
/-- The cells of a frame. -/
theorem Bits.cells (h : Bits w m p g b q Fd d fs hand ks) {i : Nat} (hi : i < fs.length) : w.rangeAt g (i * 5) (fmL (fs.getD i noFm)) := by
  have := h.pl.range (i := i) (by rw [List.length_map]; exact hi)
  rwa [List.getElem_map, show fs[i] = fs.getD i noFm by rw [List.getD_eq_getElem?_getD, List.getElem?_eq_getElem hi]; rfl] at this
theorem Bits.frozen (h : Bits w m p g b q Fd d fs hand ks) (j : Nat) : w.frozen? ⟨g, j, none⟩ = false := by
  obtain ⟨cur, R, _⟩ := h.pl.row
  exact R.frozen j
/-- The map. -/
theorem Bits.look (h : Bits w m p g b q Fd d fs hand ks) (a : Int) (ha : -9223372036854775808 ≤ a) (ha2 : a ≤ 9223372036854775807) :
    (Instr.lookup 90 (.map (some b)) (.int .i64 a) true).run Tryd.prog w = .ok (.tuple #[.int .i64 (((idx a ks).getD 0 : Nat) : Int), .bool (idx a ks).isSome]) w := by
  obtain ⟨D, h1, h2⟩ := h.map
  have hkey : keyOf Tryd.prog 3 (.int .i64 a) = some (.int .i64 a) := keyOf_int_mk Tryd.underlying3 (WalkArith.wf_i64 (by omega))
  obtain ⟨v, ps, hr, hv⟩ := h1.look_ok mapLaw Tryd.underlying90 (zero3 w) (plainElem_int Tryd.underlying3 (by decide)) hkey
  obtain ⟨c, rfl, hc, _⟩ := plainElem_int_inv Tryd.underlying3 hv
  rw [hr, (h2 a).1]
  have := (h2 a).2
  have e := congrArg Prod.fst hc
  simp only at e
  rw [this] at e
  injection e with e
  injection e with e1 e2
  rw [e2]
theorem Bits.look1 (h : Bits w m p g b q Fd d fs hand ks) (a : Int) (ha : -9223372036854775808 ≤ a) (ha2 : a ≤ 9223372036854775807) :
    (Instr.lookup 90 (.map (some b)) (.int .i64 a) false).run Tryd.prog w = .ok (.int .i64 (((idx a ks).getD 0 : Nat) : Int)) w := by
  obtain ⟨D, h1, h2⟩ := h.map
  have hkey : keyOf Tryd.prog 3 (.int .i64 a) = some (.int .i64 a) := keyOf_int_mk Tryd.underlying3 (WalkArith.wf_i64 (by omega))
  obtain ⟨c, hr, hc, _⟩ := h1.lookup_int mapLaw Tryd.underlying90 Tryd.underlying3 (zero3 w) hkey
  rw [hr]
  rw [(h2 a).2] at hc
  injection hc with e
  injection e with e1 e2
  rw [e2]
theorem Bits.turned {D : DataW Unit} {ks' : List (Option Nat)} {m' : Nat} (h : Bits w m p g b q Fd d fs hand ks) (hg : w.grownBy w' (some b)) (ho : w'.ownsMap Tryd.prog 3 (plainElem Tryd.prog 3) b m' D) (hm : MapOf D ks') (hk : Apart ks') : Bits w' m' p g b q Fd d fs hand ks' :=
  { h with
    tab := h.tab.of (hg.block 0 h.tab.1 (by simpa using h.b0.symm)) hg.size
    row := h.row.of (hg.block p h.row.lt (by simpa using h.pb))
    pl := h.pl.of (fun x hx hlt => hg.block x hlt (by rw [hx]; simpa using h.gb)) (fun _ h _ => h)
    map := ⟨D, ho, hm⟩
    disk := h.disk.of (fun x hx => hg.block x (h.disk.inside x hx) (by simp only [ne_eq, Option.some.injEq]; exact fun e => h.nb (e ▸ hx))) hg.size
    keys := hk }
theorem Bits.put (h : Bits w m p g b q Fd d fs hand ks) (hm : m < 100000) {i a : Nat} (hi : i < ks.length) (hl : ks.length ≤ 64) (ha : a ≤ 1000) (hk : ks[i]? = some none) (hn : idx (a : Int) ks = none) :
    ∃ w', (Instr.mapUpdate 90 (.map (some b)) (.int .i64 (a : Int)) (.int .i64 (i : Int))).run Tryd.prog w = .ok () w' ∧ Bits w' (m + 1) p g b q Fd d fs hand (ks.set i (some a)) ∧ Step (own p g b Fd) (own p g b Fd) w w' := by
  obtain ⟨D, h1, h2⟩ := h.map
  have hkey : keyOf Tryd.prog 3 (.int .i64 (a : Int)) = some (.int .i64 (a : Int)) := keyOf_int_mk Tryd.underlying3 (WalkArith.wf_i64 (by omega))
  obtain ⟨w', hr, ho, hg⟩ := h1.update mapLaw Tryd.underlying90 (by unfold maxLen; omega) hkey (plainElem_int Tryd.underlying3 (a := (i : Int)) (WalkArith.wf_i64 (by omega)))
  exact ⟨w', hr, h.turned hg ho (h2.put h1.isMap h.keys hi hk hn) (h.keys.put hn), Step.grown hg fun k hk => .inr (.inr (.inl (by simpa using hk.symm)))⟩
theorem Bits.del (h : Bits w m p g b q Fd d fs hand ks) {i a : Nat} (ha : a ≤ 1000) (hk : ks[i]? = some (some a)) (ty : TypeId) :
    ∃ w', (Builtin.delete_ #[90, 3] ty #[.map (some b), .int .i64 (a : Int)]).run Tryd.prog w = .ok (.tuple #[]) w' ∧ Bits w' m p g b q Fd d fs hand (ks.set i none) ∧ Step (own p g b Fd) (own p g b Fd) w w' := by
  obtain ⟨D, h1, h2⟩ := h.map
  have hkey : keyOf Tryd.prog 3 (.int .i64 (a : Int)) = some (.int .i64 (a : Int)) := keyOf_int_mk Tryd.underlying3 (WalkArith.wf_i64 (by omega))
  obtain ⟨w', hr, ho, ht⟩ := h1.drop mapLaw Tryd.underlying90 hkey ty
  have hg := ht.grown
  exact ⟨w', hr, h.turned hg ho (h2.del h.keys hk) (h.keys.del i), Step.grown hg fun k hk => .inr (.inr (.inl (by simpa using hk.symm)))⟩
/-- The disk's own call. -/
theorem Bits.call {d' : St} (h : Bits w m p g b q Fd d fs hand ks) (k : Left Fd q w d' w') : ∃ Fd', Bits w' m p g b q Fd' d' fs hand ks ∧ Step (own p g b Fd) (own p g b Fd') w w' := by
  obtain ⟨Fd', hd, hs⟩ := k
  have lt0 := h.tab.1
  have ltp := h.row.lt
  have ltg := h.g_lt
  have ltb := h.b_lt
  have out : ∀ x, x < w.heap.size → ¬ Fd x → ¬ Fd' x := fun x hx hn hf => by rcases hs.foot x hf with h1 | h1; exact hn h1; omega
  refine ⟨Fd', { h with
    tab := h.tab.of (hs.block 0 lt0 h.n0) hs.size
    row := h.row.of (hs.block p ltp h.np)
    pl := h.pl.of (fun x hx hlt => hs.block x hlt (hx ▸ h.ng)) (fun _ h _ => h)
    map := by obtain ⟨D, h1, h2⟩ := h.map; exact ⟨D, owns_of h1 (hs.block b ltb h.nb), h2⟩
    disk := hd
    np := out p ltp h.np
    ng := out g ltg h.ng
    nb := out b ltb h.nb
    n0 := out 0 lt0 h.n0 }, ⟨hs.os, hs.tape, hs.output, hs.size, fun x hx hn => hs.block x hx (fun hf => hn (.inr (.inr (.inr hf)))), fun x hx => ?_⟩⟩
  rcases hx with rfl | rfl | rfl | hx
  · exact .inl (.inl rfl)
  · exact .inl (.inr (.inl rfl))
  · exact .inl (.inr (.inr (.inl rfl)))
  · exact (hs.foot x hx).imp (fun h => .inr (.inr (.inr h))) id
end

/-- How many are dirty. -/
def nd (fs : List Fm) : Nat := (fs.filter (·.dirty)).length
/-- A pool in memory; m: how often it was called. -/
structure Pool (w : World) (m p g b q : Nat) (Fd : Nat → Prop) (S : PS) : Prop where
  inv : Inv S
  bits : Bits w m p g b q Fd S.d S.fs S.hand (keys S.fs)
  pins : ∀ f ∈ S.fs, f.pins ≤ m
  room : S.d.ws.length + nd S.fs ≤ m
/-- Behind a call. -/
def PLeft (p g b q : Nat) (Fd : Nat → Prop) (m : Nat) (w : World) (S : PS) (w' : World) : Prop := ∃ Fd', Pool w' m p g b q Fd' S ∧ Step (own p g b Fd) (own p g b Fd') w w'
theorem Pool.after {w w' : World} {m p g b q : Nat} {Fd : Nat → Prop} {S : PS} (h : Pool w m p g b q Fd S) (n : New w w') : Pool w' m p g b q Fd S := ⟨h.inv, h.bits.after n, h.pins, h.room⟩
theorem Pool.mono {w : World} {m n p g b q : Nat} {Fd : Nat → Prop} {S : PS} (h : Pool w m p g b q Fd S) (hn : m ≤ n) : Pool w n p g b q Fd S := ⟨h.inv, h.bits.mono hn, fun f hf => Nat.le_trans (h.pins f hf) hn, Nat.le_trans h.room hn⟩
end Go.Proofs.YtkcoclpbkealgaaDoor
