/-
  An argument that is words, a block and a length: opened, and shut again in whatever world.
-/
import Derived.Test.YtemhgehelblcoaaDoorCard
import Derived.Test.YtemhgehelblcoaaDoorTellA
namespace Go.Proofs.YtemhgehelblcoaaDoor
open Go.ChangeShapes Go.WideShapes Go.ChangeAt Go.RowKit

section
variable {H : Type} {enc : TypeId × Value → H} {P : Program} {w w' : World} {base : Nat} {spare spare' : Nat → Bool} {held : Bool} {fuel : Nat} {t e : TypeId} {k : IntKind} {n : Nat} {cs : List Value}

theorem int_blind (ht : P.underlying t = some (.int k)) : DataW.trod enc P w base spare held fuel t cs = DataW.trod enc P w' base spare' held fuel t cs := by
  cases fuel with
  | zero => rfl
  | succ m =>
    unfold DataW.trod
    rw [ht]
    rcases cs with _ | ⟨v, _ | ⟨u, l⟩⟩
    · rfl
    · cases v <;> rfl
    · cases v <;> rfl
theorem arr_blind (ht : P.underlying t = some (.array n e)) (he : P.underlying e = some (.int k)) : DataW.trod enc P w base spare held fuel t cs = DataW.trod enc P w' base spare' held fuel t cs := by
  cases fuel with
  | zero => rfl
  | succ m =>
    have hf : (fun i => DataW.trod enc P w base spare held m e ((cs.drop (i * P.cellsOf e)).take (P.cellsOf e))) = (fun i => DataW.trod enc P w' base spare' held m e ((cs.drop (i * P.cellsOf e)).take (P.cellsOf e))) := funext fun i => int_blind he
    simp only [DataW.trod, ht, hf]
theorem arr_open (ht : P.underlying t = some (.array n e)) (he : P.underlying e = some (.int k)) (hc : P.cellsOf e = 1) (hn : P.cellsOf t = n) {x : DataW H × List MemPlace} (h : DataW.trod enc P w base spare held fuel t cs = some x) :
    ∃ zs : List Int, zs.length = n ∧ cs = zs.map (fun z => Value.int k z) ∧ (∀ z ∈ zs, (Lit.int k z).wf = true) ∧ x.2 = [] := by
  obtain ⟨xs, m, _, rfl, hl, hlen, hf⟩ := DataW.trod_array ht h
  rw [hn] at hl
  have hone : ∀ i, i < n → ∃ z, cs[i]? = some (.int k z) ∧ (Lit.int k z).wf = true ∧ xs[i]? = some (.lit (.int k z), []) := fun i hi => by
    have h1 := hf i hi
    rw [hc, Nat.mul_one, List.getElem?_eq_getElem (by omega)] at h1
    obtain ⟨z, hz, hx, hw⟩ := DataW.trod_int he h1
    refine ⟨z, ?_, hw, ?_⟩
    · have := congrArg (·[0]?) hz
      simpa [List.getElem?_take, List.getElem?_drop] using this
    · rw [List.getElem?_eq_getElem (by omega), hx]
  refine ⟨cs.map fun v => match v with | .int _ z => z | _ => 0, by rw [List.length_map, hl], ?_, ?_, ?_⟩
  · apply List.ext_getElem?
    intro i
    by_cases hi : i < n
    · obtain ⟨z, hz, _, _⟩ := hone i hi
      simp [hz]
    · rw [List.getElem?_eq_none (by omega), List.getElem?_eq_none (by simp; omega)]
  · intro z hz
    obtain ⟨v, hv, rfl⟩ := List.mem_map.1 hz
    obtain ⟨i, hi⟩ := List.getElem?_of_mem hv
    obtain ⟨z, hz', hw, _⟩ := hone i (by have := (List.getElem?_eq_some_iff.1 hi).1; omega)
    rw [hi] at hz'
    cases hz'
    exact hw
  · show xs.flatMap (·.2) = []
    rw [List.flatMap_eq_nil_iff]
    intro y hy
    obtain ⟨i, hi⟩ := List.getElem?_of_mem hy
    obtain ⟨z, _, _, h3⟩ := hone i (by have := (List.getElem?_eq_some_iff.1 hi).1; omega)
    rw [hi] at h3
    cases h3
    rfl
end

theorem cells24 : Tryd.prog.cellsOf 24 = 64 := by kernel_rfl
theorem cells26 : Tryd.prog.cellsOf 26 = 73 := by kernel_rfl
theorem cells5 : Tryd.prog.cellsOf 5 = 1 := by kernel_rfl
theorem cells3 : Tryd.prog.cellsOf 3 = 1 := by kernel_rfl


/-- A number's word, as a natural. -/
theorem nats_of {k : IntKind} {B : Nat} (zs : List Int) (h : ∀ z ∈ zs, 0 ≤ z ∧ z < (B : Int)) : ∃ l : List Nat, l.length = zs.length ∧ (∀ x ∈ l, x < B) ∧ zs.map (fun z => Value.int k z) = l.map (fun (x : Nat) => Value.int k (x : Int)) := by
  refine ⟨zs.map Int.toNat, by rw [List.length_map], ?_, ?_⟩
  · intro x hx
    obtain ⟨z, hz, rfl⟩ := List.mem_map.1 hx
    have := h z hz
    omega
  · rw [List.map_map]
    apply List.map_congr_left
    intro z hz
    have := h z hz
    show Value.int k z = Value.int k ((z.toNat : Nat) : Int)
    rw [Int.toNat_of_nonneg this.1]
theorem getD_lt {l : List Nat} {B : Nat} (hB : 0 < B) (h : ∀ x ∈ l, x < B) (j : Nat) : l.getD j 0 < B := by
  rw [List.getD_eq_getElem?_getD]
  cases e : l[j]? with
  | none => exact hB
  | some x => exact h x (List.mem_of_getElem? e)
theorem ask_blind {H : Type} {enc : TypeId × Value → H} {w w' : World} {base : Nat} {spare spare' : Nat → Bool} {held : Bool} {fuel : Nat} {cs : List Value} :
    DataW.trod enc Tryd.prog w base spare held fuel 26 cs = DataW.trod enc Tryd.prog w' base spare' held fuel 26 cs := by
  cases fuel with
  | zero => rfl
  | succ m =>
    unfold DataW.trod
    rw [Tryd.underlying26]
    simp only [List.mapM_cons, List.mapM_nil, arr_blind (w := w) (w' := w') (spare := spare) (spare' := spare') Tryd.underlying23 Tryd.underlying22, arr_blind (w := w) (w' := w') (spare := spare) (spare' := spare') Tryd.underlying24 Tryd.underlying5, int_blind (w := w) (w' := w') (spare := spare) (spare' := spare') Tryd.underlying3]

/-- Noughts, for the witness. -/
def askZ : Array Value := (askedL ⟨0, 0, 0, 0, 0, 0, 0, 0⟩ (List.replicate 64 0) 0).toArray
/-- What is asked, opened. -/
theorem ask_open {H : Type} {enc : TypeId × Value → H} {W : World} {b0 : Nat} {v : Value} {d : DataW H} {ps : List MemPlace} (hval : Value.okWide Tryd.prog W .any b0 26 v) (hd : DataW.Trod enc Tryd.prog W 0 (fun _ => true) true 26 v d ps) :
    ∃ (hv : W8) (b : List Nat) (n : Int), v = .agg (askedL hv b n).toArray ∧ b.length = 64 ∧ (∀ j, b.getD j 0 < 256) ∧ ps = [] ∧ ∀ (W' : World) (sp : Nat → Bool), DataW.Trod enc Tryd.prog W' 0 sp true 26 v d [] := by
  obtain ⟨cs, rfl, hsz⟩ := okWide_struct Tryd.underlying26 hval
  obtain ⟨fuel, hf⟩ := hd
  have hf0 := hf
  obtain ⟨xs, m, hm, hx, hl, hlen, hfl⟩ := DataW.trod_struct Tryd.underlying26 hf
  rw [cells26] at hl
  match xs, hlen, hx, hfl with
  | [y0, y1, y2], _, hx, hfl =>
    have h0 : DataW.trod enc Tryd.prog W 0 (fun _ => true) true m 23 ((cs.toList.drop 0).take (Tryd.prog.cellsOf 23)) = some y0 := hfl 0 _ rfl
    have h1 : DataW.trod enc Tryd.prog W 0 (fun _ => true) true m 24 ((cs.toList.drop 8).take (Tryd.prog.cellsOf 24)) = some y1 := hfl 1 _ rfl
    have h2 : DataW.trod enc Tryd.prog W 0 (fun _ => true) true m 3 ((cs.toList.drop 72).take (Tryd.prog.cellsOf 3)) = some y2 := hfl 2 _ rfl
    rw [cells23, List.drop_zero] at h0
    rw [cells24] at h1
    rw [cells3] at h2
    obtain ⟨z0, l0, e0, w0, p0⟩ := arr_open Tryd.underlying23 Tryd.underlying22 cells22 cells23 h0
    obtain ⟨z1, l1, e1, w1, p1⟩ := arr_open Tryd.underlying24 Tryd.underlying5 cells5 cells24 h1
    obtain ⟨n, e2, hx2, _⟩ := DataW.trod_int Tryd.underlying3 h2
    obtain ⟨u0, m0, b0', f0⟩ := nats_of (k := .u32) (B := 4294967296) z0 (fun z hz => by have := bounds_u32 (w0 z hz); omega)
    obtain ⟨u1, m1, b1', f1⟩ := nats_of (k := .u8) (B := 256) z1 (fun z hz => by have := bounds_u8 (w1 z hz); omega)
    have hps : ps = [] := by
      have := congrArg Prod.snd hx
      simp only [List.flatMap_cons, List.flatMap_nil, List.append_nil] at this
      rw [this, p0, p1, hx2]
      rfl
    have hcs : cs.toList = z0.map (fun z => Value.int .u32 z) ++ (z1.map (fun z => Value.int .u8 z) ++ [.int .i64 n]) := by
      have hcl : cs.toList.length = 73 := hl
      rw [← e0, ← e1, ← e2]
      have s1 : cs.toList.drop 8 = (cs.toList.drop 8).take 64 ++ (cs.toList.drop 72).take 1 := by
        have h3 : (cs.toList.drop 72).take 1 = (cs.toList.drop 8).drop 64 := by
          rw [List.drop_drop, List.take_of_length_le (by rw [List.length_drop]; omega)]
        rw [h3, List.take_append_drop]
      rw [← s1, List.take_append_drop]
    rw [l0] at m0
    match u0, m0 with
    | [a, b, c, d', e, f, g, p], _ =>
      refine ⟨⟨a, b, c, d', e, f, g, p⟩, u1, n, ?_, by rw [m1, l1], getD_lt (by decide) b1', hps, fun W' sp => ⟨fuel, ?_⟩⟩
      · congr 1
        apply Array.ext'
        rw [hcs, f0, f1]
        rfl
      · rw [hps] at hf0
        rw [ask_blind (w' := W) (spare' := fun _ => true)]
        exact hf0

end Go.Proofs.YtemhgehelblcoaaDoor
