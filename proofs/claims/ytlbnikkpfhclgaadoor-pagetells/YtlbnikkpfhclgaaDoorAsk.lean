/-
  The arguments of this seat's laws, opened, and shut again in whatever world: a page (two numbers and a text), three numbers, four bytes.
-/
import Derived.Test.YtlbnikkpfhclgaaDoorCard
namespace Go.Proofs.YtlbnikkpfhclgaaDoor
open Go.ChangeShapes Go.WideShapes Go.ChangeAt Go.RowKit

section
variable {H : Type} {enc : TypeId × Value → H} {P : Program} {w w' : World} {base : Nat} {spare spare' : Nat → Bool} {held : Bool} {fuel : Nat} {t e : TypeId} {k : IntKind} {n : Nat} {cs : List Value}

theorem int_blind (ht : P.underlying t = some (.int k)) : DataW.trod enc P w base spare held fuel t cs = DataW.trod enc P w' base spare' held fuel t cs := by
  cases fuel with
  | zero => rfl
  | succ m =>
    unfold DataW.trod
    rw [ht]
    rcases cs with _ | ⟨v, _ | ⟨u, l⟩⟩
    · rfl
    · cases v <;> rfl
    · cases v <;> rfl
theorem arr_blind (ht : P.underlying t = some (.array n e)) (he : P.underlying e = some (.int k)) : DataW.trod enc P w base spare held fuel t cs = DataW.trod enc P w' base spare' held fuel t cs := by
  cases fuel with
  | zero => rfl
  | succ m =>
    have hf : (fun i => DataW.trod enc P w base spare held m e ((cs.drop (i * P.cellsOf e)).take (P.cellsOf e))) = (fun i => DataW.trod enc P w' base spare' held m e ((cs.drop (i * P.cellsOf e)).take (P.cellsOf e))) := funext fun i => int_blind he
    simp only [DataW.trod, ht, hf]
theorem arr_open (ht : P.underlying t = some (.array n e)) (he : P.underlying e = some (.int k)) (hc : P.cellsOf e = 1) (hn : P.cellsOf t = n) {x : DataW H × List MemPlace} (h : DataW.trod enc P w base spare held fuel t cs = some x) :
    ∃ zs : List Int, zs.length = n ∧ cs = zs.map (fun z => Value.int k z) ∧ (∀ z ∈ zs, (Lit.int k z).wf = true) ∧ x.2 = [] := by
  obtain ⟨xs, m, _, rfl, hl, hlen, hf⟩ := DataW.trod_array ht h
  rw [hn] at hl
  have hone : ∀ i, i < n → ∃ z, cs[i]? = some (.int k z) ∧ (Lit.int k z).wf = true ∧ xs[i]? = some (.lit (.int k z), []) := fun i hi => by
    have h1 := hf i hi
    rw [hc, Nat.mul_one, List.getElem?_eq_getElem (by omega)] at h1
    obtain ⟨z, hz, hx, hw⟩ := DataW.trod_int he h1
    refine ⟨z, ?_, hw, ?_⟩
    · have := congrArg (·[0]?) hz
      simpa [List.getElem?_take, List.getElem?_drop] using this
    · rw [List.getElem?_eq_getElem (by omega), hx]
  refine ⟨cs.map fun v => match v with | .int _ z => z | _ => 0, by rw [List.length_map, hl], ?_, ?_, ?_⟩
  · apply List.ext_getElem?
    intro i
    by_cases hi : i < n
    · obtain ⟨z, hz, _, _⟩ := hone i hi
      simp [hz]
    · rw [List.getElem?_eq_none (by omega), List.getElem?_eq_none (by simp; omega)]
  · intro z hz
    obtain ⟨v, hv, rfl⟩ := List.mem_map.1 hz
    obtain ⟨i, hi⟩ := List.getElem?_of_mem hv
    obtain ⟨z, hz', hw, _⟩ := hone i (by have := (List.getElem?_eq_some_iff.1 hi).1; omega)
    rw [hi] at hz'
    cases hz'
    exact hw
  · show xs.flatMap (·.2) = []
    rw [List.flatMap_eq_nil_iff]
    intro y hy
    obtain ⟨i, hi⟩ := List.getElem?_of_mem hy
    obtain ⟨z, _, _, h3⟩ := hone i (by have := (List.getElem?_eq_some_iff.1 hi).1; omega)
    rw [hi] at h3
    cases h3
    rfl
theorem string_blind (ht : P.underlying t = some .string) : DataW.trod enc P w base spare held fuel t cs = DataW.trod enc P w' base spare' held fuel t cs := by
  cases fuel with
  | zero => rfl
  | succ m =>
    unfold DataW.trod
    rw [ht]
    rcases cs with _ | ⟨v, _ | ⟨u, l⟩⟩
    · rfl
    · cases v <;> rfl
    · cases v <;> rfl
end
theorem okWide_arr {P : Program} {w : World} {r : Reach} {base n : Nat} {t e : TypeId} {v : Value} (ht : P.underlying t = some (.array n e)) (h : Value.okWide P w r base t v) : ∃ cs, v = .agg cs ∧ cs.size = P.cellsOf t := by
  simp only [Value.okWide, ht] at h
  obtain ⟨cs, h1, h2, _⟩ := h
  exact ⟨cs, h1, h2⟩
theorem cells3 : Tryd.prog.cellsOf 3 = 1 := by kernel_rfl
theorem cells5 : Tryd.prog.cellsOf 5 = 1 := by kernel_rfl
theorem cells9 : Tryd.prog.cellsOf 9 = 1 := by kernel_rfl
theorem cells23 : Tryd.prog.cellsOf 23 = 3 := by kernel_rfl
theorem cells36 : Tryd.prog.cellsOf 36 = 3 := by kernel_rfl
theorem cells37 : Tryd.prog.cellsOf 37 = 4 := by kernel_rfl

section
variable {H : Type} {enc : TypeId × Value → H} {W : World} {b0 : Nat} {v : Value} {d : DataW H} {ps : List MemPlace}
theorem page_blind {w w' : World} {base : Nat} {spare spare' : Nat → Bool} {held : Bool} {fuel : Nat} {cs : List Value} :
    DataW.trod enc Tryd.prog w base spare held fuel 23 cs = DataW.trod enc Tryd.prog w' base spare' held fuel 23 cs := by
  cases fuel with
  | zero => rfl
  | succ m =>
    unfold DataW.trod
    rw [Tryd.underlying23]
    simp only [List.mapM_cons, List.mapM_nil, int_blind (w := w) (w' := w') (spare := spare) (spare' := spare') Tryd.underlying3, string_blind (w := w) (w' := w') (spare := spare) (spare' := spare') Tryd.underlying9]
/-- A page, opened. -/
theorem page_open (hval : Value.okWide Tryd.prog W .any b0 23 v) (hd : DataW.Trod enc Tryd.prog W 0 (fun _ => true) true 23 v d ps) :
    ∃ (k g : Int) (s : ByteArray), v = .agg #[.int .i64 k, .int .i64 g, .string s] ∧ (Lit.int .i64 k).wf = true ∧ (Lit.int .i64 g).wf = true ∧ s.size ≤ maxLen ∧ ps = [] ∧ ∀ (W' : World) (sp : Nat → Bool), DataW.Trod enc Tryd.prog W' 0 sp true 23 v d [] := by
  obtain ⟨cs, rfl, hsz⟩ := okWide_struct Tryd.underlying23 hval
  obtain ⟨fuel, hf⟩ := hd
  have hf0 := hf
  obtain ⟨xs, m, hm, hx, hl, hlen, hfl⟩ := DataW.trod_struct Tryd.underlying23 hf
  rw [cells23] at hl
  match xs, hlen, hx, hfl with
  | [y0, y1, y2], _, hx, hfl =>
    have h0 : DataW.trod enc Tryd.prog W 0 (fun _ => true) true m 3 ((cs.toList.drop 0).take (Tryd.prog.cellsOf 3)) = some y0 := hfl 0 _ rfl
    have h1 : DataW.trod enc Tryd.prog W 0 (fun _ => true) true m 3 ((cs.toList.drop 1).take (Tryd.prog.cellsOf 3)) = some y1 := hfl 1 _ rfl
    have h2 : DataW.trod enc Tryd.prog W 0 (fun _ => true) true m 9 ((cs.toList.drop 2).take (Tryd.prog.cellsOf 9)) = some y2 := hfl 2 _ rfl
    rw [cells3] at h0 h1
    rw [cells9] at h2
    obtain ⟨k, e0, x0, wk⟩ := DataW.trod_int Tryd.underlying3 h0
    obtain ⟨g, e1, x1, wg⟩ := DataW.trod_int Tryd.underlying3 h1
    obtain ⟨s, e2, x2, ws⟩ := DataW.trod_string Tryd.underlying9 h2
    have hcl : cs.toList.length = 3 := hl
    obtain ⟨l⟩ := cs
    simp only at e0 e1 e2 hcl
    match l, hcl with
    | [c0, c1, c2], _ =>
      simp at e0 e1 e2
      subst e0; subst e1; subst e2
      have hps : ps = [] := by
        have := congrArg Prod.snd hx
        simp only [List.flatMap_cons, List.flatMap_nil, List.append_nil] at this
        rw [this, x0, x1, x2]
        rfl
      refine ⟨k, g, s, rfl, wk, wg, ws, hps, fun W' sp => ⟨fuel, ?_⟩⟩
      rw [hps] at hf0
      rw [page_blind (w' := W) (spare' := fun _ => true)]
      exact hf0
/-- Three numbers, opened. -/
theorem three_open (hval : Value.okWide Tryd.prog W .any b0 36 v) (hd : DataW.Trod enc Tryd.prog W 0 (fun _ => true) true 36 v d ps) :
    ∃ (x y z : Int), v = .agg #[.int .i64 x, .int .i64 y, .int .i64 z] ∧ (Lit.int .i64 x).wf = true ∧ (Lit.int .i64 y).wf = true ∧ (Lit.int .i64 z).wf = true ∧ ps = [] ∧ ∀ (W' : World) (sp : Nat → Bool), DataW.Trod enc Tryd.prog W' 0 sp true 36 v d [] := by
  obtain ⟨cs, rfl, hsz⟩ := okWide_arr Tryd.underlying36 hval
  obtain ⟨fuel, hf⟩ := hd
  have hf0 := hf
  obtain ⟨zs, l0, e0, w0, p0⟩ := arr_open Tryd.underlying36 Tryd.underlying3 cells3 cells36 hf
  have hps : ps = [] := p0
  match zs, l0 with
  | [x, y, z], _ =>
    have hcs : cs = #[.int .i64 x, .int .i64 y, .int .i64 z] := by
      apply Array.ext'
      exact e0
    subst hcs
    refine ⟨x, y, z, rfl, w0 x (by simp), w0 y (by simp), w0 z (by simp), hps, fun W' sp => ⟨fuel, ?_⟩⟩
    rw [hps] at hf0
    rw [arr_blind (w' := W) (spare' := fun _ => true) Tryd.underlying36 Tryd.underlying3]
    exact hf0
/-- Four bytes, opened. -/
theorem four_open (hval : Value.okWide Tryd.prog W .any b0 37 v) (hd : DataW.Trod enc Tryd.prog W 0 (fun _ => true) true 37 v d ps) :
    ∃ (y : List UInt8), v = .agg (cellsL y).toArray ∧ y.length = 4 ∧ ps = [] ∧ ∀ (W' : World) (sp : Nat → Bool), DataW.Trod enc Tryd.prog W' 0 sp true 37 v d [] := by
  obtain ⟨cs, rfl, hsz⟩ := okWide_arr Tryd.underlying37 hval
  obtain ⟨fuel, hf⟩ := hd
  have hf0 := hf
  obtain ⟨zs, l0, e0, w0, p0⟩ := arr_open Tryd.underlying37 Tryd.underlying5 cells5 cells37 hf
  have hps : ps = [] := p0
  have hb : ∀ z ∈ zs, ∃ u : UInt8, z = (u.toNat : Int) := fun z hz => by
    have hb := bounds_u8 (w0 z hz)
    refine ⟨UInt8.ofNat z.toNat, ?_⟩
    rw [byte_of _ (by omega)]; omega
  have hy : cs = (cellsL (zs.map fun z => UInt8.ofNat z.toNat)).toArray := by
    apply Array.ext'
    rw [List.toList_toArray, cellsL, List.map_map]
    refine (show cs.toList = _ from e0).trans (List.map_congr_left fun z hz => ?_)
    obtain ⟨u, rfl⟩ := hb z hz
    simp
  refine ⟨zs.map fun z => UInt8.ofNat z.toNat, by rw [hy], by rw [List.length_map, l0], hps, fun W' sp => ⟨fuel, ?_⟩⟩
  rw [hps] at hf0
  rw [arr_blind (w' := W) (spare' := fun _ => true) Tryd.underlying37 Tryd.underlying5]
  exact hf0
end
theorem i64_of {a : Int} (h : (Lit.int .i64 a).wf = true) : -9223372036854775808 ≤ a ∧ a ≤ 9223372036854775807 := bounds_i64 h

end Go.Proofs.YtlbnikkpfhclgaaDoor
