/-
  A text's pieces in memory; what text returns: the pieces behind one another.
-/
import Derived.Test.YtecamiefpdkjoaaDoorNdGoodB
namespace Go.Proofs.YtecamiefpdkjoaaDoor
open Go.RowKit
set_option maxRecDepth 20000
set_option linter.unusedVariables false

def ptL (P : Pt) : List Value := .string (bs P.kind) :: .string (bs P.path) :: .string (bs P.mask) :: .string (bs P.has) :: .string (bs P.size) :: .string (bs P.value) :: (P.hs.map (fun h => Value.string (bs h)) ++ [.string (bs P.rest)])
def ptC (P : Pt) : Array Value := (ptL P).toArray
def ptZ : Pt := ⟨[], [], [], [], [], [], List.replicate 16 [], []⟩
theorem ptL_length {P : Pt} (h : P.hs.length = 16) : (ptL P).length = 23 := by unfold ptL; simp [h]
theorem ptC_size {P : Pt} (h : P.hs.length = 16) : (ptC P).size = 23 := by unfold ptC; rw [List.size_toArray, ptL_length h]
theorem ptC_one (P : Pt) : (ptC P).all (·.oneCell') = true := by
  unfold ptC
  rw [List.all_toArray, List.all_eq_true]
  intro v hv
  unfold ptL at hv
  simp only [List.mem_cons, List.mem_append, List.mem_map, List.not_mem_nil, or_false] at hv
  rcases hv with rfl | rfl | rfl | rfl | rfl | rfl | ⟨h, _, rfl⟩ | rfl <;> rfl
theorem i44 : (Tryd.prog.info? 44).map (·.size) = some 23 := by kernel_rfl
theorem s44 {P : Pt} (h : P.hs.length = 16) : (Tryd.prog.info? 44).map (·.size) = some (ptC P).size := by rw [ptC_size h]; exact i44
theorem info44 : (Tryd.prog.info? 44).map (fun i => (i.zero, i.size, i.bytes)) = some (some (.agg (ptC ptZ)), 23, 368) := by kernel_rfl
theorem built44_none : Tryd.prog.built 44 [] = some (ptC ptZ) := by kernel_rfl
theorem built44_kind (l : List UInt8) : Tryd.prog.built 44 [(0, .string (bs l))] = some (ptC { ptZ with kind := l }) := by kernel_rfl
theorem ptC_hs {P : Pt} {j : Nat} {h : List UInt8} (hj : P.hs[j]? = some h) : (ptC P)[6 + j]? = some (.string (bs h)) := by
  unfold ptC
  have hlt := (List.getElem?_eq_some_iff.1 hj).1
  rw [List.getElem?_toArray]
  unfold ptL
  rw [show 6 + j = j + 1 + 1 + 1 + 1 + 1 + 1 by omega]
  simp only [List.getElem?_cons_succ]
  rw [List.getElem?_append_left (by rw [List.length_map]; exact hlt), List.getElem?_map, hj]; rfl
theorem set_kind (P : Pt) (x : List UInt8) : (ptC P).setIfInBounds 0 (.string (bs x)) = ptC { P with kind := x } := by unfold ptC; rw [List.setIfInBounds_toArray]; rfl
theorem set_path (P : Pt) (x : List UInt8) : (ptC P).setIfInBounds 1 (.string (bs x)) = ptC { P with path := x } := by unfold ptC; rw [List.setIfInBounds_toArray]; rfl
theorem set_mask (P : Pt) (x : List UInt8) : (ptC P).setIfInBounds 2 (.string (bs x)) = ptC { P with mask := x } := by unfold ptC; rw [List.setIfInBounds_toArray]; rfl
theorem set_has (P : Pt) (x : List UInt8) : (ptC P).setIfInBounds 3 (.string (bs x)) = ptC { P with has := x } := by unfold ptC; rw [List.setIfInBounds_toArray]; rfl
theorem set_size (P : Pt) (x : List UInt8) : (ptC P).setIfInBounds 4 (.string (bs x)) = ptC { P with size := x } := by unfold ptC; rw [List.setIfInBounds_toArray]; rfl
theorem set_value (P : Pt) (x : List UInt8) : (ptC P).setIfInBounds 5 (.string (bs x)) = ptC { P with value := x } := by unfold ptC; rw [List.setIfInBounds_toArray]; rfl
theorem set_hash (P : Pt) (j : Nat) (hj : j < P.hs.length) (x : List UInt8) : (ptC P).setIfInBounds (6 + j) (.string (bs x)) = ptC { P with hs := P.hs.set j x } := by
  unfold ptC
  rw [List.setIfInBounds_toArray]
  congr 1
  unfold ptL
  rw [show 6 + j = j + 1 + 1 + 1 + 1 + 1 + 1 by omega]
  simp only [List.set_cons_succ]
  rw [List.set_append_left _ _ (by rw [List.length_map]; exact hj), List.map_set]
theorem set_rest (P : Pt) (h : P.hs.length = 16) (x : List UInt8) : (ptC P).setIfInBounds 22 (.string (bs x)) = ptC { P with rest := x } := by
  unfold ptC
  rw [List.setIfInBounds_toArray]
  congr 1
  unfold ptL
  rw [show 22 = 16 + 1 + 1 + 1 + 1 + 1 + 1 by rfl]
  simp only [List.set_cons_succ]
  rw [List.set_append_right _ _ (by rw [List.length_map]; omega), List.length_map, h]; rfl
theorem get_rest (P : Pt) (h : P.hs.length = 16) : (ptC P)[22]? = some (.string (bs P.rest)) := by
  unfold ptC
  rw [List.getElem?_toArray]
  unfold ptL
  rw [show 22 = 16 + 1 + 1 + 1 + 1 + 1 + 1 by rfl]
  simp only [List.getElem?_cons_succ]
  rw [List.getElem?_append_right (by rw [List.length_map]; omega), List.length_map, h]; rfl

theorem join_flat (xs : List (List UInt8)) : Lib.join xs [] = xs.flatten := by
  cases xs with
  | nil => rfl
  | cons x r =>
    rw [Lib.join_cons]
    unfold Lib.joinTail
    rw [List.flatten_cons]
    congr 2
    rw [List.map_congr_left (g := id) (fun a _ => by simp)]
    simp
theorem joined_any (P : Pt) (h16 : P.hs.length = 16) (hl : P.hs.flatten.length ≤ 4000) (g : Nat) (W : World) (R : Row W g (ptC P) 44) :
    Calls Tryd.prog 39 #[.slice (some ⟨g, 6, none⟩) 16 16, .string ⟨#[]⟩] W fun e w' => e = .returned (.string (bs P.hs.flatten)) ∧ New W w' := by
  have hm : ((P.hs.map bs).map (·.data.toList)) = P.hs := by
    rw [List.map_map]
    exact (List.map_congr_left (fun a _ => rfl)).trans (List.map_id _)
  have e0 : (⟨#[]⟩ : ByteArray).data.toList = [] := rfl
  have h := Tryd.strings_Join g 6 16 (P.hs.map bs) ⟨#[]⟩ W (fun j x hx => by
      rw [List.getElem?_map] at hx
      cases hh : P.hs[j]? with
      | none => rw [hh] at hx; cases hx
      | some y =>
        rw [hh] at hx
        cases hx
        rw [R.cell]
        exact ptC_hs hh) R.lt (by rw [List.length_map, h16]; decide) (by rw [List.length_map, h16]; decide) (by rw [hm, e0, join_flat]; omega)
  rw [List.length_map, h16, hm, e0, join_flat] at h
  exact h

set_option maxHeartbeats 1000000 in
theorem text_any (P : Pt) (h16 : P.hs.length = 16) (hl : P.text.length ≤ 4000) (w : World) :
    Calls Tryd.prog 22 #[.agg (ptC P)] w fun e w' => e = .returned (.string (bs P.text)) ∧ New w w' := by
  have hx := hl
  unfold Pt.text at hx
  simp only [List.length_append] at hx
  have HJ := fun g W R => joined_any P h16 (by omega) g W R
  have HT : Hid (bs P.kind ++ bs P.path ++ bs P.mask ++ bs P.has ++ bs P.size ++ bs P.value ++ bs P.hs.flatten = bs P.text) := by
    show _ = _
    refine eq_of_L ?_
    simp only [L_append, L_bs, List.append_assoc]
    rfl
  have z0 : (bs P.kind).size ≤ 4000 := by rw [bs_size]; omega
  have z1 : (bs P.path).size ≤ 4000 := by rw [bs_size]; omega
  have z2 : (bs P.mask).size ≤ 4000 := by rw [bs_size]; omega
  have z3 : (bs P.has).size ≤ 4000 := by rw [bs_size]; omega
  have z4 : (bs P.size).size ≤ 4000 := by rw [bs_size]; omega
  have z5 : (bs P.value).size ≤ 4000 := by rw [bs_size]; omega
  have z6 : (bs P.hs.flatten).size ≤ 4000 := by rw [bs_size]; omega
  have R0 := Row.new w (ptC P) 44
  have N0 : New w (w.alloc (.cells (ptC P) 44)) := (New.refl w).alloc _
  have c0 := R0.has 0 (v := .string (bs P.kind)) rfl
  have c1 := R0.has 1 (v := .string (bs P.path)) rfl
  have c2 := R0.has 2 (v := .string (bs P.mask)) rfl
  have c3 := R0.has 3 (v := .string (bs P.has)) rfl
  have c4 := R0.has 4 (v := .string (bs P.size)) rfl
  have c5 := R0.has 5 (v := .string (bs P.value)) rfl
  clear hl hx h16
  generalize bs P.kind = s0 at *
  generalize bs P.path = s1 at *
  generalize bs P.mask = s2 at *
  generalize bs P.has = s3 at *
  generalize bs P.size = s4 at *
  generalize bs P.value = s5 at *
  generalize bs P.hs.flatten = s6 at *
  generalize ptC P = cs at *
  go_enter Tryd.func22, Tryd.ntmps22
  go_wp2_with fail
  generalize w.alloc (.cells cs 44) = W at *
  have hne := NewW.ne W
  have d0 := NewW.cell c0
  have d1 := NewW.cell c1
  have d2 := NewW.cell c2
  have d3 := NewW.cell c3
  have d4 := NewW.cell c4
  have d5 := NewW.cell c5
  refine region_new W (New.refl W) (by kernel_rfl) (by kernel_rfl) ?_
  repeat (go_big_quiet_step (first | (go_at_call 39; exact Calls.neww (HJ _ _ (R0.after (NewW.h _))))))
  refine wpQuiet_nil ?_
  rintro w5 ⟨⟨_, k5⟩, rfl⟩
  go_wp2_with fail
  go_ret
  exact ⟨ret_str HT.out, N0.trans k5⟩

end Go.Proofs.YtecamiefpdkjoaaDoor
