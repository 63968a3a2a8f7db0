/-
  What wakes returns: true, and all that lay in memory is as it was.
-/
import Derived.Test.YtlbnikkpfhclgaaDoorWakes
namespace Go.Proofs.YtlbnikkpfhclgaaDoor
open Go.RowKit

theorem built23_kind : Tryd.prog.built 23 [(0, .int .i64 0)] = some #[.int .i64 0, .int .i64 0, .string ⟨#[]⟩] := by kernel_rfl
theorem wpList_build1 {P : Program} {w : World} {ops : Array Oper} {rest : List Oper} {o : Oper} {a : Act} {Q : Exit → Act → World → Prop} (hgd : o.guard = none) (t : TypeId) (x0 : Operand) (ho : o.op = .build t #[(0, x0)]) (v0 : Value) (h0 : a.eval x0 = v0) (cs : Array Value) (hb : P.built t [(0, v0)] = some cs)
    (h : wpList P ops Q rest (a.put o.dst (.agg cs)) w) : wpList P ops Q (o :: rest) a w := by
  have hv : ((#[(0, x0)] : Array (Nat × Operand)).map fun (i, x) => (i, a.eval x)).toList = [(0, v0)] := by simp [h0]
  refine wpList_build hgd t _ ho (by rw [hv, hb]; rfl) ?_
  rw [hv, hb]
  exact h

set_option maxRecDepth 20000 in
set_option maxHeartbeats 4000000 in
theorem wakes_any (w : World) (hT : Tab w) :
    Calls Tryd.prog 6 #[] w fun e w' => e = .returned (.bool true) ∧ New w w' := by
  have hput : ∀ w, Tab w → Calls Tryd.prog 7 #[.agg #[.int .i64 2, .int .i64 5, .string ⟨#[97, 98, 99]⟩], .int .i64 258] w fun e w' => e = .returned (.tuple #[.string (bs wake), .bool true]) ∧ New w w' := fun w h => put_yes 2 258 5 (by decide) (by decide) (by decide) (by decide) abc (by decide) w h
  have hget : ∀ w, Tab w → Calls Tryd.prog 9 #[.string (bs wake), .int .i64 258] w fun e w' => e = .returned (.tuple #[.agg #[.int .i64 2, .int .i64 5, .string ⟨#[97, 98, 99]⟩], .int .i64 0]) ∧ New w w' := fun w h => get_yes 2 258 5 (by decide) (by decide) (by decide) (by decide) abc (by decide) w h
  have hg3 : ∀ w, Tab w → Calls Tryd.prog 9 #[.string (bs wake), .int .i64 3] w fun e w' => e = .returned (.tuple #[.agg noPg, .int .i64 6]) ∧ New w w' := fun w h => get_no (bs wake) 3 wake_three w h
  have hg0 : ∀ w, Tab w → Calls Tryd.prog 9 #[.string ⟨#[]⟩, .int .i64 3] w fun e w' => e = .returned (.tuple #[.agg noPg, .int .i64 6]) ∧ New w w' := fun w h => get_wrong ⟨#[]⟩ (fun h0 => by have := h0.1; simp [L] at this) 3 w h
  have hno : ∀ w, Calls Tryd.prog 7 #[.agg #[.int .i64 0, .int .i64 0, .string ⟨#[]⟩], .int .i64 3] w fun e w' => e = .returned (.tuple #[.string ⟨#[]⟩, .bool false]) ∧ New w w' := fun w => put_no 0 3 0 ⟨#[]⟩ (fun h => by have := h.k1; omega) w
  have hr1 : ∀ w, Tab w → Calls Tryd.prog 11 #[.string (bs wake)] w fun e w' => e = .returned (.bool true) ∧ New w w' := fun w h => by
    have := right_any (bs wake) w h
    rw [L_bs, wake_right] at this
    exact this
  have hr2 : ∀ w, Tab w → Calls Tryd.prog 11 #[.string ((bs wake).extract 1 256 ++ ⟨#[120]⟩)] w fun e w' => e = .returned (.bool false) ∧ New w w' := fun w h => by
    have := right_any ((bs wake).extract 1 256 ++ ⟨#[120]⟩) w h
    rw [wake_other] at this
    exact this
  have hsz : (bs wake).size = 256 := wake_size
  have h12 : ((bs wake).extract 0 12).toList = [2, 1, 2, 0, 0, 0, 5, 0, 3, 97, 98, 99] := wake12
  have hsx : ((bs wake).extract 1 256).size = 255 := by rw [← L_size, L_extract, List.length_drop, List.length_take, L_size, hsz]; decide
  have heq : ∀ w, (Op.equalIn 10000 23 (.agg #[.int .i64 2, .int .i64 5, .string ⟨#[97, 98, 99]⟩]) (.agg #[.int .i64 2, .int .i64 5, .string ⟨#[97, 98, 99]⟩])).run Tryd.prog w = .ok true w := fun w => by
    rw [eq_pages, eqPg_self]
  have gd := guard23
  generalize bs wake = b at *
  go_enter Tryd.func6, Tryd.ntmps6
  go_wp2_with (first
    | refine wpList_build3 (by rfl) 23 _ _ _ (by rfl) _ _ _ (by rfl) (by rfl) (by rfl) #[.int .i64 2, .int .i64 5, .string ⟨#[97, 98, 99]⟩] (built23 _ _ _) ?_
    | (refine wpList_alloc_at (by rfl) 1 (by rfl) 23 (by rfl) _ _ _ info23 ?_; intro W1 R1 N1)
    | (refine wpList_store_new (by rfl) 23 _ _ (by rfl) w.heap.size #[.int .i64 2, .int .i64 5, .string ⟨#[97, 98, 99]⟩] (by rfl) (by rfl) 23 noPg R1 i23 rfl (pg_all _ _ _) ?_; intro W2 R2 B2)
    | refine wpList_load_row (by rfl) 23 _ (by rfl) w.heap.size (by rfl) 23 _ (0, 0) _ R2 Tryd.underlying23 rfl i23 ?_)
  have N2 : New w W2 := B2.new N1 (Nat.le_refl _)
  clear R1 N1 B2
  refine (hput _ (hT.after N2)).mono ?_
  rintro _ W3 ⟨rfl, M3⟩
  have R3 := R2.after M3
  have N3 := N2.trans M3
  clear R2 N2 M3 hput
  go_wp2_with fail
  refine (hget _ (hT.after N3)).mono ?_
  rintro _ W4 ⟨rfl, M4⟩
  have R4 := R3.after M4
  have N4 := N3.trans M4
  have r4 := R4.lt
  clear R3 N3 M4 hget
  go_wp2_with (first
    | (refine wpList_alloc_at (by rfl) 4 (by rfl) 23 (by rfl) _ _ _ info23 ?_; intro W5 R5 N5)
    | (refine wpList_store_new (by rfl) 23 _ _ (by rfl) W4.heap.size #[.int .i64 2, .int .i64 5, .string ⟨#[97, 98, 99]⟩] (by rfl) (by rfl) 23 noPg R5 i23 rfl (pg_all _ _ _) ?_; intro W6 R6 B6))
  have R6a : Row W6 w.heap.size _ 23 := (R4.after N5).but B6 (by omega)
  have N6 : New w W6 := B6.new (N4.trans N5) N4.size
  have l6 := R6.lt
  clear R4 R5 N5 B6 N4
  refine (hg3 _ (hT.after N6)).mono ?_
  rintro _ W7 ⟨rfl, M7⟩
  have R7 := R6.after M7
  have R7a := R6a.after M7
  have N7 := N6.trans M7
  have l7 := M7.size
  clear R6 R6a N6 M7 hg3
  go_wp2_with (first
    | (refine wpList_alloc_at (by rfl) 6 (by rfl) 23 (by rfl) _ _ _ info23 ?_; intro W8 R8 N8)
    | (refine wpList_store_new (by rfl) 23 _ _ (by rfl) W7.heap.size noPg (by rfl) (by rfl) 23 noPg R8 i23 rfl (pg_all _ _ _) ?_; intro W9 R9 B9))
  have R9b : Row W9 W4.heap.size _ 23 := (R7.after N8).but B9 (by omega)
  have R9a : Row W9 w.heap.size _ 23 := (R7a.after N8).but B9 (by omega)
  have N9 : New w W9 := B9.new (N7.trans N8) N7.size
  have l9 := R9.lt
  clear R7 R7a R8 N8 R9 B9 N7
  refine (hg0 _ (hT.after N9)).mono ?_
  rintro _ W10 ⟨rfl, M10⟩
  have R10a := R9a.after M10
  have R10b := R9b.after M10
  have N10 := N9.trans M10
  have l10 := M10.size
  clear R9a R9b N9 M10 hg0
  go_wp2_with (first
    | (refine wpList_alloc_at (by rfl) 8 (by rfl) 23 (by rfl) _ _ _ info23 ?_; intro W11 R11 N11)
    | (refine wpList_store_new (by rfl) 23 _ _ (by rfl) W10.heap.size noPg (by rfl) (by rfl) 23 noPg R11 i23 rfl (pg_all _ _ _) ?_; intro W12 R12 B12)
    | refine wpList_build1 (by rfl) 23 _ (by rfl) _ (by rfl) _ built23_kind ?_)
  have R12b : Row W12 W4.heap.size _ 23 := (R10b.after N11).but B12 (by omega)
  have R12a : Row W12 w.heap.size _ 23 := (R10a.after N11).but B12 (by omega)
  have N12 : New w W12 := B12.new (N10.trans N11) N10.size
  clear R10a R10b R11 R12 N11 B12 N10
  refine (hno _).mono ?_
  rintro _ W13 ⟨rfl, M13⟩
  have R13a := R12a.after M13
  have R13b := R12b.after M13
  have N13 := N12.trans M13
  clear R12a R12b N12 M13 hno
  go_wp2_with (first
    | refine wpList_load_want (by rfl) 23 (.tmp 4) (by rfl) W4.heap.size (by rfl) 23 _ _ R13b Tryd.underlying23 rfl i23 ?_
    | refine wpList_load_want (by rfl) 23 (.tmp 1) (by rfl) w.heap.size (by rfl) 23 _ _ R13a Tryd.underlying23 rfl i23 ?_)
  refine (hr1 _ (hT.after N13)).mono ?_
  rintro _ W14 ⟨rfl, M14⟩
  have N14 := N13.trans M14
  go_wp2_with fail
  refine (hr2 _ (hT.after N14)).mono ?_
  rintro _ W15 ⟨rfl, M15⟩
  go_wp2_with fail
  go_ret
  exact ⟨rfl, N14.trans M15⟩

end Go.Proofs.YtlbnikkpfhclgaaDoor
