/-
  What frameOf returns: the frame of a page's fields, or none, for every page and every number.
-/
import Derived.Test.YtlbnikkpfhclgaaDoorMem
namespace Go.Proofs.YtlbnikkpfhclgaaDoor
open Go.RowKit

/-- A frame as cells; the frame of noughts; a page's fields as cells. -/
def frL (f : Fr) : List Value := .int .u8 (f.k : Int) :: .int .u16 (f.n : Int) :: .int .u32 (f.g : Int) :: .int .u16 (f.s : Int) :: cellsL f.p
def zeros : List UInt8 := List.replicate 243 0
def noFr : Fr := ⟨0, 0, 0, 0, zeros⟩
theorem zeros_length : zeros.length = 243 := by unfold zeros; rw [List.length_replicate]
theorem frL_length {f : Fr} (h : f.p.length = 243) : (frL f).length = 247 := by unfold frL; simp only [List.length_cons, cellsL_length, h]
theorem frL_size {f : Fr} (h : f.p.length = 243) : (frL f).toArray.size = 247 := by rw [List.size_toArray, frL_length h]
theorem frL_all (f : Fr) : (frL f).toArray.all (·.oneCell') = true := all_oneCell_toArray fun v hv => by
  unfold frL at hv
  rcases List.mem_cons.1 hv with rfl | hv
  · rfl
  rcases List.mem_cons.1 hv with rfl | hv
  · rfl
  rcases List.mem_cons.1 hv with rfl | hv
  · rfl
  rcases List.mem_cons.1 hv with rfl | hv
  · rfl
  exact cellsL_one _ v hv
theorem info46 : (Tryd.prog.info? 46).map (fun i => (i.zero, i.size, i.bytes)) = some (some (.agg (frL noFr).toArray), 247, 256) := by kernel_rfl
theorem info23 : (Tryd.prog.info? 23).map (fun i => (i.zero, i.size, i.bytes)) = some (some (.agg #[.int .i64 0, .int .i64 0, .string ⟨#[]⟩]), 3, 32) := by kernel_rfl
theorem i46 : (Tryd.prog.info? 46).map (·.size) = some 247 := by kernel_rfl
theorem i23 : (Tryd.prog.info? 23).map (·.size) = some 3 := by kernel_rfl
theorem built46 (k n g s : Nat) : Tryd.prog.built 46 [(0, .int .u8 (k : Int)), (1, .int .u16 (n : Int)), (2, .int .u32 (g : Int)), (3, .int .u16 (s : Int))] = some (frL ⟨k, n, g, s, zeros⟩).toArray := by kernel_rfl
theorem built46_none : Tryd.prog.built 46 [] = some (frL noFr).toArray := by kernel_rfl
theorem f46 {f : Fr} (h : f.p.length = 243) : (Tryd.prog.info? 46).map (·.size) = some (frL f).toArray.size := by rw [frL_size h]; exact i46
theorem same46 {f h : Fr} (hf : f.p.length = 243) (hh : h.p.length = 243) : (frL f).toArray.size = (frL h).toArray.size := by rw [frL_size hf, frL_size hh]

theorem frL_put (k n g s : Nat) (l : List UInt8) (h : l.length ≤ 243) : put (frL ⟨k, n, g, s, zeros⟩) 4 (cellsL l) = frL ⟨k, n, g, s, l ++ List.replicate (243 - l.length) 0⟩ := by
  have e : zeros = List.replicate l.length 0 ++ List.replicate (243 - l.length) 0 := by
    unfold zeros
    rw [List.replicate_append_replicate, show l.length + (243 - l.length) = 243 by omega]
  have h1 := put_append [Value.int .u8 (k : Int), .int .u16 (n : Int), .int .u32 (g : Int), .int .u16 (s : Int)] (cellsL (List.replicate l.length 0)) (cellsL (List.replicate (243 - l.length) 0)) (cellsL l) (by rw [cellsL_length, cellsL_length, List.length_replicate])
  unfold frL
  simp only
  rw [e, cellsL_append, cellsL_append]
  exact h1

set_option maxRecDepth 20000 in
set_option maxHeartbeats 2000000 in
theorem frameOf_yes (k n g : Nat) (hk1 : 1 ≤ k) (hk2 : k < 256) (hn : n < 65536) (hg : g < 2147483648) (s : ByteArray) (hs : s.size ≤ 243) (w : World) :
    Calls Tryd.prog 13 #[.agg #[.int .i64 (k : Int), .int .i64 (g : Int), .string s], .int .i64 (n : Int)] w fun e w' => e = .returned (.tuple #[.agg (frL (frOf k n g (L s))).toArray, .bool true]) ∧ New w w' := by
  have t1 : decide ((k : Int) < 1) = false := decide_eq_false (by omega)
  have t2 : decide ((255 : Int) < (k : Int)) = false := decide_eq_false (by omega)
  have t3 : decide ((n : Int) < 0) = false := decide_eq_false (by omega)
  have t4 : decide ((65535 : Int) < (n : Int)) = false := decide_eq_false (by omega)
  have t5 : decide ((g : Int) < 0) = false := decide_eq_false (by omega)
  have t6 : decide ((2147483647 : Int) < (g : Int)) = false := decide_eq_false (by omega)
  have t7 : decide ((243 : Int) < (s.size : Int)) = false := decide_eq_false (by omega)
  have c1 : IntKind.u8.wrap (k : Int) = (k : Int) := by rw [IntKind.wrap_u8]; omega
  have c2 : IntKind.u16.wrap (n : Int) = (n : Int) := by rw [IntKind.wrap_u16]; omega
  have c3 : IntKind.u32.wrap (g : Int) = (g : Int) := by rw [IntKind.wrap_u32]; omega
  have c4 : IntKind.u16.wrap (s.size : Int) = (s.size : Int) := by rw [IntKind.wrap_u16]; omega
  have hL : (L s).length ≤ 243 := by rw [L_size]; exact hs
  have HL : Hid ((L s).length ≤ 243) := hL
  have HS : Hid ((L s).length = s.size) := L_size s
  clear hL
  go_enter Tryd.func13, Tryd.ntmps13
  go_wp2_with (first
    | (refine wpList_box_at (by rfl) 2 (by rfl) 23 _ (by rfl) _ (by rfl) ?_; intro W1 R1 N1)
    | (refine wpList_alloc_at (by rfl) 4 (by rfl) 46 (by rfl) _ _ _ info46 ?_; intro W2 R2 N2; have Ra := R1.after N2; have ha0 := Ra.has 0 (by rfl); have ha1 := Ra.has 1 (by rfl); have ha2 := Ra.has 2 (by rfl))
    | refine wpList_build4 (by rfl) 46 _ _ _ _ (by rfl) _ _ _ _ (by rfl) (by rfl) (by rfl) (by rfl) _ (built46 k n g s.size) ?_
    | (refine wpList_alloc_at (by rfl) 6 (by rfl) 46 (by rfl) _ _ _ info46 ?_; intro W3 R3 N3)
    | (refine wpList_store_new (by rfl) 46 _ _ (by rfl) W2.heap.size (frL ⟨k, n, g, s.size, zeros⟩).toArray (by rfl) (by rfl) 46 (frL noFr).toArray R3 (f46 zeros_length) (same46 zeros_length zeros_length) (frL_all _) ?_; intro W4 R4 B4))
  have l1 := Ra.lt
  have l2 := R2.lt
  have Rb : Row W4 w.heap.size _ 23 := (Ra.after N3).but B4 (by omega)
  have Rc : Row W4 W1.heap.size _ 46 := (R2.after N3).but B4 (by omega)
  have n1 := N1.size
  have n2 := N2.size
  have hN4 : New w W4 := B4.new ((N1.trans N2).trans N3) (by omega)
  clear ha0 ha1 ha2 Ra R1 R2 R3 N1 N2 N3 B4 t1 t2 t3 t4 t5 t6 t7 c1 c2 c3 c4
  have HR : Hid (Row W4 W2.heap.size (frL ⟨k, n, g, s.size, zeros⟩).toArray 46) := R4
  clear R4
  have hq := fun p => NewW.cell (Rb.has 2 (by rfl)) p
  have hne := NewW.ne W4
  refine region_first 4 1 W4 (New.refl W4) (by kernel_rfl) (by kernel_rfl) ?_
  simp only [List.take_succ_cons, List.take_zero, List.drop_succ_cons, List.drop_zero, Act.put, List.setIfInBounds_toArray, List.set_cons_succ, List.set_cons_zero]
  repeat (go_big_quiet_step (fail))
  refine wpQuiet_nil ?_
  rintro w5 ⟨⟨_, hk5⟩, rfl⟩
  have R5 := HR.out.after hk5
  refine wpList_copy_text (by rfl) _ _ (by rfl) W2.heap.size 4 243 s (by rfl) (by rfl) hs (R5.there 4 s.size (by rw [frL_size zeros_length]; omega)) ?_
  intro W6 hW6
  have R6 := Row.setCells (cellsL (L s)) 4 w5 _ R5 (by rw [frL_size zeros_length, cellsL_length]; have := HL.out; omega)
  rw [List.toList_toArray, frL_put k n g s.size (L s) HL.out, ← hW6] at R6
  have R6' : Row W6 W2.heap.size (frL (frOf k n g (L s))).toArray 46 := by
    have e : frOf k n g (L s) = ⟨k, n, g, s.size, L s ++ List.replicate (243 - (L s).length) 0⟩ := by unfold frOf; rw [HS.out]
    rw [e]; exact R6
  have Rc6 : Row W6 W1.heap.size (frL noFr).toArray 46 := (Rc.after hk5).of (by rw [hW6]; exact setCells_other _ _ _ _ _ (by omega))
  have hN6 : New w W6 := by rw [hW6]; exact (hN4.trans hk5).setCells (by omega) _ _
  have hp6 : (frOf k n g (L s)).p.length = 243 := (frOf_ok hk2 hn (by omega) HL.out).p
  clear hW6 R6 R5 hk5 hq hne HR Rb Rc hN4 HL HS
  obtain ⟨f, hf⟩ : ∃ f, frOf k n g (L s) = f := ⟨_, rfl⟩
  rw [hf] at R6' hp6
  have HF : Hid (frOf k n g (L s) = f) := hf
  clear hf
  go_wp2_with (first
    | refine wpList_load_row (by rfl) 46 _ (by rfl) W2.heap.size (by rfl) 46 (frL f).toArray (0, 0) _ R6' Tryd.underlying46 rfl (f46 hp6) ?_
    | (refine wpList_store_new (by rfl) 46 _ _ (by rfl) W1.heap.size (frL f).toArray (by rfl) (by rfl) 46 (frL noFr).toArray Rc6 (f46 hp6) (same46 zeros_length hp6) (frL_all _) ?_; intro W7 R7 B7))
  exact bodyPost_ret (results_cell_tmp rfl _ _ W1.heap.size 46 (frL f).toArray (0, 0) _ (.bool true) rfl rfl R7 Tryd.underlying46 rfl (f46 hp6)) rfl ⟨by rw [HF.out], B7.new hN6 (by omega)⟩

set_option maxRecDepth 20000 in
set_option maxHeartbeats 2000000 in
theorem frameOf_no (k a g : Int) (s : ByteArray) (h : ¬ Fits k a g (s.size : Int)) (w : World) :
    Calls Tryd.prog 13 #[.agg #[.int .i64 k, .int .i64 g, .string s], .int .i64 a] w fun e w' => e = .returned (.tuple #[.agg (frL noFr).toArray, .bool false]) ∧ New w w' := by
  rcases not_fits h with h1 | ⟨h1, h2⟩ | ⟨h1, h2, h3⟩ | ⟨h1, h2, h3, h4⟩ | ⟨h1, h2, h3, h4, h5⟩ | ⟨h1, h2, h3, h4, h5, h6⟩ | ⟨h1, h2, h3, h4, h5, h6, h7⟩
  all_goals
    clear h
    go_enter Tryd.func13, Tryd.ntmps13
    go_wp2_with (first
      | (refine wpList_box_at (by rfl) 2 (by rfl) 23 _ (by rfl) _ (by rfl) ?_; intro W1 R1 N1)
      | (refine wpList_alloc_at (by rfl) 4 (by rfl) 46 (by rfl) _ _ _ info46 ?_; intro W2 R2 N2; have Ra := R1.after N2; have ha0 := Ra.has 0 (by rfl); have ha1 := Ra.has 1 (by rfl); have ha2 := Ra.has 2 (by rfl))
      | refine wpList_build0 (by rfl) 46 (by rfl) _ built46_none ?_
      | (refine wpList_store_new (by rfl) 46 _ _ (by rfl) W1.heap.size (frL noFr).toArray (by rfl) (by rfl) 46 (frL noFr).toArray R2 (f46 zeros_length) rfl (frL_all _) ?_; intro W4 R4 B4))
    exact bodyPost_ret (results_cell_tmp rfl _ _ W1.heap.size 46 (frL noFr).toArray (0, 0) _ (.bool false) rfl rfl R4 Tryd.underlying46 rfl (f46 zeros_length)) rfl ⟨rfl, B4.new (N1.trans N2) N1.size⟩

end Go.Proofs.YtlbnikkpfhclgaaDoor
