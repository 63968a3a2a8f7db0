/-
  What frameIn returns: the frame that a text begins with, for every text that is long enough.
-/
import Derived.Test.YtlbnikkpfhclgaaDoorFrame
import Derived.Test.YtlbnikkpfhclgaaDoorTake
namespace Go.Proofs.YtlbnikkpfhclgaaDoor
open Go.RowKit

theorem frL_put243 (k n g s : Nat) (l : List UInt8) (h : l.length = 243) : put (frL ⟨k, n, g, s, zeros⟩) 4 (cellsL l) = frL ⟨k, n, g, s, l⟩ := by
  have := frL_put k n g s l (by omega)
  rw [h] at this
  simpa using this

section
variable {P : Program} {w : World} {ops : Array Oper} {rest : List Oper} {o : Oper} {a : Act} {Q : Act → Prop} {C : World → Prop}
theorem exec_alloc (t : TypeId) (ho : o.op = .alloc t) (z : Array Value) (n b : Nat) (hi : (P.info? t).map (fun i => (i.zero, i.size, i.bytes)) = some (some (.agg z), n, b)) : (execOp a.eval o).run P w = .ok (.value (.pointer (some ⟨w.heap.size, 0, none⟩))) (w.alloc (.cells z t)) := by
  obtain ⟨i0, hi0, hz0, hz1, hz2⟩ := info_parts hi
  unfold execOp
  simp [ho, Instr.alloc, zeroValue, typeInfo, hi0, hz0, newVar, newRow, Value.cells]
theorem wpQuiet_build4 (hw : Region.wanted o (yielded ops a.tmps) = true) (t : TypeId) (x0 x1 x2 x3 : Operand) (ho : o.op = .build t #[(0, x0), (1, x1), (2, x2), (3, x3)]) (v0 v1 v2 v3 : Value) (h0 : a.eval x0 = v0) (h1 : a.eval x1 = v1) (h2 : a.eval x2 = v2) (h3 : a.eval x3 = v3) (cs : Array Value) (hb : P.built t [(0, v0), (1, v1), (2, v2), (3, v3)] = some cs)
    (h : wpQuiet P ops C Q rest (a.put o.dst (.agg cs))) : wpQuiet P ops C Q (o :: rest) a := by
  refine wpQuiet_run hw _ (fun w _ => ?_) h
  unfold execOp
  simp only [ho, List.map_toArray, List.map_cons, List.map_nil, h0, h1, h2, h3, Sem.run_bind, run_build w t #[(0, v0), (1, v1), (2, v2), (3, v3)] _ hb, Result.andThen_ok, Sem.run_pure]
theorem wpQuiet_build3 (hw : Region.wanted o (yielded ops a.tmps) = true) (t : TypeId) (x0 x1 x2 : Operand) (ho : o.op = .build t #[(0, x0), (1, x1), (2, x2)]) (v0 v1 v2 : Value) (h0 : a.eval x0 = v0) (h1 : a.eval x1 = v1) (h2 : a.eval x2 = v2) (cs : Array Value) (hb : P.built t [(0, v0), (1, v1), (2, v2)] = some cs)
    (h : wpQuiet P ops C Q rest (a.put o.dst (.agg cs))) : wpQuiet P ops C Q (o :: rest) a := by
  refine wpQuiet_run hw _ (fun w _ => ?_) h
  unfold execOp
  simp only [ho, List.map_toArray, List.map_cons, List.map_nil, h0, h1, h2, Sem.run_bind, run_build w t #[(0, v0), (1, v1), (2, v2)] _ hb, Result.andThen_ok, Sem.run_pure]
end

set_option maxRecDepth 20000 in
set_option maxHeartbeats 2000000 in
theorem frameIn_any (s : ByteArray) (hs : s.size = 256) (w : World) :
    Calls Tryd.prog 20 #[.string s] w fun e w' => e = .returned (.agg (frL (frIn (L s))).toArray) ∧ New w w' := by
  have hL : (L s).length = 256 := by rw [L_size]; exact hs
  obtain ⟨k, hk⟩ : ∃ k, s[0].toNat = k := ⟨_, rfl⟩
  obtain ⟨x1, hx1⟩ : ∃ x, s.extract 1 3 = x := ⟨_, rfl⟩
  obtain ⟨x2, hx2⟩ : ∃ x, s.extract 3 7 = x := ⟨_, rfl⟩
  obtain ⟨x3, hx3⟩ : ∃ x, s.extract 7 9 = x := ⟨_, rfl⟩
  obtain ⟨x4, hx4⟩ : ∃ x, s.extract 9 252 = x := ⟨_, rfl⟩
  obtain ⟨n, hn⟩ : ∃ n, beN (L x1) = n := ⟨_, rfl⟩
  obtain ⟨g, hg⟩ : ∃ n, beN (L x2) = n := ⟨_, rfl⟩
  obtain ⟨z, hz⟩ : ∃ n, beN (L x3) = n := ⟨_, rfl⟩
  have l1 : x1.size ≤ 4 := by rw [← hx1, ← L_size, L_extract, List.length_drop, List.length_take]; omega
  have l2 : x2.size ≤ 4 := by rw [← hx2, ← L_size, L_extract, List.length_drop, List.length_take]; omega
  have l3 : x3.size ≤ 4 := by rw [← hx3, ← L_size, L_extract, List.length_drop, List.length_take]; omega
  have l4 : x4.size = 243 := by rw [← hx4, ← L_size, L_extract, List.length_drop, List.length_take]; omega
  have HF : Hid (frIn (L s) = ⟨k, n, g, z, L x4⟩) := by
    show _ = _
    unfold frIn
    rw [← hk, ← hn, ← hg, ← hz, ← hx1, ← hx2, ← hx3, ← hx4, L_extract, L_extract, L_extract, L_extract]
    have h0 : (L s).getD 0 0 = s[0] := by rw [List.getD_eq_getElem?_getD, L_get s 0 (by omega)]; rfl
    rw [h0]
    simp only [List.drop_take]
  have hO := in_ok (l := L s) (by omega)
  rw [HF.out] at hO
  have hn2 : n < 65536 := hO.n
  have hz2 : z < 65536 := hO.s
  have c1 : IntKind.u16.wrap (n : Int) = (n : Int) := by rw [IntKind.wrap_u16]; omega
  have c2 : IntKind.u16.wrap (z : Int) = (z : Int) := by rw [IntKind.wrap_u16]; omega
  have j1 := fun w => joined_core x1 l1 n hn w
  have j2 := fun w => joined_core x2 l2 g hg w
  have j3 := fun w => joined_core x3 l3 z hz w
  have h4 : (L x4).length = 243 := by rw [L_size]; exact l4
  clear hn hg hz hO hL
  go_enter Tryd.func20, Tryd.ntmps20
  go_wp2_with (refine wpList_alloc_at (by rfl) 2 (by rfl) 46 (by rfl) _ _ _ info46 ?_; intro W1 R1 N1)
  simp only [Act.put, List.setIfInBounds_toArray, List.set_cons_succ, List.set_cons_zero]
  have hne := NewW.ne W1
  refine wp_region_noPanic ?_
  refine wpG.region 15 (fun w' => ∃ p : NewW W1, w' = p.v) (by kernel_rfl) ?_
  refine wpG.reads (by kernel_rfl) (fun _ _ _ _ _ h => h) [0, 1, 2, 3, 6, 7, 9, 10] 8 _ _ _ ⟨⟨W1.drew, (New.refl W1).drewR⟩, rfl⟩ (by kernel_rfl) (by kernel_rfl) ?_
  simp only [pick, List.getElem?_cons_succ, List.getElem?_cons_zero, Option.toList_some, List.cons_append, List.nil_append]
  repeat (go_big_quiet_step (fail))
  refine wpQuiet_nil ?_
  have hS : ∃ p : NewW W1, W1.drew = p.v := ⟨⟨W1.drew, (New.refl W1).drewR⟩, rfl⟩
  refine wpG.takeCall 4 (some 8) 24 #[.string x1] (.int .u32 (n : Int)) (by rfl) (by kernel_rfl) (fun _ _ _ h => h) (by rfl) (by rfl) hS (fun w' _ => by go_simp) (fun w' _ => j1 w') ?_
  simp only [Act.put, List.setIfInBounds_toArray, List.set_cons_zero, List.set_cons_succ]
  refine wpG.takeCall 8 (some 12) 24 #[.string x2] (.int .u32 (g : Int)) (by rfl) (by kernel_rfl) (fun _ _ _ h => h) (by rfl) (by rfl) hS (fun w' _ => by go_simp) (fun w' _ => j2 w') ?_
  simp only [Act.put, List.setIfInBounds_toArray, List.set_cons_zero, List.set_cons_succ]
  refine wpG.takeCall 11 (some 15) 24 #[.string x3] (.int .u32 (z : Int)) (by rfl) (by kernel_rfl) (fun _ _ _ h => h) (by rfl) (by rfl) hS (fun w' _ => by go_simp) (fun w' _ => j3 w') ?_
  simp only [Act.put, List.setIfInBounds_toArray, List.set_cons_zero, List.set_cons_succ]
  refine wpG.reads (by kernel_rfl) (fun _ _ _ _ _ h => h) [5, 12, 13] 2 _ _ _ hS (by kernel_rfl) (by kernel_rfl) ?_
  simp only [pick, List.getElem?_cons_succ, List.getElem?_cons_zero, Option.toList_some, List.cons_append, List.nil_append]
  iterate 2 (go_big_quiet_step (fail))
  refine wpQuiet_build4 (by rfl) 46 _ _ _ _ (by rfl) _ _ _ _ (by rfl) (by rfl) (by rfl) (by rfl) _ (built46 k n g z) ?_
  refine wpQuiet_nil ?_
  simp only [Act.put, List.setIfInBounds_toArray, List.set_cons_zero, List.set_cons_succ]
  refine wpG.pre (by kernel_rfl) [14] _ _ _ (by kernel_rfl) ?_
  have N2 : New W1 (W1.drew.alloc (.cells (frL noFr).toArray 46)) := (New.drew W1).alloc _
  have R2 : Row (W1.drew.alloc (.cells (frL noFr).toArray 46)) W1.heap.size (frL noFr).toArray 46 := Row.new W1.drew _ _
  refine wpPre_run (some 3) (.pointer (some ⟨W1.heap.size, 0, none⟩)) _ (by rfl) (by rfl) (by rfl) (exec_alloc 46 (by rfl) _ _ _ info46) ⟨⟨_, N2⟩, rfl⟩ ?_
  refine wpPre_nil ?_
  generalize W1.drew.alloc (.cells (frL noFr).toArray 46) = W2 at N2 R2 ⊢
  simp only [pick, List.getElem?_cons_succ, List.getElem?_cons_zero, Option.toList_some, List.cons_append, List.nil_append, Act.put, List.setIfInBounds_toArray, List.set_cons_zero, List.set_cons_succ]
  refine wpList_store_new (by rfl) 46 _ _ (by rfl) W1.heap.size (frL ⟨k, n, g, z, zeros⟩).toArray (by rfl) (by rfl) 46 (frL noFr).toArray R2 (f46 zeros_length) (same46 zeros_length zeros_length) (frL_all _) ?_
  intro W3 R3 B3
  refine NoPanic.normal ?_
  simp only [Act.put]
  have HN : Hid (New W1 W2) := N2
  have l1' := R1.lt
  have Ra : Row W3 w.heap.size (frL noFr).toArray 46 := (R1.after N2).but B3 (by omega)
  have hN3 : New w W3 := B3.new (N1.trans N2) N1.size
  have hsz := N1.size
  have HR : Hid (Row W3 W1.heap.size (frL ⟨k, n, g, z, zeros⟩).toArray 46) := R3
  clear R3 R2 N2 R1 N1 B3 j1 j2 j3 c1 c2 hS hne HN
  go_wp2_with fail
  have hne3 := NewW.ne W3
  refine region_first 4 1 W3 (New.refl W3) (by kernel_rfl) (by kernel_rfl) ?_
  simp only [List.take_succ_cons, List.take_zero, List.drop_succ_cons, List.drop_zero]
  repeat (go_big_quiet_step (fail))
  refine wpQuiet_nil ?_
  rintro w5 ⟨⟨_, hk5⟩, rfl⟩
  have R5 := HR.out.after hk5
  refine wpList_copy_text (by rfl) _ _ (by rfl) W1.heap.size 4 243 x4 (by rfl) (by rfl) (by omega) (R5.there 4 x4.size (by rw [frL_size zeros_length]; omega)) ?_
  intro W6 hW6
  have R6 := Row.setCells (cellsL (L x4)) 4 w5 _ R5 (by rw [frL_size zeros_length, cellsL_length]; omega)
  rw [List.toList_toArray, frL_put243 k n g z (L x4) h4, ← hW6, ← HF.out] at R6
  have Rc6 : Row W6 w.heap.size (frL noFr).toArray 46 := (Ra.after hk5).of (by rw [hW6]; exact setCells_other _ _ _ _ _ (by omega))
  have hN6 : New w W6 := by rw [hW6]; exact (hN3.trans hk5).setCells (by omega) _ _
  have hp6 : (frIn (L s)).p.length = 243 := by rw [HF.out]; exact h4
  clear hW6 R5 hk5 hne3 HR Ra hN3 HF
  obtain ⟨f, hf⟩ : ∃ f, frIn (L s) = f := ⟨_, rfl⟩
  rw [hf] at R6 hp6
  have HG : Hid (frIn (L s) = f) := hf
  clear hf
  go_wp2_with (first
    | refine wpList_load_row (by rfl) 46 _ (by rfl) W1.heap.size (by rfl) 46 (frL f).toArray (0, 0) _ R6 Tryd.underlying46 rfl (f46 hp6) ?_
    | (refine wpList_store_new (by rfl) 46 _ _ (by rfl) w.heap.size (frL f).toArray (by rfl) (by rfl) 46 (frL noFr).toArray Rc6 (f46 hp6) (same46 zeros_length hp6) (frL_all _) ?_; intro W7 R7 B7))
  exact bodyPost_ret (results_cell_row rfl _ _ w.heap.size 46 (frL f).toArray (0, 0) _ rfl R7 Tryd.underlying46 rfl (f46 hp6)) rfl ⟨by rw [HG.out], B7.new hN6 (by omega)⟩

end Go.Proofs.YtlbnikkpfhclgaaDoor
