/-
  What the document's Block tells: the same as Block.
-/
import Derived.Test.YtemhgehelblcoaaDoorRefStep
import Derived.Test.YtemhgehelblcoaaDoorConst
namespace Go.Proofs.YtemhgehelblcoaaDoor
open Go.RowKit

/-- A whole row read inside a region that draws its order. -/
theorem wpQuiet_load_row {P : Program} {ops : Array Oper} {Q : Act → Prop} {a : Act} {o : Oper} {rest : List Oper} {W : World} (hw : Region.wanted o (yielded ops a.tmps) = true) (ty : TypeId) (x : Operand) (ho : o.op = .load ty x)
    (g : Nat) (hx : a.eval x = .pointer (some ⟨g, 0, none⟩)) (t : TypeId) (cs : Array Value) (R : Row W g cs t) (d : TypeDesc)
    (hu : P.underlying ty = some d) (hd : (match d with | .struct _ | .array _ _ => true | _ => false) = true) (hi : (P.info? ty).map (·.size) = some cs.size)
    (h : wpQuiet P ops (fun w' => ∃ p : KeptW W, w' = p.v) Q rest (a.put o.dst (.agg cs))) : wpQuiet P ops (fun w' => ∃ p : KeptW W, w' = p.v) Q (o :: rest) a :=
  BigFrame.wpQuiet_want hw fun K hK => ⟨.agg cs, fun w ⟨p, e⟩ => by
    subst e
    have hr := run_loadVar_row p.v g t ty cs (0, 0) d (R.kept p.h) hu hd hi
    unfold Oper.quietAt execOp
    simp only [ho, hx, Instr.loadAt, Instr.sureAddr, Sem.run_bind, Sem.run_pure, Result.andThen_ok, hr]
    exact ⟨rfl, rfl⟩, hK _ h⟩

set_option maxHeartbeats 1600000 in
theorem refBlock_any (h : W8) (b : List Nat) (hb : b.length = 64) (h256 : ∀ j, b.getD j 0 < 256) (w : World) :
    Calls Tryd.prog 15 #[.agg (cw h.list), .agg (cb b)] w fun e w' => e = .returned (.agg (cw (blockN h b).list)) ∧ Kept w w' := by
  have hstep := refStep_any h b roundsN hb h256 roundsN_length
  have hconst := constants_any
  obtain ⟨r, hr⟩ : ∃ r, blockK roundsN h b = r := ⟨_, rfl⟩
  have HB : Hid (blockN h b = r) := by show _ = _; unfold blockN; exact hr
  rw [hr] at hstep
  obtain ⟨bc, hbc⟩ : ∃ bc, cb b = bc := ⟨_, rfl⟩
  have hbs : bc.size = 64 := by rw [← hbc, cb_size, hb]
  obtain ⟨hc, hhc⟩ : ∃ hc, cw h.list = hc := ⟨_, rfl⟩
  have hcs : hc.size = 8 := by rw [← hhc, cw_size]; rfl
  obtain ⟨kc, hkc⟩ : ∃ kc, cw roundsN = kc := ⟨_, rfl⟩
  rw [hbc, hhc, hkc] at hstep
  rw [hkc] at hconst
  rw [hbc, hhc]
  clear hbc hhc hkc hr hb h256
  go_enter Tryd.func15, Tryd.ntmps15
  go_upto_region 1 with fail
  obtain ⟨W, hW, R0, R1, ⟨z, R2, hz⟩, hK⟩ : ∃ W, W = ((w.alloc (.cells hc 23)).alloc (.cells bc 24)).alloc (.cells #[.int .u32 0, .int .u32 0, .int .u32 0, .int .u32 0, .int .u32 0, .int .u32 0, .int .u32 0, .int .u32 0] 23) ∧ Row W w.heap.size hc 23 ∧ Row W (w.heap.size + 1) bc 24 ∧ (∃ z, Row W (w.heap.size + 1 + 1) z 23 ∧ z.size = 8) ∧ Kept w W :=
    ⟨_, rfl, ((Row.new w _ _).alloc _).alloc _, (Row.newAt (by simp) _ _).alloc _, ⟨_, Row.newAt (by simp) _ _, rfl⟩, (((Kept.refl w).allocR _).allocR _).allocR _⟩
  rw [← hW]
  clear hW
  have HZ : Hid (z.size = 8) := hz
  clear hz
  have hne : Nonempty (KeptW W) := ⟨⟨W, Kept.refl W⟩⟩
  refine region_part 4 W (Kept.refl W) (by kernel_rfl) (by kernel_rfl) (by rfl) ?_
  simp only [List.take_succ_cons, List.take_zero, List.drop_succ_cons, List.drop_zero]
  refine wpQuiet_load_row (by rfl) 23 _ (by rfl) w.heap.size (by rfl) 23 hc R0 _ Tryd.underlying23 rfl (by rw [hcs]; exact i23) ?_
  simp only [Act.put, List.setIfInBounds_toArray, List.set_cons_zero, List.set_cons_succ]
  refine wpQuiet_load_row (by rfl) 24 _ (by rfl) (w.heap.size + 1) (by rfl) 24 bc R1 _ Tryd.underlying24 rfl (by rw [hbs]; exact i24) ?_
  simp only [Act.put, List.setIfInBounds_toArray, List.set_cons_zero, List.set_cons_succ]
  repeat (go_big_quiet_step (first | (go_at_call 20; exact Calls.keptw (hconst _)) | (go_at_call 23; exact Calls.keptw (hstep _))))
  refine wpQuiet_nil ?_
  rintro w2 ⟨⟨_, hk2⟩, rfl⟩
  have S2 := R2.kept hk2
  go_wp2_with (refine wpList_store_row (by rfl) 23 _ _ (by rfl) (w.heap.size + 1 + 1) (cw r.list) (by rfl) (by rfl) 23 z S2 (by rw [cw_size]; exact i23) (by rw [cw_size]; exact HZ.out) (cw_one _) ?_)
  exact bodyPost_ret (results_cell_row rfl _ _ (w.heap.size + 1 + 1) 23 (cw r.list) (0, 0) _ rfl (S2.set _) Tryd.underlying23 rfl (by rw [cw_size]; exact i23)) rfl ⟨by rw [HB.out], (hK.trans hk2).setRow (by omega) _⟩

end Go.Proofs.YtemhgehelblcoaaDoor
