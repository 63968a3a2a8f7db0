/-
  What steps tells: on from words by each block of a text.
-/
import Derived.Test.YtecamiefpdkjoaaDoorDgPad
import Derived.Test.YtecamiefpdkjoaaDoorDgBlock
namespace Go.Proofs.YtecamiefpdkjoaaDoor.Dg
open Go.RowKit
set_option maxRecDepth 20000

theorem run_copy_text {w : World} {g : Nat} {cur : Array Value} (R : Row w g cur 77) (hc : cur.size = 64) (t : ByteArray) (ht : t.size = 64) (ty : TypeId) :
    (Builtin.copy_ #[56, 9] ty #[.slice (some ⟨g, 0, none⟩) 64 64, .string t]).run Tryd.prog w = .ok (goInt 64) (w.setRow g (cb (nats (L t)))) := by
  obtain ⟨i0, hi0, _, _, _⟩ := info_parts info5
  have hs := run_storeCells_from (P := Tryd.prog) g 77 (cb (nats (L t))).toList 0 cur w R (by simp [cb_size, nats_length, L_size, ht, hc]) (fun v hv => (Array.all_eq_true_iff_forall_mem.1 (cb_one _)) v (by simpa using hv))
  rw [List.take_zero, List.nil_append, Array.toArray_toList] at hs
  have he : (List.map (fun b => Value.int .u8 (b.toNat : Int)) t.data.toList).take 64 = (cb (nats (L t))).toList := by
    rw [List.take_of_length_le (by rw [List.length_map]; show (L t).length ≤ 64; rw [L_size]; omega)]
    unfold cb nats L
    simp
  simp [Builtin.copy_, run_underlying Tryd.underlying56, Builtin.lenOf, Builtin.firstCells, sizeOf, typeInfo, hi0, ht]
  rw [he, hs]
  rfl

theorem wpList_copy_text {w : World} {ops : Array Oper} {rest : List Oper} {o : Oper} {a : Act} {Q : Exit → Act → World → Prop} (hgd : o.guard = none) (d s : Operand)
    (ho : o.op = .call { callee := .builtin .copy, args := #[d, s], argTypes := #[56, 9] }) (g : Nat) (t : ByteArray) (hd : a.eval d = .slice (some ⟨g, 0, none⟩) 64 64) (hs : a.eval s = .string t)
    {cur : Array Value} (R : Row w g cur 77) (hc : cur.size = 64) (ht : t.size = 64)
    (h : wpList Tryd.prog ops Q rest (a.put o.dst (goInt 64)) (w.setRow g (cb (nats (L t))))) : wpList Tryd.prog ops Q (o :: rest) a w := by
  refine wpList_plain hgd fun K hK => ?_
  have hrun := run_copy_text R hc t ht o.type
  unfold Oper.wp
  simp [execOp, ho, resolve, invoke, builtin, hd, hs, hrun, Result.andThen]
  exact hK _ _ h
theorem addW_bound (v h : W8) : ∀ j, (addW v h).list.getD j 0 < 4294967296 := fun j => by
  have h8 : j = 0 ∨ j = 1 ∨ j = 2 ∨ j = 3 ∨ j = 4 ∨ j = 5 ∨ j = 6 ∨ j = 7 ∨ 8 ≤ j := by omega
  rcases h8 with rfl | rfl | rfl | rfl | rfl | rfl | rfl | rfl | h
  all_goals first | exact ad_lt _ _ | skip
  rw [List.getD_eq_getElem?_getD, List.getElem?_eq_none (by rw [list_length]; exact h)]
  decide
theorem blockK_bound (k : List Nat) (h : W8) (b : List Nat) : ∀ j, (blockK k h b).list.getD j 0 < 4294967296 := by unfold blockK; exact addW_bound _ _
theorem first_bound : ∀ j, firstN.list.getD j 0 < 4294967296 := fun j => by
  have h8 : j = 0 ∨ j = 1 ∨ j = 2 ∨ j = 3 ∨ j = 4 ∨ j = 5 ∨ j = 6 ∨ j = 7 ∨ 8 ≤ j := by omega
  rcases h8 with rfl | rfl | rfl | rfl | rfl | rfl | rfl | rfl | h
  all_goals first | decide | skip
  rw [List.getD_eq_getElem?_getD, List.getElem?_eq_none (by rw [list_length]; exact h)]
  decide
theorem stepsK_bound (k : List Nat) (h : W8) (hh : ∀ j, h.list.getD j 0 < 4294967296) (l : List UInt8) (n : Nat) : ∀ j, (stepsK k h l n).list.getD j 0 < 4294967296 := by
  cases n with
  | zero => exact hh
  | succ n => unfold stepsK; exact blockK_bound _ _ _
theorem nats_lt (l : List UInt8) : ∀ j, (nats l).getD j 0 < 256 := fun j => by
  by_cases h : j < l.length
  · rw [nats_get l j h]; exact l[j].toNat_lt
  · rw [List.getD_eq_getElem?_getD, List.getElem?_eq_none (by rw [nats_length]; omega)]; decide

set_option maxHeartbeats 1000000 in
theorem steps_any (h : W8) (s : ByteArray) (m : Nat) (hs : s.size = 64 * m) (hm : m ≤ 100) (w : World) (hT : Tab w) :
    Calls Tryd.prog 34 #[.agg (cw h.list), .string s] w fun e w' => e = .returned (.agg (cw (stepsK roundsN h (L s) m).list)) ∧ Kept w w' := by
  obtain ⟨hc, hhc⟩ : ∃ hc, cw h.list = hc := ⟨_, rfl⟩
  rw [hhc]
  go_enter Tryd.func34, Tryd.ntmps34
  go_wp2_with fail
  go_loopw [5, 6] (fun i _ wr => ∃ k : Nat, k ≤ m ∧ i = .int .i64 ((64 * k : Nat) : Int) ∧ Row wr w.heap.size (cw (stepsK roundsN h (L s) k).list) 62 ∧ (∃ z, Row wr (w.heap.size + 1) z 62 ∧ z.size = 8) ∧ Kept w wr) (fun i _ _ => s.size - (intOf i).toNat)
  case atStart => exact ⟨0, by omega, rfl, hhc ▸ (Row.new w _ _).alloc _, ⟨_, Row.newAt (by simp) _ _, rfl⟩, ((Kept.refl w).allocR _).allocR _⟩
  case round =>
    obtain ⟨k, hk, rfl, R0, ⟨z, R1, hz⟩, hK⟩ := hrel
    have HZ : Hid (z.size = 8) := hz
    clear hz
    obtain ⟨v, hv⟩ : ∃ v, stepsK roundsN h (L s) k = v := ⟨_, rfl⟩
    rw [hv] at R0
    by_cases hlt : k < m
    · obtain ⟨q, hq⟩ : ∃ q, 64 * k = q := ⟨_, rfl⟩
      have hq1 : q + 64 ≤ s.size := by omega
      have hx1 : decide ((s.size : Int) < (q : Int) + 64) = false := decide_eq_false (by omega)
      rw [hq]
      go_upto_region 5 with fail
      obtain ⟨Z, hZ⟩ : ∃ Z : Array Value, Z = #[.int .u8 0, .int .u8 0, .int .u8 0, .int .u8 0, .int .u8 0, .int .u8 0, .int .u8 0, .int .u8 0, .int .u8 0, .int .u8 0, .int .u8 0, .int .u8 0, .int .u8 0, .int .u8 0, .int .u8 0, .int .u8 0, .int .u8 0, .int .u8 0, .int .u8 0, .int .u8 0, .int .u8 0, .int .u8 0, .int .u8 0, .int .u8 0, .int .u8 0, .int .u8 0, .int .u8 0, .int .u8 0, .int .u8 0, .int .u8 0, .int .u8 0, .int .u8 0, .int .u8 0, .int .u8 0, .int .u8 0, .int .u8 0, .int .u8 0, .int .u8 0, .int .u8 0, .int .u8 0, .int .u8 0, .int .u8 0, .int .u8 0, .int .u8 0, .int .u8 0, .int .u8 0, .int .u8 0, .int .u8 0, .int .u8 0, .int .u8 0, .int .u8 0, .int .u8 0, .int .u8 0, .int .u8 0, .int .u8 0, .int .u8 0, .int .u8 0, .int .u8 0, .int .u8 0, .int .u8 0, .int .u8 0, .int .u8 0, .int .u8 0, .int .u8 0] := ⟨_, rfl⟩
      rw [← hZ]
      have hZs : Z.size = 64 := by rw [hZ]; rfl
      obtain ⟨W, hW, S0, S1, S2, hK2⟩ : ∃ W, W = wr.alloc (.cells Z 77) ∧ Row W w.heap.size (cw v.list) 62 ∧ Row W (w.heap.size + 1) z 62 ∧ Row W wr.heap.size Z 77 ∧ Kept w W := ⟨_, rfl, R0.alloc _, R1.alloc _, Row.new wr _ _, hK.allocR _⟩
      rw [← hW]
      clear hW hZ
      have hne : Nonempty (KeptW W) := ⟨⟨W, Kept.refl W⟩⟩
      have hts : (s.extract q (q + 64)).size = 64 := by rw [← L_size, L_extract, List.length_drop, List.length_take, L_size]; omega
      refine region_part 6 W (Kept.refl W) (by kernel_rfl) (by kernel_rfl) (by rfl) ?_
      simp only [List.take_succ_cons, List.take_zero, List.drop_succ_cons, List.drop_zero]
      repeat (go_big_quiet_step (fail))
      refine wpQuiet_nil ?_
      rintro w2 ⟨⟨_, hk2⟩, rfl⟩
      have T2 := S2.kept hk2
      go_upto_region 6 with (refine wpList_copy_text (by rfl) _ _ (by rfl) wr.heap.size (s.extract q (q + 64)) (by rfl) (by rfl) T2 hZs hts ?_)
      obtain ⟨bl, hbl⟩ : ∃ bl, nats (L (s.extract q (q + 64))) = bl := ⟨_, rfl⟩
      have HV : Hid (stepsK roundsN h (L s) (k + 1) = blockN v bl) := by
        show stepsK roundsN h (L s) (k + 1) = _
        rw [stepsK, hv, ← hbl, L_extract, hq, List.drop_take, show q + 64 - q = 64 by omega]
        rfl
      have hbl64 : bl.length = 64 := by rw [← hbl, nats_length, L_size]; exact hts
      have hb256 : ∀ j, bl.getD j 0 < 256 := by rw [← hbl]; exact nats_lt _
      rw [hbl]
      have hgw : w.heap.size + 1 < wr.heap.size := R1.lt
      obtain ⟨W3, hW3, U0, U1, U2, hK3⟩ : ∃ W3, W3 = w2.setRow wr.heap.size (cb bl) ∧ Row W3 w.heap.size (cw v.list) 62 ∧ Row W3 (w.heap.size + 1) z 62 ∧ Row W3 wr.heap.size (cb bl) 77 ∧ Kept w W3 :=
        ⟨_, rfl, (S0.kept hk2).setOther (by omega) _, (S1.kept hk2).setOther (by omega) _, T2.set _, (hK2.trans hk2).setRow (by omega) _⟩
      rw [← hW3]
      have hcall := block_any v bl hbl64 hb256 W3 (hT.kept hK3)
      clear hW3 hbl hb256 T2 S0 S1 S2 hK2 hk2 hts
      go_wp2_with (first | refine wpList_load_row (by rfl) 62 _ (by rfl) w.heap.size (by rfl) 62 (cw v.list) (0, 0) _ U0 Tryd.underlying62 rfl (by rw [cw_size]; exact i23) ?_ | refine wpList_load_row (by rfl) 77 _ (by rfl) wr.heap.size (by rfl) 77 (cb bl) (0, 0) _ U2 Tryd.underlying77 rfl (by rw [cb_size, hbl64]; exact i24) ?_)
      refine hcall.mono ?_
      rintro _ w4 ⟨rfl, k4⟩
      clear hcall
      obtain ⟨r, hr⟩ : ∃ r, blockN v bl = r := ⟨_, rfl⟩
      rw [hr] at HV ⊢
      clear hr
      have V0 := U0.kept k4
      have V1 := U1.kept k4
      have hK4 := hK3.trans k4
      clear U0 U1 U2 k4 hK3
      go_wp2_with (refine wpList_store_row (by rfl) 62 _ _ (by rfl) w.heap.size (cw r.list) (by rfl) (by rfl) 62 (cw v.list) V0 (by rw [cw_size]; exact i23) (by rw [cw_size, cw_size]; rfl) (cw_one _) ?_)
      go_roundw
      case rel =>
        refine ⟨k + 1, by omega, by go_num, ?_, ⟨z, V1.setOther (by omega) _, HZ.out⟩, hK4.setRow (by omega) _⟩
        rw [HV.out]
        exact V0.set _
      case measure => simp [intOf]; omega
    · obtain rfl : k = m := by omega
      have HV : Hid (stepsK roundsN h (L s) k = v) := hv
      clear hv
      go_upto_region 7 with fail
      go_wp2_with (first | refine wpList_load_row (by rfl) 62 _ (by rfl) w.heap.size (by rfl) 62 (cw v.list) (0, 0) _ R0 Tryd.underlying62 rfl (by rw [cw_size]; exact i23) ?_ | refine wpList_store_row (by rfl) 62 _ _ (by rfl) (w.heap.size + 1) (cw v.list) (by rfl) (by rfl) 62 z R1 (by rw [cw_size]; exact i23) (by rw [cw_size]; exact HZ.out) (cw_one _) ?_)
      exact bodyPost_ret (results_cell_row rfl _ _ (w.heap.size + 1) 62 (cw v.list) (0, 0) _ rfl (R1.set _) Tryd.underlying62 rfl (by rw [cw_size]; exact i23)) rfl ⟨by rw [HV.out], hK.setRow (by omega) _⟩

end Go.Proofs.YtecamiefpdkjoaaDoor.Dg
