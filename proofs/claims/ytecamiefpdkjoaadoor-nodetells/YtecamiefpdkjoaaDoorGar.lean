/-
  NodeUnlike's walk: whatever Item, text and byte, the call returns true.
-/
import Derived.Test.YtecamiefpdkjoaaDoorGaq
import Derived.Deep.CutBlock
namespace Go.Proofs.YtecamiefpdkjoaaDoor
open Go.RowKit
set_option maxRecDepth 20000
set_option linter.unusedVariables false

theorem tx_but {w w' : World} {g : Nat} {a : Option Addr} {hs : List (List UInt8)} (B : But g w w') (h : Tx w a hs) (hn : ∀ x, a = some x → x.block ≠ g) : Tx w' a hs := h.of fun x hx _ => B.block _ (hn x hx)
theorem tx_set {w : World} {a : Option Addr} {hs : List (List UInt8)} (h : Tx w a hs) {b : Nat} (hn : ∀ x, a = some x → x.block ≠ b) (i : Nat) (u : Value) : Tx (w.setCell ⟨b, i, none⟩ u) a hs := h.of fun x hx _ => Below.heap_setCell _ _ _ _ (hn x hx)
theorem tx_cell0 {w : World} {g : Nat} {hs : List (List UInt8)} (h : Tx w (some ⟨g, 0, none⟩) hs) (h0 : 0 < hs.length) : ∃ u, w.cell? ⟨g, 0, none⟩ = some u := by
  obtain ⟨x, e, hx⟩ := h h0
  cases e
  exact ⟨_, hx 0 _ (List.getElem?_eq_getElem h0)⟩
theorem tx_head {w : World} {g : Nat} {hs : List (List UInt8)} (h : Tx w (some ⟨g, 0, none⟩) hs) (h0 : 0 < hs.length) {cur : Array Value} (K : Row w g cur 9) (v : UInt8) : Tx (w.setCell ⟨g, 0, none⟩ (.string (bs (hash1 v)))) (some ⟨g, 0, none⟩) (hash1 v :: hs.tail) := by
  obtain ⟨x, e, hx⟩ := h h0
  cases e
  have K2 := K.set 0 (.string (bs (hash1 v)))
  refine fun _ => ⟨_, rfl, fun i y hi => ?_⟩
  rw [Addr.add_mid, Nat.zero_add, K2.cell]
  have hc0 : cur[0]? = some (.string (bs hs[0])) := by
    have := hx 0 _ (List.getElem?_eq_getElem h0)
    rw [Addr.add_mid, Nat.zero_add, K.cell] at this
    exact this
  have hs0 : 0 < cur.size := (Array.getElem?_eq_some_iff.1 hc0).1
  cases i with
  | zero =>
    cases hi
    rw [Array.getElem?_setIfInBounds_self]
    simp [hs0]
  | succ i =>
    rw [Array.getElem?_setIfInBounds_ne (by omega)]
    rw [List.getElem?_cons_succ, List.getElem?_tail] at hi
    have := hx (i + 1) y hi
    rw [Addr.add_mid, Nat.zero_add, K.cell] at this
    exact this
theorem itC_set3 (I : It) (a : Option Addr) (c : Nat) (q : ByteArray) : (itC I a c).setIfInBounds 3 (.string q) = itC ⟨I.k, I.p, I.has, L q, I.m, I.hs⟩ a c := by
  unfold itC
  simp only [bs_L, List.setIfInBounds_toArray, List.set_cons_zero, List.set_cons_succ]
theorem itC_set1 (I : It) (a : Option Addr) (c : Nat) : (itC I a c).setIfInBounds 1 (.string (bs I.p ++ ⟨#[1]⟩)) = itC ⟨I.k, I.p ++ [1], I.has, I.v, I.m, I.hs⟩ a c := by
  have e : bs I.p ++ ⟨#[1]⟩ = bs (I.p ++ [1]) := eq_of_L (by rw [L_append, L_bs, L_bs]; rfl)
  rw [e]
  unfold itC
  simp only [List.setIfInBounds_toArray, List.set_cons_zero, List.set_cons_succ]
theorem itC_head (I : It) (a : Option Addr) (c : Nat) (v : UInt8) (h0 : 0 < I.hs.length) : itC I a c = itC ⟨I.k, I.p, I.has, I.v, I.m, hash1 v :: I.hs.tail⟩ a c := by
  unfold itC
  rw [show (hash1 v :: I.hs.tail).length = I.hs.length by rw [List.length_cons, List.length_tail]; omega]
theorem exec_index0 {o : Oper} {a : Act} {w : World} {x : Operand} {g n c : Nat} (ho : o.op = .indexAddr 22 x (.const (.int .i64 0))) (hx : a.eval x = .slice (some ⟨g, 0, none⟩) n c) (hn : 0 < n) : (execOp a.eval o).run Tryd.prog w = .ok (.value (.pointer (some ⟨g, 0, none⟩))) w := by
  obtain ⟨i0, hi0, hz0, hz1, hz2⟩ := info_parts info9
  unfold execOp
  have hc : a.eval (.const (.int .i64 0)) = .int .i64 0 := rfl
  simp [ho, hx, hc, Instr.indexAt, run_underlying Tryd.underlying22, sizeOf, typeInfo, hi0, hn, Addr.add, asIntOf]

set_option maxHeartbeats 8000000 in
theorem unlike_long (I : It) (a : Option Addr) (c : Nat) (q : ByteArray) (v : UInt8) (w : World) (hT : Tx w a I.hs) (hTT : TT w) (h : longI I = true ∨ longI I = false ∧ 100 < q.size) :
    Calls Tryd.prog 6 #[.agg (itC I a c), .string q, .int .u8 (v.toNat : Int)] w fun e w' => e = .returned (.bool true) ∧ New w w' := by
  have HT : Hid (Tx w a I.hs) := hT
  have s3 := itC_size I a c
  have L3 := c_long I a c
  clear hT
  go_enter Tryd.func6, Tryd.ntmps6
  go_wp2_with (first
    | (refine wpList_box_at (by rfl) 3 (by rfl) 24 _ (by rfl) (itC I a c) (by rfl) ?_; intro Wa R3 N)
    | refine wpList_load_want (by rfl) 24 _ (by rfl) w.heap.size (by rfl) 24 _ _ R3 Tryd.underlying24 rfl s3 ?_ | refine wpList_load_row (by rfl) 24 _ (by rfl) w.heap.size (by rfl) 24 _ (0, 0) _ R3 Tryd.underlying24 rfl s3 ?_)
  have r3 := R3.lt
  rcases h with h | ⟨h, h2⟩
  · rw [h] at L3
    refine (L3 _ (HT.out.after N)).mono ?_
    rintro _ V1 ⟨rfl, k⟩
    replace N := N.trans k
    clear k
    go_wp2_with fail
    refine (c_wakes _ (hTT.after N)).mono ?_
    rintro _ V2 ⟨rfl, k⟩
    replace N := N.trans k
    clear k
    go_wp2_with fail
    go_ret
    exact ⟨rfl, N⟩
  · rw [h] at L3
    have e1 : decide ((100 : Int) < (q.size : Int)) = true := decide_eq_true (by omega)
    have e2 : decide (100 < q.size) = true := decide_eq_true (by omega)
    refine (L3 _ (HT.out.after N)).mono ?_
    rintro _ V3 ⟨rfl, k⟩
    replace N := N.trans k
    clear k
    go_wp2_with fail
    refine (c_wakes _ (hTT.after N)).mono ?_
    rintro _ V4 ⟨rfl, k⟩
    replace N := N.trans k
    clear k
    go_wp2_with fail
    go_ret
    exact ⟨rfl, N⟩

set_option maxHeartbeats 8000000 in
theorem unlike_go (I : It) (a : Option Addr) (c : Nat) (q : ByteArray) (v : UInt8) (w : World) (hT : Tx w a I.hs) (hTT : TT w) (hI : longI I = false) (h2 : ¬ 100 < q.size) :
    Calls Tryd.prog 6 #[.agg (itC I a c), .string q, .int .u8 (v.toNat : Int)] w fun e w' => e = .returned (.bool true) ∧ New w w' := by
  have HT : Hid (Tx w a I.hs) := hT
  have s3 := itC_size I a c
  have L3 := c_long I a c
  have hsm := longI_small hI
  have hn3 : I.hs.length ≤ 3000 := hsm.2.2.2
  have hpv : (bs I.p).size ≤ 200 := hsm.2.1
  have e1 : decide ((100 : Int) < (q.size : Int)) = false := decide_eq_false (by omega)
  have e2 : decide (100 < q.size) = false := decide_eq_false (by omega)
  have hq : q.size ≤ 100 := by omega
  rw [hI] at L3
  have E3 := c_enc I hsm.1 a c
  have G3 := c_rgood I hsm.1 a c
  clear hT hI h2
  go_enter Tryd.func6, Tryd.ntmps6
  go_wp2_with (first
    | (refine wpList_box_at (by rfl) 3 (by rfl) 24 _ (by rfl) (itC I a c) (by rfl) ?_; intro Wa R3 N)
    | refine wpList_load_want (by rfl) 24 _ (by rfl) w.heap.size (by rfl) 24 _ _ R3 Tryd.underlying24 rfl s3 ?_ | refine wpList_load_row (by rfl) 24 _ (by rfl) w.heap.size (by rfl) 24 _ (0, 0) _ R3 Tryd.underlying24 rfl s3 ?_)
  have r3 := R3.lt
  refine (L3 _ (HT.out.after N)).mono ?_
  rintro _ V1 ⟨rfl, k⟩
  replace R3 := R3.after k
  replace N := N.trans k
  clear k
  go_upto_region 3 with fail
  generalize hW0 : V1 = W0 at *
  have HT0 := hide (HT.out.after N)
  have y0 : ∀ p : NewW W0, p.v.cell? ⟨w.heap.size, 0, none⟩ = some (.int .i64 I.k) := NewW.cell (R3.cell 0)
  have y1 : ∀ p : NewW W0, p.v.cell? ⟨w.heap.size, 1, none⟩ = some (.string (bs I.p)) := NewW.cell (R3.cell 1)
  have y2 : ∀ p : NewW W0, p.v.cell? ⟨w.heap.size, 2, none⟩ = some (.bool I.has) := NewW.cell (R3.cell 2)
  have y3 : ∀ p : NewW W0, p.v.cell? ⟨w.heap.size, 3, none⟩ = some (.string (bs I.v)) := NewW.cell (R3.cell 3)
  have y4 : ∀ p : NewW W0, p.v.cell? ⟨w.heap.size, 4, none⟩ = some (.int .i64 I.m) := NewW.cell (R3.cell 4)
  have y5 : ∀ p : NewW W0, p.v.cell? ⟨w.heap.size, 5, none⟩ = some (.slice a I.hs.length c) := NewW.cell (R3.cell 5)
  have hne := NewW.ne W0
  have r3 := R3.lt
  go_cut [7] from 20 to 34 (fun s7 wx => ∃ gI g7 d7, s7 = .pointer (some ⟨gI, 0, none⟩) ∧ Row wx gI (itC I (some ⟨g7, 0, none⟩) d7) 24 ∧ Tx wx (some ⟨g7, 0, none⟩) I.hs ∧ (∃ cur, Row wx g7 cur 9) ∧ W0.heap.size ≤ g7 ∧ g7 ≠ gI ∧ New W0 wx ∧ W0.heap.size ≤ gI)
  case first =>
    refine region_reads [0, 1, 2, 3, 4, 5, 6, 7, 8, 9, 11, 12] 5 16 (fun w' => ∃ p : NewW W0, w' = p.v) ⟨⟨_, New.drew W0⟩, rfl⟩ (by kernel_rfl) (by kernel_rfl) (fun d _ _ _ _ h => by first | exact h | (cases d <;> exact h)) ?_
    simp only [pick, List.getElem?_cons_succ, List.getElem?_cons_zero, Option.toList_some, List.cons_append, List.nil_append]
    repeat (go_big_quiet_step (fail))
    refine wpQuiet_nil ?_
    have M0 : New W0 W0.drew := New.drew W0
    clear y0 y1 y2 y3 y4 y5
    generalize W0.drew = v0 at *
    refine wpG.two 10 15 (by kernel_rfl) ?_ ?_
    · skip
      refine wpOp_run (some 30) (.slice (some ⟨_, 0, none⟩) 0 0) _ (by rfl) (by rfl) (by rfl) (exec_buildNil (by rfl) (run_buildNil _)) ⟨fun _ => ⟨⟨_, M0.alloc _⟩, rfl⟩, ?_⟩
      simp only [Act.put, List.setIfInBounds_toArray, List.set_cons_zero, List.set_cons_succ]
      have RG := Row.new v0 #[] 9
      have hG7 := M0.size
      replace M0 := M0.alloc (.cells #[] 9)
      have hT7 : v0.heap.size < (v0.alloc (.cells #[] 9)).heap.size := by simp
      generalize v0.alloc (.cells #[] 9) = v1 at *
      generalize v0.heap.size = gG at *
      refine wpG.two 13 15 (by kernel_rfl) ?_ ?_
      · skip
        obtain ⟨g7, d7, v2, hrun7, K8, T7, ⟨cur7, K7⟩, hg7⟩ := copy_app v1 gG RG a c I.hs (HT0.out.after M0) hn3
        refine wpOp_run (some 33) _ v2 (by rfl) (by rfl) (by rfl) (exec_append (by rfl) (by rfl) (by rfl) hrun7) ⟨fun _ => ⟨⟨_, M0.trans K8⟩, rfl⟩, ?_⟩
        simp only [Act.put, List.setIfInBounds_toArray, List.set_cons_zero, List.set_cons_succ]
        have hge7 : W0.heap.size ≤ g7 := by have := M0.size; omega
        replace M0 := M0.trans K8
        clear hrun7 K8 hg7 RG
        refine wpG.two 14 15 (by kernel_rfl) ?_ ?_
        · skip
          refine wpOp_run (some 34) (.agg (itC I (some ⟨g7, 0, none⟩) d7)) _ (by rfl) (by rfl) (by rfl) (exec_build6 (by rfl) (by rfl) (by rfl) (by rfl) (by rfl) (by rfl) (by rfl) (run_build24 _ I _ _)) ⟨fun _ => ⟨⟨_, M0⟩, rfl⟩, ?_⟩
          simp only [Act.put, List.setIfInBounds_toArray, List.set_cons_zero, List.set_cons_succ]
          refine wpG.one 15 (by kernel_rfl) ?_
          refine wpOp_run (some 7) (.pointer (some ⟨v2.heap.size, 0, none⟩)) _ (by rfl) (by rfl) (by rfl) (exec_alloc (by rfl) info24) ⟨fun _ => ⟨⟨_, M0.alloc _⟩, rfl⟩, ?_⟩
          simp only [Act.put, List.setIfInBounds_toArray, List.set_cons_zero, List.set_cons_succ]
          have RI : Row _ _ itZ 24 := Row.new v2 itZ 24
          have hgI := M0.size
          have hl7 := K7.lt
          replace K7 := K7.alloc (.cells itZ 24)
          replace T7 := T7.after ((New.refl _).alloc (.cells itZ 24))
          replace M0 := M0.alloc (.cells itZ 24)
          have hI7 : v2.heap.size < (v2.alloc (.cells itZ 24)).heap.size := by simp
          change wpG _ _ _ _ _ _ _ _ _ (v2.alloc (.cells itZ 24))
          generalize v2.alloc (.cells itZ 24) = v3 at *
          generalize v2.heap.size = gI at *
          have hne7 : gI ≠ g7 := by omega
          refine wpG.pre (by kernel_rfl) [] _ _ _ (by kernel_rfl) (wpPre_nil ?_)
          simp only [pick, List.getElem?_cons_succ, List.getElem?_cons_zero, Option.toList_some, List.cons_append, List.nil_append]
          refine wpList_store_new (by rfl) 24 _ _ (by rfl) gI (itC I (some ⟨g7, 0, none⟩) d7) (by rfl) (by rfl) 24 itZ RI i24 rfl (itC_one _ _ _) ?_
          intro W9 R9 B9
          go_wp2_with fail
          go_meet
          case rel =>
            exact ⟨gI, g7, d7, rfl, R9, tx_but B9 T7 (fun x hx => by cases hx; exact Ne.symm hne7), ⟨_, K7.but B9 (Ne.symm hne7)⟩, hge7, Ne.symm hne7, B9.new M0 hgI, hgI⟩
        · skip
          refine wpOp_run (some 7) (.pointer (some ⟨v2.heap.size, 0, none⟩)) _ (by rfl) (by rfl) (by rfl) (exec_alloc (by rfl) info24) ⟨fun _ => ⟨⟨_, M0.alloc _⟩, rfl⟩, ?_⟩
          simp only [Act.put, List.setIfInBounds_toArray, List.set_cons_zero, List.set_cons_succ]
          have RI : Row _ _ itZ 24 := Row.new v2 itZ 24
          have hgI := M0.size
          have hl7 := K7.lt
          replace K7 := K7.alloc (.cells itZ 24)
          replace T7 := T7.after ((New.refl _).alloc (.cells itZ 24))
          replace M0 := M0.alloc (.cells itZ 24)
          have hI7 : v2.heap.size < (v2.alloc (.cells itZ 24)).heap.size := by simp
          change wpG _ _ _ _ _ _ _ _ _ (v2.alloc (.cells itZ 24))
          generalize v2.alloc (.cells itZ 24) = v3 at *
          generalize v2.heap.size = gI at *
          have hne7 : gI ≠ g7 := by omega
          refine wpG.one 14 (by kernel_rfl) ?_
          refine wpOp_run (some 34) (.agg (itC I (some ⟨g7, 0, none⟩) d7)) _ (by rfl) (by rfl) (by rfl) (exec_build6 (by rfl) (by rfl) (by rfl) (by rfl) (by rfl) (by rfl) (by rfl) (run_build24 _ I _ _)) ⟨fun _ => ⟨⟨_, M0⟩, rfl⟩, ?_⟩
          simp only [Act.put, List.setIfInBounds_toArray, List.set_cons_zero, List.set_cons_succ]
          refine wpG.pre (by kernel_rfl) [] _ _ _ (by kernel_rfl) (wpPre_nil ?_)
          simp only [pick, List.getElem?_cons_succ, List.getElem?_cons_zero, Option.toList_some, List.cons_append, List.nil_append]
          refine wpList_store_new (by rfl) 24 _ _ (by rfl) gI (itC I (some ⟨g7, 0, none⟩) d7) (by rfl) (by rfl) 24 itZ RI i24 rfl (itC_one _ _ _) ?_
          intro W9 R9 B9
          go_wp2_with fail
          go_meet
          case rel =>
            exact ⟨gI, g7, d7, rfl, R9, tx_but B9 T7 (fun x hx => by cases hx; exact Ne.symm hne7), ⟨_, K7.but B9 (Ne.symm hne7)⟩, hge7, Ne.symm hne7, B9.new M0 hgI, hgI⟩
      · skip
        refine wpOp_run (some 7) (.pointer (some ⟨v1.heap.size, 0, none⟩)) _ (by rfl) (by rfl) (by rfl) (exec_alloc (by rfl) info24) ⟨fun _ => ⟨⟨_, M0.alloc _⟩, rfl⟩, ?_⟩
        simp only [Act.put, List.setIfInBounds_toArray, List.set_cons_zero, List.set_cons_succ]
        have RI : Row _ _ itZ 24 := Row.new v1 itZ 24
        have hgI := M0.size
        replace RG := RG.alloc (.cells itZ 24)
        have hl7 := hT7
        replace M0 := M0.alloc (.cells itZ 24)
        have hI7 : v1.heap.size < (v1.alloc (.cells itZ 24)).heap.size := by simp
        change wpG _ _ _ _ _ _ _ _ _ (v1.alloc (.cells itZ 24))
        generalize v1.alloc (.cells itZ 24) = v2 at *
        generalize v1.heap.size = gI at *
        refine wpG.one 13 (by kernel_rfl) ?_
        obtain ⟨g7, d7, v3, hrun7, K8, T7, ⟨cur7, K7⟩, hg7⟩ := copy_app v2 gG RG a c I.hs (HT0.out.after M0) hn3
        refine wpOp_run (some 33) _ v3 (by rfl) (by rfl) (by rfl) (exec_append (by rfl) (by rfl) (by rfl) hrun7) ⟨fun _ => ⟨⟨_, M0.trans K8⟩, rfl⟩, ?_⟩
        simp only [Act.put, List.setIfInBounds_toArray, List.set_cons_zero, List.set_cons_succ]
        have hge7 : W0.heap.size ≤ g7 := by have := M0.size; omega
        have hne7 : gI ≠ g7 := by omega
        replace RI := RI.after K8
        replace M0 := M0.trans K8
        clear hrun7 K8 hg7 RG
        refine wpG.one 14 (by kernel_rfl) ?_
        refine wpOp_run (some 34) (.agg (itC I (some ⟨g7, 0, none⟩) d7)) _ (by rfl) (by rfl) (by rfl) (exec_build6 (by rfl) (by rfl) (by rfl) (by rfl) (by rfl) (by rfl) (by rfl) (run_build24 _ I _ _)) ⟨fun _ => ⟨⟨_, M0⟩, rfl⟩, ?_⟩
        simp only [Act.put, List.setIfInBounds_toArray, List.set_cons_zero, List.set_cons_succ]
        refine wpG.pre (by kernel_rfl) [] _ _ _ (by kernel_rfl) (wpPre_nil ?_)
        simp only [pick, List.getElem?_cons_succ, List.getElem?_cons_zero, Option.toList_some, List.cons_append, List.nil_append]
        refine wpList_store_new (by rfl) 24 _ _ (by rfl) gI (itC I (some ⟨g7, 0, none⟩) d7) (by rfl) (by rfl) 24 itZ RI i24 rfl (itC_one _ _ _) ?_
        intro W9 R9 B9
        go_wp2_with fail
        go_meet
        case rel =>
          exact ⟨gI, g7, d7, rfl, R9, tx_but B9 T7 (fun x hx => by cases hx; exact Ne.symm hne7), ⟨_, K7.but B9 (Ne.symm hne7)⟩, hge7, Ne.symm hne7, B9.new M0 hgI, hgI⟩
    · skip
      refine wpOp_run (some 7) (.pointer (some ⟨v0.heap.size, 0, none⟩)) _ (by rfl) (by rfl) (by rfl) (exec_alloc (by rfl) info24) ⟨fun _ => ⟨⟨_, M0.alloc _⟩, rfl⟩, ?_⟩
      simp only [Act.put, List.setIfInBounds_toArray, List.set_cons_zero, List.set_cons_succ]
      have RI : Row _ _ itZ 24 := Row.new v0 itZ 24
      have hgI := M0.size
      replace M0 := M0.alloc (.cells itZ 24)
      have hI7 : v0.heap.size < (v0.alloc (.cells itZ 24)).heap.size := by simp
      change wpG _ _ _ _ _ _ _ _ _ (v0.alloc (.cells itZ 24))
      generalize v0.alloc (.cells itZ 24) = v1 at *
      generalize v0.heap.size = gI at *
      refine wpG.one 10 (by kernel_rfl) ?_
      refine wpOp_run (some 30) (.slice (some ⟨_, 0, none⟩) 0 0) _ (by rfl) (by rfl) (by rfl) (exec_buildNil (by rfl) (run_buildNil _)) ⟨fun _ => ⟨⟨_, M0.alloc _⟩, rfl⟩, ?_⟩
      simp only [Act.put, List.setIfInBounds_toArray, List.set_cons_zero, List.set_cons_succ]
      have RG := Row.new v1 #[] 9
      have hG7 := M0.size
      replace RI := RI.alloc (.cells #[] 9)
      have hlt7 := hI7
      replace M0 := M0.alloc (.cells #[] 9)
      have hT7 : v1.heap.size < (v1.alloc (.cells #[] 9)).heap.size := by simp
      generalize v1.alloc (.cells #[] 9) = v2 at *
      generalize v1.heap.size = gG at *
      refine wpG.one 13 (by kernel_rfl) ?_
      obtain ⟨g7, d7, v3, hrun7, K8, T7, ⟨cur7, K7⟩, hg7⟩ := copy_app v2 gG RG a c I.hs (HT0.out.after M0) hn3
      refine wpOp_run (some 33) _ v3 (by rfl) (by rfl) (by rfl) (exec_append (by rfl) (by rfl) (by rfl) hrun7) ⟨fun _ => ⟨⟨_, M0.trans K8⟩, rfl⟩, ?_⟩
      simp only [Act.put, List.setIfInBounds_toArray, List.set_cons_zero, List.set_cons_succ]
      have hge7 : W0.heap.size ≤ g7 := by have := M0.size; omega
      have hne7 : gI ≠ g7 := by omega
      replace RI := RI.after K8
      replace M0 := M0.trans K8
      clear hrun7 K8 hg7 RG
      refine wpG.one 14 (by kernel_rfl) ?_
      refine wpOp_run (some 34) (.agg (itC I (some ⟨g7, 0, none⟩) d7)) _ (by rfl) (by rfl) (by rfl) (exec_build6 (by rfl) (by rfl) (by rfl) (by rfl) (by rfl) (by rfl) (by rfl) (run_build24 _ I _ _)) ⟨fun _ => ⟨⟨_, M0⟩, rfl⟩, ?_⟩
      simp only [Act.put, List.setIfInBounds_toArray, List.set_cons_zero, List.set_cons_succ]
      refine wpG.pre (by kernel_rfl) [] _ _ _ (by kernel_rfl) (wpPre_nil ?_)
      simp only [pick, List.getElem?_cons_succ, List.getElem?_cons_zero, Option.toList_some, List.cons_append, List.nil_append]
      refine wpList_store_new (by rfl) 24 _ _ (by rfl) gI (itC I (some ⟨g7, 0, none⟩) d7) (by rfl) (by rfl) 24 itZ RI i24 rfl (itC_one _ _ _) ?_
      intro W9 R9 B9
      go_wp2_with fail
      go_meet
      case rel =>
        exact ⟨gI, g7, d7, rfl, R9, tx_but B9 T7 (fun x hx => by cases hx; exact Ne.symm hne7), ⟨_, K7.but B9 (Ne.symm hne7)⟩, hge7, Ne.symm hne7, B9.new M0 hgI, hgI⟩
  case rest =>
    obtain ⟨gI, g7, d7, rfl, R7, T7b, ⟨cur, K7⟩, hge7, hne7, k0, hgI⟩ := hcut
    clear y0 y1 y2 y3 y4 y5 hne HT0
    replace R3 := R3.after k0
    replace N := N.trans k0
    have hwI : w.heap.size < gI := by omega
    have hw7 : w.heap.size < g7 := by omega
    have hnI : w.heap.size ≠ gI := by omega
    have hn7 : w.heap.size ≠ g7 := by omega
    clear k0 hge7 hgI
    have hmod : v.toNat % 3 = 0 ∨ v.toNat % 3 = 1 ∨ v.toNat % 3 = 2 := by omega
    rcases hmod with hm | hm | hm
    · have t3 : ((v.toNat : Int)).tmod 3 = 0 := by rw [Int.tmod_eq_emod_of_nonneg (by omega)]; omega
      have hJS0 : Small ⟨I.k, I.p, I.has, L q, I.m, I.hs⟩ := ⟨hsm.1.p, by rw [L_size]; omega, hsm.1.n, hsm.1.h⟩
      have z3 : wc.cell? ⟨gI, 3, none⟩ = some (.string (bs I.v)) := R7.cell 3
      have f3 := R7.frozen 3
      replace R7 := R7.set 3 (.string q)
      rw [itC_set3] at R7
      replace R3 := R3.setOther (a := ⟨gI, 3, none⟩) hnI (.string q)
      replace N := N.setCell (a := ⟨gI, 3, none⟩) (Nat.le_of_lt hwI) (.string q)
      have T7a := tx_set T7b (b := gI) (fun x hx => by cases hx; exact hne7) 3 (.string q)
      clear T7b K7
      generalize hWx : wc.setCell ⟨gI, 3, none⟩ (.string q) = Wx at *
      obtain ⟨J, hJ⟩ : ∃ J : It, ⟨I.k, I.p, I.has, L q, I.m, I.hs⟩ = J := ⟨_, rfl⟩
      have HJh : J.hs = (⟨I.k, I.p, I.has, L q, I.m, I.hs⟩ : It).hs := by rw [← hJ]
      have hJS : Small J := by rw [← hJ]; exact hJS0
      rw [hJ] at R7
      have T7 : Hid (Tx Wx (some ⟨g7, 0, none⟩) J.hs) := by show Tx _ _ _; rw [HJh]; exact T7a
      have s7 := itC_size J (some ⟨g7, 0, none⟩) d7
      have E7 := c_enc J hJS (some ⟨g7, 0, none⟩) d7
      have SIJ := c_same I J hsm.1 a (some ⟨g7, 0, none⟩) c d7
      have G7 := c_rgood J hJS (some ⟨g7, 0, none⟩) d7
      have ex : goodI I = true → goodI J = true → ((bs (encB I)).toList == (bs (encB J)).toList) = eqIt I J := fun h k => by
        unfold encB
        rw [h, k, if_pos rfl, if_pos rfl, beq_bs, Bool.eq_iff_iff, eqIt_iff, beq_iff_eq]
        exact ⟨enc_inj h k, fun h => by rw [h]⟩
      clear hJ HJh hJS hJS0 T7a
      generalize goodI I = gi at *
      generalize goodI J = gj at *
      generalize bs (encB I) = st at *
      generalize bs (encB J) = su at *
      generalize eqIt I J = ij at *
      have exx : (ij != ij) = false := by cases ij <;> rfl
      have exy : (ij == ij) = true := by cases ij <;> rfl
      have exz : gi = true → gj = true → (st.toList == su.toList) = ij := ex
      clear ex
      generalize itC J (some ⟨g7, 0, none⟩) d7 = D at *
      generalize itC I a c = C at *
      go_upto_region 9 with fail
      try rw [hWx]
      clear hWx z3 f3 t3 hm
      go_wp2_with (first | refine wpList_load_want (by rfl) 24 _ (by rfl) w.heap.size (by rfl) 24 _ _ R3 Tryd.underlying24 rfl s3 ?_ | refine wpList_load_row (by rfl) 24 _ (by rfl) w.heap.size (by rfl) 24 _ (0, 0) _ R3 Tryd.underlying24 rfl s3 ?_)
      refine (E3 _ (HT.out.after N) (hTT.after N)).mono ?_
      rintro _ V2 ⟨rfl, k⟩
      replace R3 := R3.after k
      replace R7 := R7.after k
      replace T7 : Hid (Tx _ (some ⟨g7, 0, none⟩) J.hs) := T7.out.after k
      replace N := N.trans k
      clear k
      go_wp2_with (first | refine wpList_load_want (by rfl) 24 _ (by rfl) gI (by rfl) 24 _ _ R7 Tryd.underlying24 rfl s7 ?_ | refine wpList_load_row (by rfl) 24 _ (by rfl) gI (by rfl) 24 _ (0, 0) _ R7 Tryd.underlying24 rfl s7 ?_)
      refine (E7 _ T7.out (hTT.after N)).mono ?_
      rintro _ V3 ⟨rfl, k⟩
      replace R3 := R3.after k
      replace R7 := R7.after k
      replace T7 : Hid (Tx _ (some ⟨g7, 0, none⟩) J.hs) := T7.out.after k
      replace N := N.trans k
      clear k
      cases gi
      · cases gj
        · skip
          go_wp2_with (first | refine wpList_load_want (by rfl) 24 _ (by rfl) w.heap.size (by rfl) 24 _ _ R3 Tryd.underlying24 rfl s3 ?_ | refine wpList_load_row (by rfl) 24 _ (by rfl) w.heap.size (by rfl) 24 _ (0, 0) _ R3 Tryd.underlying24 rfl s3 ?_ | refine wpList_load_want (by rfl) 24 _ (by rfl) gI (by rfl) 24 _ _ R7 Tryd.underlying24 rfl s7 ?_ | refine wpList_load_row (by rfl) 24 _ (by rfl) gI (by rfl) 24 _ (0, 0) _ R7 Tryd.underlying24 rfl s7 ?_)
          refine (G3 _ (HT.out.after N)).mono ?_
          rintro _ V4 ⟨rfl, k⟩
          replace R3 := R3.after k
          replace R7 := R7.after k
          replace T7 : Hid (Tx _ (some ⟨g7, 0, none⟩) J.hs) := T7.out.after k
          replace N := N.trans k
          clear k
          go_wp2_with (first | refine wpList_load_want (by rfl) 24 _ (by rfl) w.heap.size (by rfl) 24 _ _ R3 Tryd.underlying24 rfl s3 ?_ | refine wpList_load_row (by rfl) 24 _ (by rfl) w.heap.size (by rfl) 24 _ (0, 0) _ R3 Tryd.underlying24 rfl s3 ?_ | refine wpList_load_want (by rfl) 24 _ (by rfl) gI (by rfl) 24 _ _ R7 Tryd.underlying24 rfl s7 ?_ | refine wpList_load_row (by rfl) 24 _ (by rfl) gI (by rfl) 24 _ (0, 0) _ R7 Tryd.underlying24 rfl s7 ?_)
          refine (G7 _ T7.out).mono ?_
          rintro _ V5 ⟨rfl, k⟩
          replace R3 := R3.after k
          replace R7 := R7.after k
          replace T7 : Hid (Tx _ (some ⟨g7, 0, none⟩) J.hs) := T7.out.after k
          replace N := N.trans k
          clear k
          go_wp2_with fail
          refine (c_wakes _ (hTT.after N)).mono ?_
          rintro _ V6 ⟨rfl, k⟩
          replace N := N.trans k
          clear k
          go_wp2_with fail
          go_ret
          exact ⟨rfl, N⟩
        · skip
          go_wp2_with (first | refine wpList_load_want (by rfl) 24 _ (by rfl) w.heap.size (by rfl) 24 _ _ R3 Tryd.underlying24 rfl s3 ?_ | refine wpList_load_row (by rfl) 24 _ (by rfl) w.heap.size (by rfl) 24 _ (0, 0) _ R3 Tryd.underlying24 rfl s3 ?_ | refine wpList_load_want (by rfl) 24 _ (by rfl) gI (by rfl) 24 _ _ R7 Tryd.underlying24 rfl s7 ?_ | refine wpList_load_row (by rfl) 24 _ (by rfl) gI (by rfl) 24 _ (0, 0) _ R7 Tryd.underlying24 rfl s7 ?_)
          refine (G3 _ (HT.out.after N)).mono ?_
          rintro _ V7 ⟨rfl, k⟩
          replace R3 := R3.after k
          replace R7 := R7.after k
          replace T7 : Hid (Tx _ (some ⟨g7, 0, none⟩) J.hs) := T7.out.after k
          replace N := N.trans k
          clear k
          go_wp2_with (first | refine wpList_load_want (by rfl) 24 _ (by rfl) w.heap.size (by rfl) 24 _ _ R3 Tryd.underlying24 rfl s3 ?_ | refine wpList_load_row (by rfl) 24 _ (by rfl) w.heap.size (by rfl) 24 _ (0, 0) _ R3 Tryd.underlying24 rfl s3 ?_ | refine wpList_load_want (by rfl) 24 _ (by rfl) gI (by rfl) 24 _ _ R7 Tryd.underlying24 rfl s7 ?_ | refine wpList_load_row (by rfl) 24 _ (by rfl) gI (by rfl) 24 _ (0, 0) _ R7 Tryd.underlying24 rfl s7 ?_)
          refine (G7 _ T7.out).mono ?_
          rintro _ V8 ⟨rfl, k⟩
          replace R3 := R3.after k
          replace R7 := R7.after k
          replace T7 : Hid (Tx _ (some ⟨g7, 0, none⟩) J.hs) := T7.out.after k
          replace N := N.trans k
          clear k
          go_wp2_with fail
          refine (c_wakes _ (hTT.after N)).mono ?_
          rintro _ V9 ⟨rfl, k⟩
          replace N := N.trans k
          clear k
          go_wp2_with fail
          go_ret
          exact ⟨rfl, N⟩
      · cases gj
        · skip
          go_wp2_with (first | refine wpList_load_want (by rfl) 24 _ (by rfl) w.heap.size (by rfl) 24 _ _ R3 Tryd.underlying24 rfl s3 ?_ | refine wpList_load_row (by rfl) 24 _ (by rfl) w.heap.size (by rfl) 24 _ (0, 0) _ R3 Tryd.underlying24 rfl s3 ?_ | refine wpList_load_want (by rfl) 24 _ (by rfl) gI (by rfl) 24 _ _ R7 Tryd.underlying24 rfl s7 ?_ | refine wpList_load_row (by rfl) 24 _ (by rfl) gI (by rfl) 24 _ (0, 0) _ R7 Tryd.underlying24 rfl s7 ?_)
          refine (G3 _ (HT.out.after N)).mono ?_
          rintro _ V10 ⟨rfl, k⟩
          replace R3 := R3.after k
          replace R7 := R7.after k
          replace T7 : Hid (Tx _ (some ⟨g7, 0, none⟩) J.hs) := T7.out.after k
          replace N := N.trans k
          clear k
          go_wp2_with (first | refine wpList_load_want (by rfl) 24 _ (by rfl) w.heap.size (by rfl) 24 _ _ R3 Tryd.underlying24 rfl s3 ?_ | refine wpList_load_row (by rfl) 24 _ (by rfl) w.heap.size (by rfl) 24 _ (0, 0) _ R3 Tryd.underlying24 rfl s3 ?_ | refine wpList_load_want (by rfl) 24 _ (by rfl) gI (by rfl) 24 _ _ R7 Tryd.underlying24 rfl s7 ?_ | refine wpList_load_row (by rfl) 24 _ (by rfl) gI (by rfl) 24 _ (0, 0) _ R7 Tryd.underlying24 rfl s7 ?_)
          refine (G7 _ T7.out).mono ?_
          rintro _ V11 ⟨rfl, k⟩
          replace R3 := R3.after k
          replace R7 := R7.after k
          replace T7 : Hid (Tx _ (some ⟨g7, 0, none⟩) J.hs) := T7.out.after k
          replace N := N.trans k
          clear k
          go_wp2_with fail
          refine (c_wakes _ (hTT.after N)).mono ?_
          rintro _ V12 ⟨rfl, k⟩
          replace N := N.trans k
          clear k
          go_wp2_with fail
          go_ret
          exact ⟨rfl, N⟩
        · skip
          go_wp2_with (first | refine wpList_load_want (by rfl) 24 _ (by rfl) w.heap.size (by rfl) 24 _ _ R3 Tryd.underlying24 rfl s3 ?_ | refine wpList_load_row (by rfl) 24 _ (by rfl) w.heap.size (by rfl) 24 _ (0, 0) _ R3 Tryd.underlying24 rfl s3 ?_ | refine wpList_load_want (by rfl) 24 _ (by rfl) gI (by rfl) 24 _ _ R7 Tryd.underlying24 rfl s7 ?_ | refine wpList_load_row (by rfl) 24 _ (by rfl) gI (by rfl) 24 _ (0, 0) _ R7 Tryd.underlying24 rfl s7 ?_)
          refine (SIJ _ (HT.out.after N) T7.out).mono ?_
          rintro _ V13 ⟨rfl, k⟩
          replace R3 := R3.after k
          replace R7 := R7.after k
          replace T7 : Hid (Tx _ (some ⟨g7, 0, none⟩) J.hs) := T7.out.after k
          replace N := N.trans k
          clear k
          go_wp2_with (first | refine wpList_load_want (by rfl) 24 _ (by rfl) w.heap.size (by rfl) 24 _ _ R3 Tryd.underlying24 rfl s3 ?_ | refine wpList_load_row (by rfl) 24 _ (by rfl) w.heap.size (by rfl) 24 _ (0, 0) _ R3 Tryd.underlying24 rfl s3 ?_ | refine wpList_load_want (by rfl) 24 _ (by rfl) gI (by rfl) 24 _ _ R7 Tryd.underlying24 rfl s7 ?_ | refine wpList_load_row (by rfl) 24 _ (by rfl) gI (by rfl) 24 _ (0, 0) _ R7 Tryd.underlying24 rfl s7 ?_)
          refine (G3 _ (HT.out.after N)).mono ?_
          rintro _ V14 ⟨rfl, k⟩
          replace R3 := R3.after k
          replace R7 := R7.after k
          replace T7 : Hid (Tx _ (some ⟨g7, 0, none⟩) J.hs) := T7.out.after k
          replace N := N.trans k
          clear k
          go_wp2_with (first | refine wpList_load_want (by rfl) 24 _ (by rfl) w.heap.size (by rfl) 24 _ _ R3 Tryd.underlying24 rfl s3 ?_ | refine wpList_load_row (by rfl) 24 _ (by rfl) w.heap.size (by rfl) 24 _ (0, 0) _ R3 Tryd.underlying24 rfl s3 ?_ | refine wpList_load_want (by rfl) 24 _ (by rfl) gI (by rfl) 24 _ _ R7 Tryd.underlying24 rfl s7 ?_ | refine wpList_load_row (by rfl) 24 _ (by rfl) gI (by rfl) 24 _ (0, 0) _ R7 Tryd.underlying24 rfl s7 ?_)
          refine (G7 _ T7.out).mono ?_
          rintro _ V15 ⟨rfl, k⟩
          replace R3 := R3.after k
          replace R7 := R7.after k
          replace T7 : Hid (Tx _ (some ⟨g7, 0, none⟩) J.hs) := T7.out.after k
          replace N := N.trans k
          clear k
          go_wp2_with fail
          refine (c_wakes _ (hTT.after N)).mono ?_
          rintro _ V16 ⟨rfl, k⟩
          replace N := N.trans k
          clear k
          go_wp2_with fail
          go_ret
          exact ⟨rfl, N⟩
    · have t3 : ((v.toNat : Int)).tmod 3 = 1 := by rw [Int.tmod_eq_emod_of_nonneg (by omega)]; omega
      by_cases h0 : 0 < I.hs.length
      · have e0 : decide ((0 : Int) < (I.hs.length : Int)) = true := decide_eq_true (by omega)
        have e0' : decide (0 < I.hs.length) = true := decide_eq_true h0
        have hJS0 : Small ⟨I.k, I.p, I.has, I.v, I.m, hash1 v :: I.hs.tail⟩ := ⟨hsm.1.p, hsm.1.v, by have := hsm.1.n; simp only [List.length_cons, List.length_tail]; omega, fun x hx => by rcases List.mem_cons.1 hx with rfl | hx2 <;> first | (unfold hash1; rw [List.length_replicate]; omega) | exact hsm.1.h x (List.mem_of_mem_tail hx2)⟩
        have z5 : wc.cell? ⟨gI, 5, none⟩ = some (.slice (some ⟨g7, 0, none⟩) I.hs.length d7) := R7.cell 5
        have y5 : ∀ p : NewW wc, p.v.cell? ⟨gI, 5, none⟩ = some (.slice (some ⟨g7, 0, none⟩) I.hs.length d7) := NewW.cell z5
        have hne := NewW.ne wc
        go_upto_region 8 with fail
        refine region_take [0, 1, 2] [3, 4] 5 (fun w' => ∃ p : NewW wc, w' = p.v) ⟨⟨_, New.drew wc⟩, rfl⟩ (by kernel_rfl) (by kernel_rfl) (fun d _ _ _ _ h => by first | exact h | (cases d <;> exact h)) ?_
        simp only [pick, List.getElem?_cons_succ, List.getElem?_cons_zero, Option.toList_some, List.cons_append, List.nil_append]
        repeat (go_big_quiet_step (fail))
        refine wpQuiet_nil ?_
        clear y5 hne
        refine wpPre_call (some 58) 19 #[.int .u8 (v.toNat : Int)] (by rfl) (by rfl) (by rfl) (by go_simp) ?_
        refine (hash1_any v _).mono ?_
        rintro _ w5 ⟨rfl, k5⟩
        have M5 : New wc w5 := (New.drew wc).trans k5
        refine ⟨_, rfl, ⟨⟨w5, M5⟩, rfl⟩, ?_⟩
        simp only [Act.put, List.setIfInBounds_toArray, List.set_cons_zero, List.set_cons_succ]
        refine wpPre_run (some 59) (.pointer (some ⟨g7, 0, none⟩)) w5 (by rfl) (by rfl) (by rfl) (exec_index0 (by rfl) (by rfl) h0) ⟨⟨w5, M5⟩, rfl⟩ (wpPre_nil ?_)
        simp only [Act.put, List.setIfInBounds_toArray, List.set_cons_zero, List.set_cons_succ]
        replace R3 := R3.after M5
        replace R7 := R7.after M5
        replace K7 := K7.after M5
        replace N := N.trans M5
        have T7c := T7b.after M5
        obtain ⟨zq, hzq⟩ : ∃ zq, w5.cell? ⟨g7, 0, none⟩ = some zq := tx_cell0 T7c h0
        have f0 := K7.frozen 0
        replace R7 : Row _ gI (itC I (some ⟨g7, 0, none⟩) d7) 24 := R7.setOther (a := ⟨g7, 0, none⟩) (Ne.symm hne7) (.string (bs (hash1 v)))
        rw [itC_head I _ _ v h0] at R7
        replace R3 := R3.setOther (a := ⟨g7, 0, none⟩) hn7 (.string (bs (hash1 v)))
        replace N := N.setCell (a := ⟨g7, 0, none⟩) (Nat.le_of_lt hw7) (.string (bs (hash1 v)))
        have T7a := tx_head T7c h0 K7 v
        clear T7b T7c M5 k5 z5 K7
        generalize hWx : w5.setCell ⟨g7, 0, none⟩ (.string (bs (hash1 v))) = Wx at *
        obtain ⟨J, hJ⟩ : ∃ J : It, ⟨I.k, I.p, I.has, I.v, I.m, hash1 v :: I.hs.tail⟩ = J := ⟨_, rfl⟩
        have HJh : J.hs = (⟨I.k, I.p, I.has, I.v, I.m, hash1 v :: I.hs.tail⟩ : It).hs := by rw [← hJ]
        have hJS : Small J := by rw [← hJ]; exact hJS0
        rw [hJ] at R7
        have T7 : Hid (Tx Wx (some ⟨g7, 0, none⟩) J.hs) := by show Tx _ _ _; rw [HJh]; exact T7a
        have s7 := itC_size J (some ⟨g7, 0, none⟩) d7
        have E7 := c_enc J hJS (some ⟨g7, 0, none⟩) d7
        have SIJ := c_same I J hsm.1 a (some ⟨g7, 0, none⟩) c d7
        have G7 := c_rgood J hJS (some ⟨g7, 0, none⟩) d7
        have ex : goodI I = true → goodI J = true → ((bs (encB I)).toList == (bs (encB J)).toList) = eqIt I J := fun h k => by
          unfold encB
          rw [h, k, if_pos rfl, if_pos rfl, beq_bs, Bool.eq_iff_iff, eqIt_iff, beq_iff_eq]
          exact ⟨enc_inj h k, fun h => by rw [h]⟩
        clear hJ HJh hJS hJS0 T7a
        generalize goodI I = gi at *
        generalize goodI J = gj at *
        generalize bs (encB I) = st at *
        generalize bs (encB J) = su at *
        generalize eqIt I J = ij at *
        have exx : (ij != ij) = false := by cases ij <;> rfl
        have exy : (ij == ij) = true := by cases ij <;> rfl
        have exz : gi = true → gj = true → (st.toList == su.toList) = ij := ex
        clear ex
        generalize itC J (some ⟨g7, 0, none⟩) d7 = D at *
        generalize itC I a c = C at *
        go_upto_region 9 with fail
        try rw [hWx]
        clear hWx zq hzq f0 t3 hm e0 e0' h0
        go_wp2_with (first | refine wpList_load_want (by rfl) 24 _ (by rfl) w.heap.size (by rfl) 24 _ _ R3 Tryd.underlying24 rfl s3 ?_ | refine wpList_load_row (by rfl) 24 _ (by rfl) w.heap.size (by rfl) 24 _ (0, 0) _ R3 Tryd.underlying24 rfl s3 ?_)
        refine (E3 _ (HT.out.after N) (hTT.after N)).mono ?_
        rintro _ V17 ⟨rfl, k⟩
        replace R3 := R3.after k
        replace R7 := R7.after k
        replace T7 : Hid (Tx _ (some ⟨g7, 0, none⟩) J.hs) := T7.out.after k
        replace N := N.trans k
        clear k
        go_wp2_with (first | refine wpList_load_want (by rfl) 24 _ (by rfl) gI (by rfl) 24 _ _ R7 Tryd.underlying24 rfl s7 ?_ | refine wpList_load_row (by rfl) 24 _ (by rfl) gI (by rfl) 24 _ (0, 0) _ R7 Tryd.underlying24 rfl s7 ?_)
        refine (E7 _ T7.out (hTT.after N)).mono ?_
        rintro _ V18 ⟨rfl, k⟩
        replace R3 := R3.after k
        replace R7 := R7.after k
        replace T7 : Hid (Tx _ (some ⟨g7, 0, none⟩) J.hs) := T7.out.after k
        replace N := N.trans k
        clear k
        cases gi
        · cases gj
          · skip
            go_wp2_with (first | refine wpList_load_want (by rfl) 24 _ (by rfl) w.heap.size (by rfl) 24 _ _ R3 Tryd.underlying24 rfl s3 ?_ | refine wpList_load_row (by rfl) 24 _ (by rfl) w.heap.size (by rfl) 24 _ (0, 0) _ R3 Tryd.underlying24 rfl s3 ?_ | refine wpList_load_want (by rfl) 24 _ (by rfl) gI (by rfl) 24 _ _ R7 Tryd.underlying24 rfl s7 ?_ | refine wpList_load_row (by rfl) 24 _ (by rfl) gI (by rfl) 24 _ (0, 0) _ R7 Tryd.underlying24 rfl s7 ?_)
            refine (G3 _ (HT.out.after N)).mono ?_
            rintro _ V19 ⟨rfl, k⟩
            replace R3 := R3.after k
            replace R7 := R7.after k
            replace T7 : Hid (Tx _ (some ⟨g7, 0, none⟩) J.hs) := T7.out.after k
            replace N := N.trans k
            clear k
            go_wp2_with (first | refine wpList_load_want (by rfl) 24 _ (by rfl) w.heap.size (by rfl) 24 _ _ R3 Tryd.underlying24 rfl s3 ?_ | refine wpList_load_row (by rfl) 24 _ (by rfl) w.heap.size (by rfl) 24 _ (0, 0) _ R3 Tryd.underlying24 rfl s3 ?_ | refine wpList_load_want (by rfl) 24 _ (by rfl) gI (by rfl) 24 _ _ R7 Tryd.underlying24 rfl s7 ?_ | refine wpList_load_row (by rfl) 24 _ (by rfl) gI (by rfl) 24 _ (0, 0) _ R7 Tryd.underlying24 rfl s7 ?_)
            refine (G7 _ T7.out).mono ?_
            rintro _ V20 ⟨rfl, k⟩
            replace R3 := R3.after k
            replace R7 := R7.after k
            replace T7 : Hid (Tx _ (some ⟨g7, 0, none⟩) J.hs) := T7.out.after k
            replace N := N.trans k
            clear k
            go_wp2_with fail
            refine (c_wakes _ (hTT.after N)).mono ?_
            rintro _ V21 ⟨rfl, k⟩
            replace N := N.trans k
            clear k
            go_wp2_with fail
            go_ret
            exact ⟨rfl, N⟩
          · skip
            go_wp2_with (first | refine wpList_load_want (by rfl) 24 _ (by rfl) w.heap.size (by rfl) 24 _ _ R3 Tryd.underlying24 rfl s3 ?_ | refine wpList_load_row (by rfl) 24 _ (by rfl) w.heap.size (by rfl) 24 _ (0, 0) _ R3 Tryd.underlying24 rfl s3 ?_ | refine wpList_load_want (by rfl) 24 _ (by rfl) gI (by rfl) 24 _ _ R7 Tryd.underlying24 rfl s7 ?_ | refine wpList_load_row (by rfl) 24 _ (by rfl) gI (by rfl) 24 _ (0, 0) _ R7 Tryd.underlying24 rfl s7 ?_)
            refine (G3 _ (HT.out.after N)).mono ?_
            rintro _ V22 ⟨rfl, k⟩
            replace R3 := R3.after k
            replace R7 := R7.after k
            replace T7 : Hid (Tx _ (some ⟨g7, 0, none⟩) J.hs) := T7.out.after k
            replace N := N.trans k
            clear k
            go_wp2_with (first | refine wpList_load_want (by rfl) 24 _ (by rfl) w.heap.size (by rfl) 24 _ _ R3 Tryd.underlying24 rfl s3 ?_ | refine wpList_load_row (by rfl) 24 _ (by rfl) w.heap.size (by rfl) 24 _ (0, 0) _ R3 Tryd.underlying24 rfl s3 ?_ | refine wpList_load_want (by rfl) 24 _ (by rfl) gI (by rfl) 24 _ _ R7 Tryd.underlying24 rfl s7 ?_ | refine wpList_load_row (by rfl) 24 _ (by rfl) gI (by rfl) 24 _ (0, 0) _ R7 Tryd.underlying24 rfl s7 ?_)
            refine (G7 _ T7.out).mono ?_
            rintro _ V23 ⟨rfl, k⟩
            replace R3 := R3.after k
            replace R7 := R7.after k
            replace T7 : Hid (Tx _ (some ⟨g7, 0, none⟩) J.hs) := T7.out.after k
            replace N := N.trans k
            clear k
            go_wp2_with fail
            refine (c_wakes _ (hTT.after N)).mono ?_
            rintro _ V24 ⟨rfl, k⟩
            replace N := N.trans k
            clear k
            go_wp2_with fail
            go_ret
            exact ⟨rfl, N⟩
        · cases gj
          · skip
            go_wp2_with (first | refine wpList_load_want (by rfl) 24 _ (by rfl) w.heap.size (by rfl) 24 _ _ R3 Tryd.underlying24 rfl s3 ?_ | refine wpList_load_row (by rfl) 24 _ (by rfl) w.heap.size (by rfl) 24 _ (0, 0) _ R3 Tryd.underlying24 rfl s3 ?_ | refine wpList_load_want (by rfl) 24 _ (by rfl) gI (by rfl) 24 _ _ R7 Tryd.underlying24 rfl s7 ?_ | refine wpList_load_row (by rfl) 24 _ (by rfl) gI (by rfl) 24 _ (0, 0) _ R7 Tryd.underlying24 rfl s7 ?_)
            refine (G3 _ (HT.out.after N)).mono ?_
            rintro _ V25 ⟨rfl, k⟩
            replace R3 := R3.after k
            replace R7 := R7.after k
            replace T7 : Hid (Tx _ (some ⟨g7, 0, none⟩) J.hs) := T7.out.after k
            replace N := N.trans k
            clear k
            go_wp2_with (first | refine wpList_load_want (by rfl) 24 _ (by rfl) w.heap.size (by rfl) 24 _ _ R3 Tryd.underlying24 rfl s3 ?_ | refine wpList_load_row (by rfl) 24 _ (by rfl) w.heap.size (by rfl) 24 _ (0, 0) _ R3 Tryd.underlying24 rfl s3 ?_ | refine wpList_load_want (by rfl) 24 _ (by rfl) gI (by rfl) 24 _ _ R7 Tryd.underlying24 rfl s7 ?_ | refine wpList_load_row (by rfl) 24 _ (by rfl) gI (by rfl) 24 _ (0, 0) _ R7 Tryd.underlying24 rfl s7 ?_)
            refine (G7 _ T7.out).mono ?_
            rintro _ V26 ⟨rfl, k⟩
            replace R3 := R3.after k
            replace R7 := R7.after k
            replace T7 : Hid (Tx _ (some ⟨g7, 0, none⟩) J.hs) := T7.out.after k
            replace N := N.trans k
            clear k
            go_wp2_with fail
            refine (c_wakes _ (hTT.after N)).mono ?_
            rintro _ V27 ⟨rfl, k⟩
            replace N := N.trans k
            clear k
            go_wp2_with fail
            go_ret
            exact ⟨rfl, N⟩
          · skip
            go_wp2_with (first | refine wpList_load_want (by rfl) 24 _ (by rfl) w.heap.size (by rfl) 24 _ _ R3 Tryd.underlying24 rfl s3 ?_ | refine wpList_load_row (by rfl) 24 _ (by rfl) w.heap.size (by rfl) 24 _ (0, 0) _ R3 Tryd.underlying24 rfl s3 ?_ | refine wpList_load_want (by rfl) 24 _ (by rfl) gI (by rfl) 24 _ _ R7 Tryd.underlying24 rfl s7 ?_ | refine wpList_load_row (by rfl) 24 _ (by rfl) gI (by rfl) 24 _ (0, 0) _ R7 Tryd.underlying24 rfl s7 ?_)
            refine (SIJ _ (HT.out.after N) T7.out).mono ?_
            rintro _ V28 ⟨rfl, k⟩
            replace R3 := R3.after k
            replace R7 := R7.after k
            replace T7 : Hid (Tx _ (some ⟨g7, 0, none⟩) J.hs) := T7.out.after k
            replace N := N.trans k
            clear k
            go_wp2_with (first | refine wpList_load_want (by rfl) 24 _ (by rfl) w.heap.size (by rfl) 24 _ _ R3 Tryd.underlying24 rfl s3 ?_ | refine wpList_load_row (by rfl) 24 _ (by rfl) w.heap.size (by rfl) 24 _ (0, 0) _ R3 Tryd.underlying24 rfl s3 ?_ | refine wpList_load_want (by rfl) 24 _ (by rfl) gI (by rfl) 24 _ _ R7 Tryd.underlying24 rfl s7 ?_ | refine wpList_load_row (by rfl) 24 _ (by rfl) gI (by rfl) 24 _ (0, 0) _ R7 Tryd.underlying24 rfl s7 ?_)
            refine (G3 _ (HT.out.after N)).mono ?_
            rintro _ V29 ⟨rfl, k⟩
            replace R3 := R3.after k
            replace R7 := R7.after k
            replace T7 : Hid (Tx _ (some ⟨g7, 0, none⟩) J.hs) := T7.out.after k
            replace N := N.trans k
            clear k
            go_wp2_with (first | refine wpList_load_want (by rfl) 24 _ (by rfl) w.heap.size (by rfl) 24 _ _ R3 Tryd.underlying24 rfl s3 ?_ | refine wpList_load_row (by rfl) 24 _ (by rfl) w.heap.size (by rfl) 24 _ (0, 0) _ R3 Tryd.underlying24 rfl s3 ?_ | refine wpList_load_want (by rfl) 24 _ (by rfl) gI (by rfl) 24 _ _ R7 Tryd.underlying24 rfl s7 ?_ | refine wpList_load_row (by rfl) 24 _ (by rfl) gI (by rfl) 24 _ (0, 0) _ R7 Tryd.underlying24 rfl s7 ?_)
            refine (G7 _ T7.out).mono ?_
            rintro _ V30 ⟨rfl, k⟩
            replace R3 := R3.after k
            replace R7 := R7.after k
            replace T7 : Hid (Tx _ (some ⟨g7, 0, none⟩) J.hs) := T7.out.after k
            replace N := N.trans k
            clear k
            go_wp2_with fail
            refine (c_wakes _ (hTT.after N)).mono ?_
            rintro _ V31 ⟨rfl, k⟩
            replace N := N.trans k
            clear k
            go_wp2_with fail
            go_ret
            exact ⟨rfl, N⟩
      · have e0 : decide ((0 : Int) < (I.hs.length : Int)) = false := decide_eq_false (by omega)
        have e0' : decide (0 < I.hs.length) = false := decide_eq_false h0
        have hJS0 : Small ⟨I.k, I.p ++ [1], I.has, I.v, I.m, I.hs⟩ := ⟨by have := hsm.2.1; rw [List.length_append, List.length_singleton]; omega, hsm.1.v, hsm.1.n, hsm.1.h⟩
        have z1 : wc.cell? ⟨gI, 1, none⟩ = some (.string (bs I.p)) := R7.cell 1
        have f1 := R7.frozen 1
        have z5 : wc.cell? ⟨gI, 5, none⟩ = some (.slice (some ⟨g7, 0, none⟩) I.hs.length d7) := R7.cell 5
        replace R7 := R7.set 1 (.string (bs I.p ++ ⟨#[1]⟩))
        rw [itC_set1] at R7
        replace R3 := R3.setOther (a := ⟨gI, 1, none⟩) hnI (.string (bs I.p ++ ⟨#[1]⟩))
        replace N := N.setCell (a := ⟨gI, 1, none⟩) (Nat.le_of_lt hwI) (.string (bs I.p ++ ⟨#[1]⟩))
        have T7a := tx_set T7b (b := gI) (fun x hx => by cases hx; exact hne7) 1 (.string (bs I.p ++ ⟨#[1]⟩))
        clear T7b K7
        generalize hWx : wc.setCell ⟨gI, 1, none⟩ (.string (bs I.p ++ ⟨#[1]⟩)) = Wx at *
        obtain ⟨J, hJ⟩ : ∃ J : It, ⟨I.k, I.p ++ [1], I.has, I.v, I.m, I.hs⟩ = J := ⟨_, rfl⟩
        have HJh : J.hs = (⟨I.k, I.p ++ [1], I.has, I.v, I.m, I.hs⟩ : It).hs := by rw [← hJ]
        have hJS : Small J := by rw [← hJ]; exact hJS0
        rw [hJ] at R7
        have T7 : Hid (Tx Wx (some ⟨g7, 0, none⟩) J.hs) := by show Tx _ _ _; rw [HJh]; exact T7a
        have s7 := itC_size J (some ⟨g7, 0, none⟩) d7
        have E7 := c_enc J hJS (some ⟨g7, 0, none⟩) d7
        have SIJ := c_same I J hsm.1 a (some ⟨g7, 0, none⟩) c d7
        have G7 := c_rgood J hJS (some ⟨g7, 0, none⟩) d7
        have ex : goodI I = true → goodI J = true → ((bs (encB I)).toList == (bs (encB J)).toList) = eqIt I J := fun h k => by
          unfold encB
          rw [h, k, if_pos rfl, if_pos rfl, beq_bs, Bool.eq_iff_iff, eqIt_iff, beq_iff_eq]
          exact ⟨enc_inj h k, fun h => by rw [h]⟩
        clear hJ HJh hJS hJS0 T7a
        generalize goodI I = gi at *
        generalize goodI J = gj at *
        generalize bs (encB I) = st at *
        generalize bs (encB J) = su at *
        generalize eqIt I J = ij at *
        have exx : (ij != ij) = false := by cases ij <;> rfl
        have exy : (ij == ij) = true := by cases ij <;> rfl
        have exz : gi = true → gj = true → (st.toList == su.toList) = ij := ex
        clear ex
        generalize itC J (some ⟨g7, 0, none⟩) d7 = D at *
        generalize itC I a c = C at *
        go_upto_region 9 with fail
        try rw [hWx]
        clear hWx z1 f1 z5 t3 hm e0 e0' h0
        go_wp2_with (first | refine wpList_load_want (by rfl) 24 _ (by rfl) w.heap.size (by rfl) 24 _ _ R3 Tryd.underlying24 rfl s3 ?_ | refine wpList_load_row (by rfl) 24 _ (by rfl) w.heap.size (by rfl) 24 _ (0, 0) _ R3 Tryd.underlying24 rfl s3 ?_)
        refine (E3 _ (HT.out.after N) (hTT.after N)).mono ?_
        rintro _ V32 ⟨rfl, k⟩
        replace R3 := R3.after k
        replace R7 := R7.after k
        replace T7 : Hid (Tx _ (some ⟨g7, 0, none⟩) J.hs) := T7.out.after k
        replace N := N.trans k
        clear k
        go_wp2_with (first | refine wpList_load_want (by rfl) 24 _ (by rfl) gI (by rfl) 24 _ _ R7 Tryd.underlying24 rfl s7 ?_ | refine wpList_load_row (by rfl) 24 _ (by rfl) gI (by rfl) 24 _ (0, 0) _ R7 Tryd.underlying24 rfl s7 ?_)
        refine (E7 _ T7.out (hTT.after N)).mono ?_
        rintro _ V33 ⟨rfl, k⟩
        replace R3 := R3.after k
        replace R7 := R7.after k
        replace T7 : Hid (Tx _ (some ⟨g7, 0, none⟩) J.hs) := T7.out.after k
        replace N := N.trans k
        clear k
        cases gi
        · cases gj
          · skip
            go_wp2_with (first | refine wpList_load_want (by rfl) 24 _ (by rfl) w.heap.size (by rfl) 24 _ _ R3 Tryd.underlying24 rfl s3 ?_ | refine wpList_load_row (by rfl) 24 _ (by rfl) w.heap.size (by rfl) 24 _ (0, 0) _ R3 Tryd.underlying24 rfl s3 ?_ | refine wpList_load_want (by rfl) 24 _ (by rfl) gI (by rfl) 24 _ _ R7 Tryd.underlying24 rfl s7 ?_ | refine wpList_load_row (by rfl) 24 _ (by rfl) gI (by rfl) 24 _ (0, 0) _ R7 Tryd.underlying24 rfl s7 ?_)
            refine (G3 _ (HT.out.after N)).mono ?_
            rintro _ V34 ⟨rfl, k⟩
            replace R3 := R3.after k
            replace R7 := R7.after k
            replace T7 : Hid (Tx _ (some ⟨g7, 0, none⟩) J.hs) := T7.out.after k
            replace N := N.trans k
            clear k
            go_wp2_with (first | refine wpList_load_want (by rfl) 24 _ (by rfl) w.heap.size (by rfl) 24 _ _ R3 Tryd.underlying24 rfl s3 ?_ | refine wpList_load_row (by rfl) 24 _ (by rfl) w.heap.size (by rfl) 24 _ (0, 0) _ R3 Tryd.underlying24 rfl s3 ?_ | refine wpList_load_want (by rfl) 24 _ (by rfl) gI (by rfl) 24 _ _ R7 Tryd.underlying24 rfl s7 ?_ | refine wpList_load_row (by rfl) 24 _ (by rfl) gI (by rfl) 24 _ (0, 0) _ R7 Tryd.underlying24 rfl s7 ?_)
            refine (G7 _ T7.out).mono ?_
            rintro _ V35 ⟨rfl, k⟩
            replace R3 := R3.after k
            replace R7 := R7.after k
            replace T7 : Hid (Tx _ (some ⟨g7, 0, none⟩) J.hs) := T7.out.after k
            replace N := N.trans k
            clear k
            go_wp2_with fail
            refine (c_wakes _ (hTT.after N)).mono ?_
            rintro _ V36 ⟨rfl, k⟩
            replace N := N.trans k
            clear k
            go_wp2_with fail
            go_ret
            exact ⟨rfl, N⟩
          · skip
            go_wp2_with (first | refine wpList_load_want (by rfl) 24 _ (by rfl) w.heap.size (by rfl) 24 _ _ R3 Tryd.underlying24 rfl s3 ?_ | refine wpList_load_row (by rfl) 24 _ (by rfl) w.heap.size (by rfl) 24 _ (0, 0) _ R3 Tryd.underlying24 rfl s3 ?_ | refine wpList_load_want (by rfl) 24 _ (by rfl) gI (by rfl) 24 _ _ R7 Tryd.underlying24 rfl s7 ?_ | refine wpList_load_row (by rfl) 24 _ (by rfl) gI (by rfl) 24 _ (0, 0) _ R7 Tryd.underlying24 rfl s7 ?_)
            refine (G3 _ (HT.out.after N)).mono ?_
            rintro _ V37 ⟨rfl, k⟩
            replace R3 := R3.after k
            replace R7 := R7.after k
            replace T7 : Hid (Tx _ (some ⟨g7, 0, none⟩) J.hs) := T7.out.after k
            replace N := N.trans k
            clear k
            go_wp2_with (first | refine wpList_load_want (by rfl) 24 _ (by rfl) w.heap.size (by rfl) 24 _ _ R3 Tryd.underlying24 rfl s3 ?_ | refine wpList_load_row (by rfl) 24 _ (by rfl) w.heap.size (by rfl) 24 _ (0, 0) _ R3 Tryd.underlying24 rfl s3 ?_ | refine wpList_load_want (by rfl) 24 _ (by rfl) gI (by rfl) 24 _ _ R7 Tryd.underlying24 rfl s7 ?_ | refine wpList_load_row (by rfl) 24 _ (by rfl) gI (by rfl) 24 _ (0, 0) _ R7 Tryd.underlying24 rfl s7 ?_)
            refine (G7 _ T7.out).mono ?_
            rintro _ V38 ⟨rfl, k⟩
            replace R3 := R3.after k
            replace R7 := R7.after k
            replace T7 : Hid (Tx _ (some ⟨g7, 0, none⟩) J.hs) := T7.out.after k
            replace N := N.trans k
            clear k
            go_wp2_with fail
            refine (c_wakes _ (hTT.after N)).mono ?_
            rintro _ V39 ⟨rfl, k⟩
            replace N := N.trans k
            clear k
            go_wp2_with fail
            go_ret
            exact ⟨rfl, N⟩
        · cases gj
          · skip
            go_wp2_with (first | refine wpList_load_want (by rfl) 24 _ (by rfl) w.heap.size (by rfl) 24 _ _ R3 Tryd.underlying24 rfl s3 ?_ | refine wpList_load_row (by rfl) 24 _ (by rfl) w.heap.size (by rfl) 24 _ (0, 0) _ R3 Tryd.underlying24 rfl s3 ?_ | refine wpList_load_want (by rfl) 24 _ (by rfl) gI (by rfl) 24 _ _ R7 Tryd.underlying24 rfl s7 ?_ | refine wpList_load_row (by rfl) 24 _ (by rfl) gI (by rfl) 24 _ (0, 0) _ R7 Tryd.underlying24 rfl s7 ?_)
            refine (G3 _ (HT.out.after N)).mono ?_
            rintro _ V40 ⟨rfl, k⟩
            replace R3 := R3.after k
            replace R7 := R7.after k
            replace T7 : Hid (Tx _ (some ⟨g7, 0, none⟩) J.hs) := T7.out.after k
            replace N := N.trans k
            clear k
            go_wp2_with (first | refine wpList_load_want (by rfl) 24 _ (by rfl) w.heap.size (by rfl) 24 _ _ R3 Tryd.underlying24 rfl s3 ?_ | refine wpList_load_row (by rfl) 24 _ (by rfl) w.heap.size (by rfl) 24 _ (0, 0) _ R3 Tryd.underlying24 rfl s3 ?_ | refine wpList_load_want (by rfl) 24 _ (by rfl) gI (by rfl) 24 _ _ R7 Tryd.underlying24 rfl s7 ?_ | refine wpList_load_row (by rfl) 24 _ (by rfl) gI (by rfl) 24 _ (0, 0) _ R7 Tryd.underlying24 rfl s7 ?_)
            refine (G7 _ T7.out).mono ?_
            rintro _ V41 ⟨rfl, k⟩
            replace R3 := R3.after k
            replace R7 := R7.after k
            replace T7 : Hid (Tx _ (some ⟨g7, 0, none⟩) J.hs) := T7.out.after k
            replace N := N.trans k
            clear k
            go_wp2_with fail
            refine (c_wakes _ (hTT.after N)).mono ?_
            rintro _ V42 ⟨rfl, k⟩
            replace N := N.trans k
            clear k
            go_wp2_with fail
            go_ret
            exact ⟨rfl, N⟩
          · skip
            go_wp2_with (first | refine wpList_load_want (by rfl) 24 _ (by rfl) w.heap.size (by rfl) 24 _ _ R3 Tryd.underlying24 rfl s3 ?_ | refine wpList_load_row (by rfl) 24 _ (by rfl) w.heap.size (by rfl) 24 _ (0, 0) _ R3 Tryd.underlying24 rfl s3 ?_ | refine wpList_load_want (by rfl) 24 _ (by rfl) gI (by rfl) 24 _ _ R7 Tryd.underlying24 rfl s7 ?_ | refine wpList_load_row (by rfl) 24 _ (by rfl) gI (by rfl) 24 _ (0, 0) _ R7 Tryd.underlying24 rfl s7 ?_)
            refine (SIJ _ (HT.out.after N) T7.out).mono ?_
            rintro _ V43 ⟨rfl, k⟩
            replace R3 := R3.after k
            replace R7 := R7.after k
            replace T7 : Hid (Tx _ (some ⟨g7, 0, none⟩) J.hs) := T7.out.after k
            replace N := N.trans k
            clear k
            go_wp2_with (first | refine wpList_load_want (by rfl) 24 _ (by rfl) w.heap.size (by rfl) 24 _ _ R3 Tryd.underlying24 rfl s3 ?_ | refine wpList_load_row (by rfl) 24 _ (by rfl) w.heap.size (by rfl) 24 _ (0, 0) _ R3 Tryd.underlying24 rfl s3 ?_ | refine wpList_load_want (by rfl) 24 _ (by rfl) gI (by rfl) 24 _ _ R7 Tryd.underlying24 rfl s7 ?_ | refine wpList_load_row (by rfl) 24 _ (by rfl) gI (by rfl) 24 _ (0, 0) _ R7 Tryd.underlying24 rfl s7 ?_)
            refine (G3 _ (HT.out.after N)).mono ?_
            rintro _ V44 ⟨rfl, k⟩
            replace R3 := R3.after k
            replace R7 := R7.after k
            replace T7 : Hid (Tx _ (some ⟨g7, 0, none⟩) J.hs) := T7.out.after k
            replace N := N.trans k
            clear k
            go_wp2_with (first | refine wpList_load_want (by rfl) 24 _ (by rfl) w.heap.size (by rfl) 24 _ _ R3 Tryd.underlying24 rfl s3 ?_ | refine wpList_load_row (by rfl) 24 _ (by rfl) w.heap.size (by rfl) 24 _ (0, 0) _ R3 Tryd.underlying24 rfl s3 ?_ | refine wpList_load_want (by rfl) 24 _ (by rfl) gI (by rfl) 24 _ _ R7 Tryd.underlying24 rfl s7 ?_ | refine wpList_load_row (by rfl) 24 _ (by rfl) gI (by rfl) 24 _ (0, 0) _ R7 Tryd.underlying24 rfl s7 ?_)
            refine (G7 _ T7.out).mono ?_
            rintro _ V45 ⟨rfl, k⟩
            replace R3 := R3.after k
            replace R7 := R7.after k
            replace T7 : Hid (Tx _ (some ⟨g7, 0, none⟩) J.hs) := T7.out.after k
            replace N := N.trans k
            clear k
            go_wp2_with fail
            refine (c_wakes _ (hTT.after N)).mono ?_
            rintro _ V46 ⟨rfl, k⟩
            replace N := N.trans k
            clear k
            go_wp2_with fail
            go_ret
            exact ⟨rfl, N⟩
    · have t3 : ((v.toNat : Int)).tmod 3 = 2 := by rw [Int.tmod_eq_emod_of_nonneg (by omega)]; omega
      have hJS0 : Small ⟨I.k, I.p ++ [1], I.has, I.v, I.m, I.hs⟩ := ⟨by have := hsm.2.1; rw [List.length_append, List.length_singleton]; omega, hsm.1.v, hsm.1.n, hsm.1.h⟩
      have z1 : wc.cell? ⟨gI, 1, none⟩ = some (.string (bs I.p)) := R7.cell 1
      have f1 := R7.frozen 1
      have z5 : wc.cell? ⟨gI, 5, none⟩ = some (.slice (some ⟨g7, 0, none⟩) I.hs.length d7) := R7.cell 5
      replace R7 := R7.set 1 (.string (bs I.p ++ ⟨#[1]⟩))
      rw [itC_set1] at R7
      replace R3 := R3.setOther (a := ⟨gI, 1, none⟩) hnI (.string (bs I.p ++ ⟨#[1]⟩))
      replace N := N.setCell (a := ⟨gI, 1, none⟩) (Nat.le_of_lt hwI) (.string (bs I.p ++ ⟨#[1]⟩))
      have T7a := tx_set T7b (b := gI) (fun x hx => by cases hx; exact hne7) 1 (.string (bs I.p ++ ⟨#[1]⟩))
      clear T7b K7
      generalize hWx : wc.setCell ⟨gI, 1, none⟩ (.string (bs I.p ++ ⟨#[1]⟩)) = Wx at *
      obtain ⟨J, hJ⟩ : ∃ J : It, ⟨I.k, I.p ++ [1], I.has, I.v, I.m, I.hs⟩ = J := ⟨_, rfl⟩
      have HJh : J.hs = (⟨I.k, I.p ++ [1], I.has, I.v, I.m, I.hs⟩ : It).hs := by rw [← hJ]
      have hJS : Small J := by rw [← hJ]; exact hJS0
      rw [hJ] at R7
      have T7 : Hid (Tx Wx (some ⟨g7, 0, none⟩) J.hs) := by show Tx _ _ _; rw [HJh]; exact T7a
      have s7 := itC_size J (some ⟨g7, 0, none⟩) d7
      have E7 := c_enc J hJS (some ⟨g7, 0, none⟩) d7
      have SIJ := c_same I J hsm.1 a (some ⟨g7, 0, none⟩) c d7
      have G7 := c_rgood J hJS (some ⟨g7, 0, none⟩) d7
      have ex : goodI I = true → goodI J = true → ((bs (encB I)).toList == (bs (encB J)).toList) = eqIt I J := fun h k => by
        unfold encB
        rw [h, k, if_pos rfl, if_pos rfl, beq_bs, Bool.eq_iff_iff, eqIt_iff, beq_iff_eq]
        exact ⟨enc_inj h k, fun h => by rw [h]⟩
      clear hJ HJh hJS hJS0 T7a
      generalize goodI I = gi at *
      generalize goodI J = gj at *
      generalize bs (encB I) = st at *
      generalize bs (encB J) = su at *
      generalize eqIt I J = ij at *
      have exx : (ij != ij) = false := by cases ij <;> rfl
      have exy : (ij == ij) = true := by cases ij <;> rfl
      have exz : gi = true → gj = true → (st.toList == su.toList) = ij := ex
      clear ex
      generalize itC J (some ⟨g7, 0, none⟩) d7 = D at *
      generalize itC I a c = C at *
      go_upto_region 9 with fail
      try rw [hWx]
      clear hWx z1 f1 z5 t3 hm
      go_wp2_with (first | refine wpList_load_want (by rfl) 24 _ (by rfl) w.heap.size (by rfl) 24 _ _ R3 Tryd.underlying24 rfl s3 ?_ | refine wpList_load_row (by rfl) 24 _ (by rfl) w.heap.size (by rfl) 24 _ (0, 0) _ R3 Tryd.underlying24 rfl s3 ?_)
      refine (E3 _ (HT.out.after N) (hTT.after N)).mono ?_
      rintro _ V47 ⟨rfl, k⟩
      replace R3 := R3.after k
      replace R7 := R7.after k
      replace T7 : Hid (Tx _ (some ⟨g7, 0, none⟩) J.hs) := T7.out.after k
      replace N := N.trans k
      clear k
      go_wp2_with (first | refine wpList_load_want (by rfl) 24 _ (by rfl) gI (by rfl) 24 _ _ R7 Tryd.underlying24 rfl s7 ?_ | refine wpList_load_row (by rfl) 24 _ (by rfl) gI (by rfl) 24 _ (0, 0) _ R7 Tryd.underlying24 rfl s7 ?_)
      refine (E7 _ T7.out (hTT.after N)).mono ?_
      rintro _ V48 ⟨rfl, k⟩
      replace R3 := R3.after k
      replace R7 := R7.after k
      replace T7 : Hid (Tx _ (some ⟨g7, 0, none⟩) J.hs) := T7.out.after k
      replace N := N.trans k
      clear k
      cases gi
      · cases gj
        · skip
          go_wp2_with (first | refine wpList_load_want (by rfl) 24 _ (by rfl) w.heap.size (by rfl) 24 _ _ R3 Tryd.underlying24 rfl s3 ?_ | refine wpList_load_row (by rfl) 24 _ (by rfl) w.heap.size (by rfl) 24 _ (0, 0) _ R3 Tryd.underlying24 rfl s3 ?_ | refine wpList_load_want (by rfl) 24 _ (by rfl) gI (by rfl) 24 _ _ R7 Tryd.underlying24 rfl s7 ?_ | refine wpList_load_row (by rfl) 24 _ (by rfl) gI (by rfl) 24 _ (0, 0) _ R7 Tryd.underlying24 rfl s7 ?_)
          refine (G3 _ (HT.out.after N)).mono ?_
          rintro _ V49 ⟨rfl, k⟩
          replace R3 := R3.after k
          replace R7 := R7.after k
          replace T7 : Hid (Tx _ (some ⟨g7, 0, none⟩) J.hs) := T7.out.after k
          replace N := N.trans k
          clear k
          go_wp2_with (first | refine wpList_load_want (by rfl) 24 _ (by rfl) w.heap.size (by rfl) 24 _ _ R3 Tryd.underlying24 rfl s3 ?_ | refine wpList_load_row (by rfl) 24 _ (by rfl) w.heap.size (by rfl) 24 _ (0, 0) _ R3 Tryd.underlying24 rfl s3 ?_ | refine wpList_load_want (by rfl) 24 _ (by rfl) gI (by rfl) 24 _ _ R7 Tryd.underlying24 rfl s7 ?_ | refine wpList_load_row (by rfl) 24 _ (by rfl) gI (by rfl) 24 _ (0, 0) _ R7 Tryd.underlying24 rfl s7 ?_)
          refine (G7 _ T7.out).mono ?_
          rintro _ V50 ⟨rfl, k⟩
          replace R3 := R3.after k
          replace R7 := R7.after k
          replace T7 : Hid (Tx _ (some ⟨g7, 0, none⟩) J.hs) := T7.out.after k
          replace N := N.trans k
          clear k
          go_wp2_with fail
          refine (c_wakes _ (hTT.after N)).mono ?_
          rintro _ V51 ⟨rfl, k⟩
          replace N := N.trans k
          clear k
          go_wp2_with fail
          go_ret
          exact ⟨rfl, N⟩
        · skip
          go_wp2_with (first | refine wpList_load_want (by rfl) 24 _ (by rfl) w.heap.size (by rfl) 24 _ _ R3 Tryd.underlying24 rfl s3 ?_ | refine wpList_load_row (by rfl) 24 _ (by rfl) w.heap.size (by rfl) 24 _ (0, 0) _ R3 Tryd.underlying24 rfl s3 ?_ | refine wpList_load_want (by rfl) 24 _ (by rfl) gI (by rfl) 24 _ _ R7 Tryd.underlying24 rfl s7 ?_ | refine wpList_load_row (by rfl) 24 _ (by rfl) gI (by rfl) 24 _ (0, 0) _ R7 Tryd.underlying24 rfl s7 ?_)
          refine (G3 _ (HT.out.after N)).mono ?_
          rintro _ V52 ⟨rfl, k⟩
          replace R3 := R3.after k
          replace R7 := R7.after k
          replace T7 : Hid (Tx _ (some ⟨g7, 0, none⟩) J.hs) := T7.out.after k
          replace N := N.trans k
          clear k
          go_wp2_with (first | refine wpList_load_want (by rfl) 24 _ (by rfl) w.heap.size (by rfl) 24 _ _ R3 Tryd.underlying24 rfl s3 ?_ | refine wpList_load_row (by rfl) 24 _ (by rfl) w.heap.size (by rfl) 24 _ (0, 0) _ R3 Tryd.underlying24 rfl s3 ?_ | refine wpList_load_want (by rfl) 24 _ (by rfl) gI (by rfl) 24 _ _ R7 Tryd.underlying24 rfl s7 ?_ | refine wpList_load_row (by rfl) 24 _ (by rfl) gI (by rfl) 24 _ (0, 0) _ R7 Tryd.underlying24 rfl s7 ?_)
          refine (G7 _ T7.out).mono ?_
          rintro _ V53 ⟨rfl, k⟩
          replace R3 := R3.after k
          replace R7 := R7.after k
          replace T7 : Hid (Tx _ (some ⟨g7, 0, none⟩) J.hs) := T7.out.after k
          replace N := N.trans k
          clear k
          go_wp2_with fail
          refine (c_wakes _ (hTT.after N)).mono ?_
          rintro _ V54 ⟨rfl, k⟩
          replace N := N.trans k
          clear k
          go_wp2_with fail
          go_ret
          exact ⟨rfl, N⟩
      · cases gj
        · skip
          go_wp2_with (first | refine wpList_load_want (by rfl) 24 _ (by rfl) w.heap.size (by rfl) 24 _ _ R3 Tryd.underlying24 rfl s3 ?_ | refine wpList_load_row (by rfl) 24 _ (by rfl) w.heap.size (by rfl) 24 _ (0, 0) _ R3 Tryd.underlying24 rfl s3 ?_ | refine wpList_load_want (by rfl) 24 _ (by rfl) gI (by rfl) 24 _ _ R7 Tryd.underlying24 rfl s7 ?_ | refine wpList_load_row (by rfl) 24 _ (by rfl) gI (by rfl) 24 _ (0, 0) _ R7 Tryd.underlying24 rfl s7 ?_)
          refine (G3 _ (HT.out.after N)).mono ?_
          rintro _ V55 ⟨rfl, k⟩
          replace R3 := R3.after k
          replace R7 := R7.after k
          replace T7 : Hid (Tx _ (some ⟨g7, 0, none⟩) J.hs) := T7.out.after k
          replace N := N.trans k
          clear k
          go_wp2_with (first | refine wpList_load_want (by rfl) 24 _ (by rfl) w.heap.size (by rfl) 24 _ _ R3 Tryd.underlying24 rfl s3 ?_ | refine wpList_load_row (by rfl) 24 _ (by rfl) w.heap.size (by rfl) 24 _ (0, 0) _ R3 Tryd.underlying24 rfl s3 ?_ | refine wpList_load_want (by rfl) 24 _ (by rfl) gI (by rfl) 24 _ _ R7 Tryd.underlying24 rfl s7 ?_ | refine wpList_load_row (by rfl) 24 _ (by rfl) gI (by rfl) 24 _ (0, 0) _ R7 Tryd.underlying24 rfl s7 ?_)
          refine (G7 _ T7.out).mono ?_
          rintro _ V56 ⟨rfl, k⟩
          replace R3 := R3.after k
          replace R7 := R7.after k
          replace T7 : Hid (Tx _ (some ⟨g7, 0, none⟩) J.hs) := T7.out.after k
          replace N := N.trans k
          clear k
          go_wp2_with fail
          refine (c_wakes _ (hTT.after N)).mono ?_
          rintro _ V57 ⟨rfl, k⟩
          replace N := N.trans k
          clear k
          go_wp2_with fail
          go_ret
          exact ⟨rfl, N⟩
        · skip
          go_wp2_with (first | refine wpList_load_want (by rfl) 24 _ (by rfl) w.heap.size (by rfl) 24 _ _ R3 Tryd.underlying24 rfl s3 ?_ | refine wpList_load_row (by rfl) 24 _ (by rfl) w.heap.size (by rfl) 24 _ (0, 0) _ R3 Tryd.underlying24 rfl s3 ?_ | refine wpList_load_want (by rfl) 24 _ (by rfl) gI (by rfl) 24 _ _ R7 Tryd.underlying24 rfl s7 ?_ | refine wpList_load_row (by rfl) 24 _ (by rfl) gI (by rfl) 24 _ (0, 0) _ R7 Tryd.underlying24 rfl s7 ?_)
          refine (SIJ _ (HT.out.after N) T7.out).mono ?_
          rintro _ V58 ⟨rfl, k⟩
          replace R3 := R3.after k
          replace R7 := R7.after k
          replace T7 : Hid (Tx _ (some ⟨g7, 0, none⟩) J.hs) := T7.out.after k
          replace N := N.trans k
          clear k
          go_wp2_with (first | refine wpList_load_want (by rfl) 24 _ (by rfl) w.heap.size (by rfl) 24 _ _ R3 Tryd.underlying24 rfl s3 ?_ | refine wpList_load_row (by rfl) 24 _ (by rfl) w.heap.size (by rfl) 24 _ (0, 0) _ R3 Tryd.underlying24 rfl s3 ?_ | refine wpList_load_want (by rfl) 24 _ (by rfl) gI (by rfl) 24 _ _ R7 Tryd.underlying24 rfl s7 ?_ | refine wpList_load_row (by rfl) 24 _ (by rfl) gI (by rfl) 24 _ (0, 0) _ R7 Tryd.underlying24 rfl s7 ?_)
          refine (G3 _ (HT.out.after N)).mono ?_
          rintro _ V59 ⟨rfl, k⟩
          replace R3 := R3.after k
          replace R7 := R7.after k
          replace T7 : Hid (Tx _ (some ⟨g7, 0, none⟩) J.hs) := T7.out.after k
          replace N := N.trans k
          clear k
          go_wp2_with (first | refine wpList_load_want (by rfl) 24 _ (by rfl) w.heap.size (by rfl) 24 _ _ R3 Tryd.underlying24 rfl s3 ?_ | refine wpList_load_row (by rfl) 24 _ (by rfl) w.heap.size (by rfl) 24 _ (0, 0) _ R3 Tryd.underlying24 rfl s3 ?_ | refine wpList_load_want (by rfl) 24 _ (by rfl) gI (by rfl) 24 _ _ R7 Tryd.underlying24 rfl s7 ?_ | refine wpList_load_row (by rfl) 24 _ (by rfl) gI (by rfl) 24 _ (0, 0) _ R7 Tryd.underlying24 rfl s7 ?_)
          refine (G7 _ T7.out).mono ?_
          rintro _ V60 ⟨rfl, k⟩
          replace R3 := R3.after k
          replace R7 := R7.after k
          replace T7 : Hid (Tx _ (some ⟨g7, 0, none⟩) J.hs) := T7.out.after k
          replace N := N.trans k
          clear k
          go_wp2_with fail
          refine (c_wakes _ (hTT.after N)).mono ?_
          rintro _ V61 ⟨rfl, k⟩
          replace N := N.trans k
          clear k
          go_wp2_with fail
          go_ret
          exact ⟨rfl, N⟩

theorem unlike_any (I : It) (a : Option Addr) (c : Nat) (q : ByteArray) (v : UInt8) (w : World) (hT : Tx w a I.hs) (hTT : TT w) :
    Calls Tryd.prog 6 #[itV I a c, .string q, .int .u8 (v.toNat : Int)] w fun e w' => e = .returned (.bool true) ∧ New w w' := by
  show Calls Tryd.prog 6 #[.agg (itC I a c), .string q, .int .u8 (v.toNat : Int)] w _
  cases hI : longI I
  · by_cases h2 : 100 < q.size
    · exact unlike_long I a c q v w hT hTT (.inr ⟨hI, h2⟩)
    · exact unlike_go I a c q v w hT hTT hI h2
  · exact unlike_long I a c q v w hT hTT (.inl hI)

end Go.Proofs.YtecamiefpdkjoaaDoor
