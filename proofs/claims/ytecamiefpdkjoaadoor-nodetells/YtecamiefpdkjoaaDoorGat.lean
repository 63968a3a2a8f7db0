/-
  NodeTells' walk: whatever Item and text, the call returns true.
-/
import Derived.Test.YtecamiefpdkjoaaDoorGar
import Derived.Test.YtecamiefpdkjoaaDoorGas
namespace Go.Proofs.YtecamiefpdkjoaaDoor
open Go.RowKit
set_option maxRecDepth 20000
set_option linter.unusedVariables false

/-- A whole row read inside a region that draws its order. -/
theorem wpQuiet_load_rowN {P : Program} {ops : Array Oper} {Q : Act → Prop} {a : Act} {o : Oper} {rest : List Oper} {W : World} (hw : Region.wanted o (yielded ops a.tmps) = true) (ty : TypeId) (x : Operand) (ho : o.op = .load ty x)
    (g : Nat) (hx : a.eval x = .pointer (some ⟨g, 0, none⟩)) (t : TypeId) (cs : Array Value) (R : Row W g cs t) (d : TypeDesc)
    (hu : P.underlying ty = some d) (hd : (match d with | .struct _ | .array _ _ => true | _ => false) = true) (hi : (P.info? ty).map (·.size) = some cs.size)
    (h : wpQuiet P ops (fun w' => ∃ p : NewW W, w' = p.v) Q rest (a.put o.dst (.agg cs))) : wpQuiet P ops (fun w' => ∃ p : NewW W, w' = p.v) Q (o :: rest) a :=
  BigFrame.wpQuiet_want hw fun K hK => ⟨.agg cs, fun w ⟨p, e⟩ => by
    subst e
    have hr := run_loadVar_row p.v g t ty cs (0, 0) d (R.after p.h) hu hd hi
    unfold Oper.quietAt execOp
    simp only [ho, hx, Instr.loadAt, Instr.sureAddr, Sem.run_bind, Sem.run_pure, Result.andThen_ok, hr]
    exact ⟨rfl, rfl⟩, hK _ h⟩
/-- The Item that a got begins with. -/
def gotOf (cs : Array Value) (b : Bool) : Array Value := (cs.toList ++ [Value.bool b]).toArray
theorem got_range {w : World} {g : Nat} {cs : Array Value} {b : Bool} (R : Row w g (gotOf cs b) 32) : ∀ p : NewW w, p.v.rangeAt g 0 cs.toList := fun p j v hj => by
  have R2 := R.after p.h
  rw [Nat.zero_add, R2.cell]
  unfold gotOf
  rw [List.getElem?_toArray, List.getElem?_append_left (List.getElem?_eq_some_iff.1 hj).1]
  exact hj
theorem gotC_of (I : It) (a : Option Addr) (c : Nat) : gotC I a c = gotOf (itC I a c) true := rfl
theorem gotZ_of : gotZ = gotOf itZ false := rfl
theorem got_one {cs : Array Value} {b : Bool} (h : cs.all (·.oneCell') = true) : (gotOf cs b).all (·.oneCell') = true := by
  unfold gotOf
  rw [List.all_toArray, List.all_append]
  rw [← Array.all_toList] at h
  rw [h]
  rfl
def itZero : It := ⟨0, [], false, [], 0, []⟩
theorem itZ_of : itZ = itC itZero none 0 := rfl
theorem zero_small : Small itZero := ⟨by decide, by decide, by decide, fun x hx => by cases hx⟩
/-- What both Decodes hand back. -/
theorem decs_any (q : ByteArray) (hq : q.size ≤ 2000) : ∃ (K : It) (D : Bool), Small K ∧ (∀ W, TT W → Calls Tryd.prog 11 #[.string q] W fun e w' => New W w' ∧ ∃ a c, e = .returned (.tuple #[.agg (itC K a c), .bool D]) ∧ Tx w' a K.hs) ∧
    (∀ W, Calls Tryd.prog 12 #[.string q] W fun e w' => New W w' ∧ ∃ a c, e = .returned (.agg (gotOf (itC K a c) D)) ∧ Tx w' a K.hs) := by
  have hR := fun W => c_rdec q hq W
  cases hd : decB (L q)
  · refine ⟨itZero, false, zero_small, fun W k => (c_dec_no q (by omega) hd W k).mono fun e w' h => ⟨h.2, none, 0, h.1, Tx.nil _ _⟩, fun W => (hR W).mono fun e w' h => ?_⟩
    unfold MadeR at h
    rw [hd, if_neg Bool.false_ne_true] at h
    exact ⟨h.1, none, 0, h.2, Tx.nil _ _⟩
  · obtain ⟨h1, h2⟩ := dec_yes hd
    have h3 := (rpar_enc _ h1).2
    rw [h2] at h3
    refine ⟨itP (inP (L q)), true, good_small _ h1, fun W k => c_dec_yes q (by omega) hd W k, fun W => (hR W).mono fun e w' h => ?_⟩
    unfold MadeR at h
    rw [hd, if_pos rfl, h3] at h
    obtain ⟨k, a, c, e1, hT⟩ := h
    exact ⟨k, a, c, e1, hT⟩

set_option maxHeartbeats 8000000 in
theorem tells_long (I : It) (a : Option Addr) (c : Nat) (q : ByteArray) (w : World) (hT : Tx w a I.hs) (hTT : TT w) (h : longI I = true ∨ longI I = false ∧ 2000 < q.size) :
    Calls Tryd.prog 3 #[.agg (itC I a c), .string q] w fun e w' => e = .returned (.bool true) ∧ New w w' := by
  have HT : Hid (Tx w a I.hs) := hT
  have s3 := itC_size I a c
  have L3 := c_long I a c
  clear hT
  go_enter Tryd.func3, Tryd.ntmps3
  go_wp2_with (first
    | (refine wpList_box_at (by rfl) 2 (by rfl) 24 _ (by rfl) (itC I a c) (by rfl) ?_; intro Wa R3 N)
    | refine wpList_load_want (by rfl) 24 _ (by rfl) w.heap.size (by rfl) 24 _ _ R3 Tryd.underlying24 rfl s3 ?_ | refine wpList_load_row (by rfl) 24 _ (by rfl) w.heap.size (by rfl) 24 _ (0, 0) _ R3 Tryd.underlying24 rfl s3 ?_)
  have r3 := R3.lt
  rcases h with h | ⟨h, h2⟩
  · rw [h] at L3
    refine (L3 _ (HT.out.after N)).mono ?_
    rintro _ V1 ⟨rfl, k⟩
    replace N := N.trans k
    clear k
    go_wp2_with fail
    refine (c_wakes _ (hTT.after N)).mono ?_
    rintro _ V2 ⟨rfl, k⟩
    replace N := N.trans k
    clear k
    go_wp2_with fail
    go_ret
    exact ⟨rfl, N⟩
  · rw [h] at L3
    have e1 : decide ((2000 : Int) < (q.size : Int)) = true := decide_eq_true (by omega)
    have e2 : decide (2000 < q.size) = true := decide_eq_true (by omega)
    refine (L3 _ (HT.out.after N)).mono ?_
    rintro _ V3 ⟨rfl, k⟩
    replace N := N.trans k
    clear k
    go_wp2_with fail
    refine (c_wakes _ (hTT.after N)).mono ?_
    rintro _ V4 ⟨rfl, k⟩
    replace N := N.trans k
    clear k
    go_wp2_with fail
    go_ret
    exact ⟨rfl, N⟩

set_option maxHeartbeats 8000000 in
theorem tells_go (I : It) (a : Option Addr) (c : Nat) (q : ByteArray) (w : World) (hT : Tx w a I.hs) (hTT : TT w) (hI : longI I = false) (h2 : ¬ 2000 < q.size) :
    Calls Tryd.prog 3 #[.agg (itC I a c), .string q] w fun e w' => e = .returned (.bool true) ∧ New w w' := by
  have HT : Hid (Tx w a I.hs) := hT
  have s3 := itC_size I a c
  have L3 := c_long I a c
  have hsm := longI_small hI
  have hn3 : I.hs.length ≤ 3000 := hsm.2.2.2
  have e1 : decide ((2000 : Int) < (q.size : Int)) = false := decide_eq_false (by omega)
  have e2 : decide (2000 < q.size) = false := decide_eq_false (by omega)
  have hq : q.size ≤ 2000 := by omega
  rw [hI] at L3
  clear hT hI h2
  go_enter Tryd.func3, Tryd.ntmps3
  go_wp2_with (first
    | (refine wpList_box_at (by rfl) 2 (by rfl) 24 _ (by rfl) (itC I a c) (by rfl) ?_; intro Wa R3 N)
    | refine wpList_load_want (by rfl) 24 _ (by rfl) w.heap.size (by rfl) 24 _ _ R3 Tryd.underlying24 rfl s3 ?_ | refine wpList_load_row (by rfl) 24 _ (by rfl) w.heap.size (by rfl) 24 _ (0, 0) _ R3 Tryd.underlying24 rfl s3 ?_)
  have r3 := R3.lt
  refine (L3 _ (HT.out.after N)).mono ?_
  rintro _ V1 ⟨rfl, k⟩
  replace R3 := R3.after k
  replace N := N.trans k
  clear k
  go_upto_region 3 with fail
  generalize hW0 : V1 = W0 at *
  have HT0 := hide (HT.out.after N)
  have y0 : ∀ p : NewW W0, p.v.cell? ⟨w.heap.size, 0, none⟩ = some (.int .i64 I.k) := NewW.cell (R3.cell 0)
  have y1 : ∀ p : NewW W0, p.v.cell? ⟨w.heap.size, 1, none⟩ = some (.string (bs I.p)) := NewW.cell (R3.cell 1)
  have y2 : ∀ p : NewW W0, p.v.cell? ⟨w.heap.size, 2, none⟩ = some (.bool I.has) := NewW.cell (R3.cell 2)
  have y3 : ∀ p : NewW W0, p.v.cell? ⟨w.heap.size, 3, none⟩ = some (.string (bs I.v)) := NewW.cell (R3.cell 3)
  have y4 : ∀ p : NewW W0, p.v.cell? ⟨w.heap.size, 4, none⟩ = some (.int .i64 I.m) := NewW.cell (R3.cell 4)
  have y5 : ∀ p : NewW W0, p.v.cell? ⟨w.heap.size, 5, none⟩ = some (.slice a I.hs.length c) := NewW.cell (R3.cell 5)
  have hne := NewW.ne W0
  have r3 := R3.lt
  go_cut [5] from 13 to 35 (fun s7 wx => ∃ gI g7 d7, s7 = .pointer (some ⟨gI, 0, none⟩) ∧ Row wx gI (itC I (some ⟨g7, 0, none⟩) d7) 24 ∧ Tx wx (some ⟨g7, 0, none⟩) I.hs ∧ (∃ cur, Row wx g7 cur 9) ∧ W0.heap.size ≤ g7 ∧ g7 ≠ gI ∧ New W0 wx ∧ W0.heap.size ≤ gI)
  case first =>
    refine region_reads [0, 1, 2, 3, 4, 5, 6, 7, 8, 9, 11, 12] 5 16 (fun w' => ∃ p : NewW W0, w' = p.v) ⟨⟨_, New.drew W0⟩, rfl⟩ (by kernel_rfl) (by kernel_rfl) (fun d _ _ _ _ h => by first | exact h | (cases d <;> exact h)) ?_
    simp only [pick, List.getElem?_cons_succ, List.getElem?_cons_zero, Option.toList_some, List.cons_append, List.nil_append]
    repeat (go_big_quiet_step (fail))
    refine wpQuiet_nil ?_
    have M0 : New W0 W0.drew := New.drew W0
    clear y0 y1 y2 y3 y4 y5
    generalize W0.drew = v0 at *
    refine wpG.two 10 15 (by kernel_rfl) ?_ ?_
    · skip
      refine wpOp_run (some 31) (.slice (some ⟨_, 0, none⟩) 0 0) _ (by rfl) (by rfl) (by rfl) (exec_buildNil (by rfl) (run_buildNil _)) ⟨fun _ => ⟨⟨_, M0.alloc _⟩, rfl⟩, ?_⟩
      simp only [Act.put, List.setIfInBounds_toArray, List.set_cons_zero, List.set_cons_succ]
      have RG := Row.new v0 #[] 9
      have hG7 := M0.size
      replace M0 := M0.alloc (.cells #[] 9)
      have hT7 : v0.heap.size < (v0.alloc (.cells #[] 9)).heap.size := by simp
      generalize v0.alloc (.cells #[] 9) = v1 at *
      generalize v0.heap.size = gG at *
      refine wpG.two 13 15 (by kernel_rfl) ?_ ?_
      · skip
        obtain ⟨g7, d7, v2, hrun7, K8, T7, ⟨cur7, K7⟩, hg7⟩ := copy_app v1 gG RG a c I.hs (HT0.out.after M0) hn3
        refine wpOp_run (some 34) _ v2 (by rfl) (by rfl) (by rfl) (exec_append (by rfl) (by rfl) (by rfl) hrun7) ⟨fun _ => ⟨⟨_, M0.trans K8⟩, rfl⟩, ?_⟩
        simp only [Act.put, List.setIfInBounds_toArray, List.set_cons_zero, List.set_cons_succ]
        have hge7 : W0.heap.size ≤ g7 := by have := M0.size; omega
        replace M0 := M0.trans K8
        clear hrun7 K8 hg7 RG
        refine wpG.two 14 15 (by kernel_rfl) ?_ ?_
        · skip
          refine wpOp_run (some 35) (.agg (itC I (some ⟨g7, 0, none⟩) d7)) _ (by rfl) (by rfl) (by rfl) (exec_build6 (by rfl) (by rfl) (by rfl) (by rfl) (by rfl) (by rfl) (by rfl) (run_build24 _ I _ _)) ⟨fun _ => ⟨⟨_, M0⟩, rfl⟩, ?_⟩
          simp only [Act.put, List.setIfInBounds_toArray, List.set_cons_zero, List.set_cons_succ]
          refine wpG.one 15 (by kernel_rfl) ?_
          refine wpOp_run (some 5) (.pointer (some ⟨v2.heap.size, 0, none⟩)) _ (by rfl) (by rfl) (by rfl) (exec_alloc (by rfl) info24) ⟨fun _ => ⟨⟨_, M0.alloc _⟩, rfl⟩, ?_⟩
          simp only [Act.put, List.setIfInBounds_toArray, List.set_cons_zero, List.set_cons_succ]
          have RI : Row _ _ itZ 24 := Row.new v2 itZ 24
          have hgI := M0.size
          have hl7 := K7.lt
          replace K7 := K7.alloc (.cells itZ 24)
          replace T7 := T7.after ((New.refl _).alloc (.cells itZ 24))
          replace M0 := M0.alloc (.cells itZ 24)
          have hI7 : v2.heap.size < (v2.alloc (.cells itZ 24)).heap.size := by simp
          change wpG _ _ _ _ _ _ _ _ _ (v2.alloc (.cells itZ 24))
          generalize v2.alloc (.cells itZ 24) = v3 at *
          generalize v2.heap.size = gI at *
          have hne7 : gI ≠ g7 := by omega
          refine wpG.pre (by kernel_rfl) [] _ _ _ (by kernel_rfl) (wpPre_nil ?_)
          simp only [pick, List.getElem?_cons_succ, List.getElem?_cons_zero, Option.toList_some, List.cons_append, List.nil_append]
          refine wpList_store_new (by rfl) 24 _ _ (by rfl) gI (itC I (some ⟨g7, 0, none⟩) d7) (by rfl) (by rfl) 24 itZ RI i24 rfl (itC_one _ _ _) ?_
          intro W9 R9 B9
          go_wp2_with fail
          go_meet
          case rel =>
            exact ⟨gI, g7, d7, rfl, R9, tx_but B9 T7 (fun x hx => by cases hx; exact Ne.symm hne7), ⟨_, K7.but B9 (Ne.symm hne7)⟩, hge7, Ne.symm hne7, B9.new M0 hgI, hgI⟩
        · skip
          refine wpOp_run (some 5) (.pointer (some ⟨v2.heap.size, 0, none⟩)) _ (by rfl) (by rfl) (by rfl) (exec_alloc (by rfl) info24) ⟨fun _ => ⟨⟨_, M0.alloc _⟩, rfl⟩, ?_⟩
          simp only [Act.put, List.setIfInBounds_toArray, List.set_cons_zero, List.set_cons_succ]
          have RI : Row _ _ itZ 24 := Row.new v2 itZ 24
          have hgI := M0.size
          have hl7 := K7.lt
          replace K7 := K7.alloc (.cells itZ 24)
          replace T7 := T7.after ((New.refl _).alloc (.cells itZ 24))
          replace M0 := M0.alloc (.cells itZ 24)
          have hI7 : v2.heap.size < (v2.alloc (.cells itZ 24)).heap.size := by simp
          change wpG _ _ _ _ _ _ _ _ _ (v2.alloc (.cells itZ 24))
          generalize v2.alloc (.cells itZ 24) = v3 at *
          generalize v2.heap.size = gI at *
          have hne7 : gI ≠ g7 := by omega
          refine wpG.one 14 (by kernel_rfl) ?_
          refine wpOp_run (some 35) (.agg (itC I (some ⟨g7, 0, none⟩) d7)) _ (by rfl) (by rfl) (by rfl) (exec_build6 (by rfl) (by rfl) (by rfl) (by rfl) (by rfl) (by rfl) (by rfl) (run_build24 _ I _ _)) ⟨fun _ => ⟨⟨_, M0⟩, rfl⟩, ?_⟩
          simp only [Act.put, List.setIfInBounds_toArray, List.set_cons_zero, List.set_cons_succ]
          refine wpG.pre (by kernel_rfl) [] _ _ _ (by kernel_rfl) (wpPre_nil ?_)
          simp only [pick, List.getElem?_cons_succ, List.getElem?_cons_zero, Option.toList_some, List.cons_append, List.nil_append]
          refine wpList_store_new (by rfl) 24 _ _ (by rfl) gI (itC I (some ⟨g7, 0, none⟩) d7) (by rfl) (by rfl) 24 itZ RI i24 rfl (itC_one _ _ _) ?_
          intro W9 R9 B9
          go_wp2_with fail
          go_meet
          case rel =>
            exact ⟨gI, g7, d7, rfl, R9, tx_but B9 T7 (fun x hx => by cases hx; exact Ne.symm hne7), ⟨_, K7.but B9 (Ne.symm hne7)⟩, hge7, Ne.symm hne7, B9.new M0 hgI, hgI⟩
      · skip
        refine wpOp_run (some 5) (.pointer (some ⟨v1.heap.size, 0, none⟩)) _ (by rfl) (by rfl) (by rfl) (exec_alloc (by rfl) info24) ⟨fun _ => ⟨⟨_, M0.alloc _⟩, rfl⟩, ?_⟩
        simp only [Act.put, List.setIfInBounds_toArray, List.set_cons_zero, List.set_cons_succ]
        have RI : Row _ _ itZ 24 := Row.new v1 itZ 24
        have hgI := M0.size
        replace RG := RG.alloc (.cells itZ 24)
        have hl7 := hT7
        replace M0 := M0.alloc (.cells itZ 24)
        have hI7 : v1.heap.size < (v1.alloc (.cells itZ 24)).heap.size := by simp
        change wpG _ _ _ _ _ _ _ _ _ (v1.alloc (.cells itZ 24))
        generalize v1.alloc (.cells itZ 24) = v2 at *
        generalize v1.heap.size = gI at *
        refine wpG.one 13 (by kernel_rfl) ?_
        obtain ⟨g7, d7, v3, hrun7, K8, T7, ⟨cur7, K7⟩, hg7⟩ := copy_app v2 gG RG a c I.hs (HT0.out.after M0) hn3
        refine wpOp_run (some 34) _ v3 (by rfl) (by rfl) (by rfl) (exec_append (by rfl) (by rfl) (by rfl) hrun7) ⟨fun _ => ⟨⟨_, M0.trans K8⟩, rfl⟩, ?_⟩
        simp only [Act.put, List.setIfInBounds_toArray, List.set_cons_zero, List.set_cons_succ]
        have hge7 : W0.heap.size ≤ g7 := by have := M0.size; omega
        have hne7 : gI ≠ g7 := by omega
        replace RI := RI.after K8
        replace M0 := M0.trans K8
        clear hrun7 K8 hg7 RG
        refine wpG.one 14 (by kernel_rfl) ?_
        refine wpOp_run (some 35) (.agg (itC I (some ⟨g7, 0, none⟩) d7)) _ (by rfl) (by rfl) (by rfl) (exec_build6 (by rfl) (by rfl) (by rfl) (by rfl) (by rfl) (by rfl) (by rfl) (run_build24 _ I _ _)) ⟨fun _ => ⟨⟨_, M0⟩, rfl⟩, ?_⟩
        simp only [Act.put, List.setIfInBounds_toArray, List.set_cons_zero, List.set_cons_succ]
        refine wpG.pre (by kernel_rfl) [] _ _ _ (by kernel_rfl) (wpPre_nil ?_)
        simp only [pick, List.getElem?_cons_succ, List.getElem?_cons_zero, Option.toList_some, List.cons_append, List.nil_append]
        refine wpList_store_new (by rfl) 24 _ _ (by rfl) gI (itC I (some ⟨g7, 0, none⟩) d7) (by rfl) (by rfl) 24 itZ RI i24 rfl (itC_one _ _ _) ?_
        intro W9 R9 B9
        go_wp2_with fail
        go_meet
        case rel =>
          exact ⟨gI, g7, d7, rfl, R9, tx_but B9 T7 (fun x hx => by cases hx; exact Ne.symm hne7), ⟨_, K7.but B9 (Ne.symm hne7)⟩, hge7, Ne.symm hne7, B9.new M0 hgI, hgI⟩
    · skip
      refine wpOp_run (some 5) (.pointer (some ⟨v0.heap.size, 0, none⟩)) _ (by rfl) (by rfl) (by rfl) (exec_alloc (by rfl) info24) ⟨fun _ => ⟨⟨_, M0.alloc _⟩, rfl⟩, ?_⟩
      simp only [Act.put, List.setIfInBounds_toArray, List.set_cons_zero, List.set_cons_succ]
      have RI : Row _ _ itZ 24 := Row.new v0 itZ 24
      have hgI := M0.size
      replace M0 := M0.alloc (.cells itZ 24)
      have hI7 : v0.heap.size < (v0.alloc (.cells itZ 24)).heap.size := by simp
      change wpG _ _ _ _ _ _ _ _ _ (v0.alloc (.cells itZ 24))
      generalize v0.alloc (.cells itZ 24) = v1 at *
      generalize v0.heap.size = gI at *
      refine wpG.one 10 (by kernel_rfl) ?_
      refine wpOp_run (some 31) (.slice (some ⟨_, 0, none⟩) 0 0) _ (by rfl) (by rfl) (by rfl) (exec_buildNil (by rfl) (run_buildNil _)) ⟨fun _ => ⟨⟨_, M0.alloc _⟩, rfl⟩, ?_⟩
      simp only [Act.put, List.setIfInBounds_toArray, List.set_cons_zero, List.set_cons_succ]
      have RG := Row.new v1 #[] 9
      have hG7 := M0.size
      replace RI := RI.alloc (.cells #[] 9)
      have hlt7 := hI7
      replace M0 := M0.alloc (.cells #[] 9)
      have hT7 : v1.heap.size < (v1.alloc (.cells #[] 9)).heap.size := by simp
      generalize v1.alloc (.cells #[] 9) = v2 at *
      generalize v1.heap.size = gG at *
      refine wpG.one 13 (by kernel_rfl) ?_
      obtain ⟨g7, d7, v3, hrun7, K8, T7, ⟨cur7, K7⟩, hg7⟩ := copy_app v2 gG RG a c I.hs (HT0.out.after M0) hn3
      refine wpOp_run (some 34) _ v3 (by rfl) (by rfl) (by rfl) (exec_append (by rfl) (by rfl) (by rfl) hrun7) ⟨fun _ => ⟨⟨_, M0.trans K8⟩, rfl⟩, ?_⟩
      simp only [Act.put, List.setIfInBounds_toArray, List.set_cons_zero, List.set_cons_succ]
      have hge7 : W0.heap.size ≤ g7 := by have := M0.size; omega
      have hne7 : gI ≠ g7 := by omega
      replace RI := RI.after K8
      replace M0 := M0.trans K8
      clear hrun7 K8 hg7 RG
      refine wpG.one 14 (by kernel_rfl) ?_
      refine wpOp_run (some 35) (.agg (itC I (some ⟨g7, 0, none⟩) d7)) _ (by rfl) (by rfl) (by rfl) (exec_build6 (by rfl) (by rfl) (by rfl) (by rfl) (by rfl) (by rfl) (by rfl) (run_build24 _ I _ _)) ⟨fun _ => ⟨⟨_, M0⟩, rfl⟩, ?_⟩
      simp only [Act.put, List.setIfInBounds_toArray, List.set_cons_zero, List.set_cons_succ]
      refine wpG.pre (by kernel_rfl) [] _ _ _ (by kernel_rfl) (wpPre_nil ?_)
      simp only [pick, List.getElem?_cons_succ, List.getElem?_cons_zero, Option.toList_some, List.cons_append, List.nil_append]
      refine wpList_store_new (by rfl) 24 _ _ (by rfl) gI (itC I (some ⟨g7, 0, none⟩) d7) (by rfl) (by rfl) 24 itZ RI i24 rfl (itC_one _ _ _) ?_
      intro W9 R9 B9
      go_wp2_with fail
      go_meet
      case rel =>
        exact ⟨gI, g7, d7, rfl, R9, tx_but B9 T7 (fun x hx => by cases hx; exact Ne.symm hne7), ⟨_, K7.but B9 (Ne.symm hne7)⟩, hge7, Ne.symm hne7, B9.new M0 hgI, hgI⟩
  case rest =>
    obtain ⟨gI, g7, d7, rfl, R7, T7b, _, hge7, hne7, k0, hgI⟩ := hcut
    clear y0 y1 y2 y3 y4 y5 hne HT0
    replace R3 := R3.after k0
    replace N := N.trans k0
    clear k0 hge7 hgI hne7
    obtain ⟨K, D, hKS, HDec, HRDec⟩ := decs_any q hq
    have HT7 := hide T7b
    have s7 := itC_size I (some ⟨g7, 0, none⟩) d7
    have E7 := c_enc I hsm.1 (some ⟨g7, 0, none⟩) d7
    have H7 := c_hash I hsm.1 (some ⟨g7, 0, none⟩) d7
    have G7 := c_good I hsm.1 (some ⟨g7, 0, none⟩) d7
    have G3 := c_rgood I hsm.1 a c
    have E3 := c_renc I hsm.1 a c
    have H3 := c_rhash I hsm.1 a c
    have S73 := c_same I I hsm.1 (some ⟨g7, 0, none⟩) a d7 c
    rw [(eqIt_iff I I).2 rfl] at S73
    clear T7b hsm
    generalize goodI I = gi at *
    generalize bs (encB I) = st at *
    generalize bs (hashB I) = sh at *
    have x1 : (gi == gi) = true := by cases gi <;> rfl
    have x2 : (st.toList == st.toList) = true := beq_self_eq_true _
    have x3 : (sh.toList == sh.toList) = true := beq_self_eq_true _
    have x4 : (D == D) = true := by cases D <;> rfl
    generalize itC I (some ⟨g7, 0, none⟩) d7 = C7 at *
    generalize itC I a c = C3 at *
    go_wp2_with (first | refine wpList_load_want (by rfl) 24 _ (by rfl) gI (by rfl) 24 _ _ R7 Tryd.underlying24 rfl s7 ?_ | refine wpList_load_row (by rfl) 24 _ (by rfl) gI (by rfl) 24 _ (0, 0) _ R7 Tryd.underlying24 rfl s7 ?_)
    refine (E7 _ HT7.out (hTT.after N)).mono ?_
    rintro _ V2 ⟨rfl, k⟩
    replace R3 := R3.after k
    replace R7 := R7.after k
    replace HT7 : Hid (Tx _ (some ⟨g7, 0, none⟩) I.hs) := HT7.out.after k
    replace N := N.trans k
    clear k
    go_wp2_with (first | refine wpList_load_want (by rfl) 24 _ (by rfl) gI (by rfl) 24 _ _ R7 Tryd.underlying24 rfl s7 ?_ | refine wpList_load_row (by rfl) 24 _ (by rfl) gI (by rfl) 24 _ (0, 0) _ R7 Tryd.underlying24 rfl s7 ?_)
    refine (H7 _ HT7.out (hTT.after N)).mono ?_
    rintro _ V3 ⟨rfl, k⟩
    replace R3 := R3.after k
    replace R7 := R7.after k
    replace HT7 : Hid (Tx _ (some ⟨g7, 0, none⟩) I.hs) := HT7.out.after k
    replace N := N.trans k
    clear k
    go_wp2_with fail
    refine (HDec _ (hTT.after N)).mono ?_
    rintro _ V4 ⟨k, a5, c5, rfl, hTA⟩
    replace R3 := R3.after k
    replace R7 := R7.after k
    replace HT7 : Hid (Tx _ (some ⟨g7, 0, none⟩) I.hs) := HT7.out.after k
    have sA := itC_size K a5 c5
    have oA := itC_one K a5 c5
    have zA : itZ.size = (itC K a5 c5).size := rfl
    replace N := N.trans k
    clear k
    have lw := N.size
    have l3 := R3.lt
    have l7 := R7.lt
    go_wp2_with (first | (refine wpList_alloc_at (by rfl) 10 (by rfl) 24 (by rfl) _ _ _ info24 ?_; intro Y1 Ra Na) | (refine wpList_store_new (by rfl) 24 _ _ (by rfl) V4.heap.size (itC K a5 c5) (by rfl) (by rfl) 24 itZ Ra sA zA oA ?_; intro Y2 RA Bb; replace R3 := (R3.after Na).but Bb (by omega); replace R7 := (R7.after Na).but Bb (by omega); replace N := Bb.new (N.trans Na) lw))
    have HTA : Hid (Tx Y2 a5 K.hs) := hTA.of fun x _ hlt => (Bb.block _ (by omega)).trans (Na.block _ hlt)
    replace HT7 : Hid (Tx Y2 (some ⟨g7, 0, none⟩) I.hs) := HT7.out.of fun x _ hlt => (Bb.block _ (by omega)).trans (Na.block _ hlt)
    generalize V4.heap.size = A at *
    clear hTA Na Bb Ra lw l3 l7
    refine (HRDec _).mono ?_
    rintro _ V5 ⟨k, a6, c6, rfl, hTB⟩
    replace R3 := R3.after k
    replace R7 := R7.after k
    replace RA := RA.after k
    replace HT7 : Hid (Tx _ (some ⟨g7, 0, none⟩) I.hs) := HT7.out.after k
    replace HTA : Hid (Tx _ a5 K.hs) := HTA.out.after k
    replace N := N.trans k
    clear k
    obtain ⟨bb, inf⟩ := info32
    have oB : (gotOf (itC K a6 c6) D).all (·.oneCell') = true := got_one (itC_one K a6 c6)
    have sB : (Tryd.prog.info? 32).map (·.size) = some (gotOf (itC K a6 c6) D).size := i32
    have zB : gotZ.size = (gotOf (itC K a6 c6) D).size := rfl
    have lw := N.size
    have l3 := R3.lt
    have l7 := R7.lt
    have lA := RA.lt
    go_upto_region 8 with (first | (refine wpList_alloc_at (by rfl) 12 (by rfl) 32 (by rfl) _ _ _ inf ?_; intro Y3 Ra Na) | (refine wpList_store_new (by rfl) 32 _ _ (by rfl) V5.heap.size (gotOf (itC K a6 c6) D) (by rfl) (by rfl) 32 gotZ Ra sB zB oB ?_; intro Y4 RB Bb; replace R3 := (R3.after Na).but Bb (by omega); replace R7 := (R7.after Na).but Bb (by omega); replace RA := (RA.after Na).but Bb (by omega); replace N := Bb.new (N.trans Na) lw))
    replace HTA : Hid (Tx Y4 a5 K.hs) := HTA.out.of fun x _ hlt => (Bb.block _ (by omega)).trans (Na.block _ hlt)
    have HTB : Hid (Tx Y4 a6 K.hs) := hTB.of fun x _ hlt => (Bb.block _ (by omega)).trans (Na.block _ hlt)
    replace HT7 : Hid (Tx Y4 (some ⟨g7, 0, none⟩) I.hs) := HT7.out.of fun x _ hlt => (Bb.block _ (by omega)).trans (Na.block _ hlt)
    generalize V5.heap.size = B at *
    clear hTB Na Bb Ra lw l3 l7 lA
    have HT3 := hide (HT.out.after N)
    have HTT := hide (hTT.after N)
    have SAB := c_same K K hKS a5 a6 c5 c6
    rw [(eqIt_iff K K).2 rfl] at SAB
    have rB := got_range RB
    have cB6 : ∀ p : NewW Y4, p.v.cell? ⟨B, 6, none⟩ = some (.bool D) := NewW.cell (RB.cell 6)
    have sR : (Tryd.prog.info? 24).map (·.size) = some (itC K a6 c6).toList.length := i24
    have eR : (itC K a6 c6).toList.toArray = itC K a6 c6 := rfl
    generalize itC K a5 c5 = CA at *
    generalize itC K a6 c6 = CB at *
    have hne := NewW.ne Y4
    have c3 : ∀ p : NewW Y4, Tx p.v a I.hs := fun p => HT3.out.after p.h
    have c7 : ∀ p : NewW Y4, Tx p.v (some ⟨g7, 0, none⟩) I.hs := fun p => HT7.out.after p.h
    have cA : ∀ p : NewW Y4, Tx p.v a5 K.hs := fun p => HTA.out.after p.h
    have cB : ∀ p : NewW Y4, Tx p.v a6 K.hs := fun p => HTB.out.after p.h
    have cT : ∀ p : NewW Y4, TT p.v := fun p => HTT.out.after p.h
    clear HT3 HT7 HTA HTB HTT
    refine region_new Y4 (New.refl Y4) (by kernel_rfl) (by kernel_rfl) ?_
    refine wpQuiet_load_rowN (by rfl) 24 _ (by rfl) gI (by rfl) 24 _ R7 _ Tryd.underlying24 rfl s7 ?_
    simp only [Act.put, List.setIfInBounds_toArray, List.set_cons_zero, List.set_cons_succ]
    go_big_quiet_step (first | (go_at_call 13; exact Calls.neww (G7 _ (c7 _))))
    refine wpQuiet_load_rowN (by rfl) 24 _ (by rfl) w.heap.size (by rfl) 24 _ R3 _ Tryd.underlying24 rfl s3 ?_
    simp only [Act.put, List.setIfInBounds_toArray, List.set_cons_zero, List.set_cons_succ]
    go_big_quiet_step (first | (go_at_call 14; exact Calls.neww (G3 _ (c3 _))))
    go_big_quiet_step (fail)
    go_big_quiet_step (fail)
    go_big_quiet_step (fail)
    refine wpQuiet_load_rowN (by rfl) 24 _ (by rfl) w.heap.size (by rfl) 24 _ R3 _ Tryd.underlying24 rfl s3 ?_
    simp only [Act.put, List.setIfInBounds_toArray, List.set_cons_zero, List.set_cons_succ]
    go_big_quiet_step (first | (go_at_call 15; exact Calls.neww (E3 _ (c3 _))))
    go_big_quiet_step (fail)
    go_big_quiet_step (fail)
    go_big_quiet_step (fail)
    go_big_quiet_step (fail)
    refine wpQuiet_load_rowN (by rfl) 24 _ (by rfl) w.heap.size (by rfl) 24 _ R3 _ Tryd.underlying24 rfl s3 ?_
    simp only [Act.put, List.setIfInBounds_toArray, List.set_cons_zero, List.set_cons_succ]
    go_big_quiet_step (first | (go_at_call 14; exact Calls.neww (G3 _ (c3 _))))
    go_big_quiet_step (fail)
    go_big_quiet_step (fail)
    go_big_quiet_step (fail)
    go_big_quiet_step (fail)
    refine wpQuiet_load_rowN (by rfl) 24 _ (by rfl) w.heap.size (by rfl) 24 _ R3 _ Tryd.underlying24 rfl s3 ?_
    simp only [Act.put, List.setIfInBounds_toArray, List.set_cons_zero, List.set_cons_succ]
    go_big_quiet_step (first | (go_at_call 16; exact Calls.neww (H3 _ (c3 _))))
    go_big_quiet_step (fail)
    go_big_quiet_step (fail)
    go_big_quiet_step (fail)
    go_big_quiet_step (fail)
    refine wpQuiet_load_rowN (by rfl) 24 _ (by rfl) w.heap.size (by rfl) 24 _ R3 _ Tryd.underlying24 rfl s3 ?_
    simp only [Act.put, List.setIfInBounds_toArray, List.set_cons_zero, List.set_cons_succ]
    go_big_quiet_step (first | (go_at_call 14; exact Calls.neww (G3 _ (c3 _))))
    go_big_quiet_step (fail)
    go_big_quiet_step (fail)
    go_big_quiet_step (fail)
    refine wpQuiet_load_rowN (by rfl) 24 _ (by rfl) A (by rfl) 24 _ RA _ Tryd.underlying24 rfl sA ?_
    simp only [Act.put, List.setIfInBounds_toArray, List.set_cons_zero, List.set_cons_succ]
    go_big_quiet_step (fail)
    refine wpQuiet_load_mid (by rfl) 24 _ (by rfl) B 0 (by rfl) _ rB _ Tryd.underlying24 rfl sR ?_
    rw [eR]
    simp only [Act.put, List.setIfInBounds_toArray, List.set_cons_zero, List.set_cons_succ]
    go_big_quiet_step (first | (go_at_call 17; exact Calls.neww (SAB _ (cA _) (cB _))))
    go_big_quiet_step (fail)
    go_big_quiet_step (fail)
    go_big_quiet_step (fail)
    go_big_quiet_step (fail)
    go_big_quiet_step (fail)
    go_big_quiet_step (fail)
    go_big_quiet_step (fail)
    go_big_quiet_step (fail)
    refine wpQuiet_load_rowN (by rfl) 24 _ (by rfl) gI (by rfl) 24 _ R7 _ Tryd.underlying24 rfl s7 ?_
    simp only [Act.put, List.setIfInBounds_toArray, List.set_cons_zero, List.set_cons_succ]
    refine wpQuiet_load_rowN (by rfl) 24 _ (by rfl) w.heap.size (by rfl) 24 _ R3 _ Tryd.underlying24 rfl s3 ?_
    simp only [Act.put, List.setIfInBounds_toArray, List.set_cons_zero, List.set_cons_succ]
    go_big_quiet_step (first | (go_at_call 17; exact Calls.neww (S73 _ (c7 _) (c3 _))))
    go_big_quiet_step (fail)
    go_big_quiet_step (fail)
    go_big_quiet_step (first | (go_at_call 8; exact Calls.neww (c_wakes _ (cT _))))
    go_big_quiet_step (fail)
    go_big_quiet_step (fail)
    refine wpQuiet_nil ?_
    rintro w5 ⟨⟨_, k5⟩, rfl⟩
    go_wp2_with fail
    go_ret
    exact ⟨rfl, N.trans k5⟩

theorem tells_any (I : It) (a : Option Addr) (c : Nat) (q : ByteArray) (w : World) (hT : Tx w a I.hs) (hTT : TT w) :
    Calls Tryd.prog 3 #[itV I a c, .string q] w fun e w' => e = .returned (.bool true) ∧ New w w' := by
  show Calls Tryd.prog 3 #[.agg (itC I a c), .string q] w _
  cases hI : longI I
  · by_cases h2 : 2000 < q.size
    · exact tells_long I a c q w hT hTT (.inr ⟨hI, h2⟩)
    · exact tells_go I a c q w hT hTT hI h2
  · exact tells_long I a c q w hT hTT (.inl hI)

end Go.Proofs.YtecamiefpdkjoaaDoor
