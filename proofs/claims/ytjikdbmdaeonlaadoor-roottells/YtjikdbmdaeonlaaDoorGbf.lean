/-
  The document's own root of a trie: every node's Item and hash, the last node first.
-/
import Derived.Test.YtjikdbmdaeonlaaDoorGbe
namespace Go.Proofs.YtjikdbmdaeonlaaDoor
open Go.RowKit
set_option maxRecDepth 20000

theorem exec_move {P : Program} {o : Oper} {a : Act} {w : World} {x : Operand} {v : Value} (ho : o.op = .move x) (h : a.eval x = v) : (execOp a.eval o).run P w = .ok (.value v) w := by
  unfold execOp
  simp only [ho, h, Sem.run_pure]
theorem exec_len {o : Oper} {a : Act} {w : World} {T e : TypeId} {x : Operand} {b : Option Addr} {n c : Nat} (ho : o.op = .call { callee := .builtin .len, args := #[x], argTypes := #[T] }) (h : a.eval x = .slice b n c) (hT : Tryd.prog.underlying T = some (.slice e)) : (execOp a.eval o).run Tryd.prog w = .ok (.value (.int .i64 (n : Int))) w := by
  have he : Tryd.prog.underlying T = some (.slice (Tryd.prog.elem T)) := by
    unfold Program.elem; rw [hT]
  have := run_len_slice (P := Tryd.prog) (w := w) T o.type b n c he
  unfold execOp
  simp only [ho, resolve, invoke, builtin, Sem.run_bind, Sem.run_pure, Result.andThen_ok, List.map_toArray, List.map_cons, List.map_nil, h]
  rw [this]; rfl
theorem exec_fieldAddr5 {o : Oper} {a : Act} {w : World} {x : Operand} {g : Nat} (ho : o.op = .fieldAddr 32 x 5) (h : a.eval x = .pointer (some ⟨g, 0, none⟩)) : (execOp a.eval o).run Tryd.prog w = .ok (.value (.pointer (some ⟨g, 5, none⟩))) w := by
  unfold execOp
  simp only [ho, h]
  kernel_rfl
theorem exec_indexA {o : Oper} {a : Act} {w : World} {x y : Operand} {g n c k : Nat} (ho : o.op = .indexAddr 28 x y) (hx : a.eval x = .slice (some ⟨g, 0, none⟩) n c) (hy : a.eval y = .int .i64 (k : Int)) (hk : k < n) : (execOp a.eval o).run Tryd.prog w = .ok (.value (.pointer (some ⟨g, k, none⟩))) w := by
  obtain ⟨i0, hi0, hz0, hz1, hz2⟩ := info_parts info9
  unfold execOp
  simp [ho, hx, hy, Instr.indexAt, run_underlying Tryd.underlying28, sizeOf, typeInfo, hi0, hz1, hk, Addr.add_mid, asIntOf]
theorem wpG.three {P : Program} {ops : Array Oper} {Q : Exit → Act → World → Prop} {md : Region.Mode} {S : World → Prop} {z : Nat} (i j k : Nat) {n : Nat} {li : Array Bool} {a : Act} {w : World} (hr : Region.ready md ops li = [i, j, k])
    (h : wpOp P ops Q i (fun a' w' => (i ≠ z → S w') ∧ wpG P md ops Q S z n (li.setIfInBounds i true) a' w') a w)
    (h' : wpOp P ops Q j (fun a' w' => (j ≠ z → S w') ∧ wpG P md ops Q S z n (li.setIfInBounds j true) a' w') a w)
    (h'' : wpOp P ops Q k (fun a' w' => (k ≠ z → S w') ∧ wpG P md ops Q S z n (li.setIfInBounds k true) a' w') a w) : wpG P md ops Q S z (n + 1) li a w := by
  refine ⟨fun h0 => (by rw [hr] at h0; cases h0), fun x hx => ?_⟩
  rw [hr] at hx
  rcases List.mem_cons.1 hx with rfl | hx
  · exact h
  rcases List.mem_cons.1 hx with rfl | hx
  · exact h'
  · obtain rfl : x = k := by simpa using hx
    exact h''

set_option maxHeartbeats 16000000 in
theorem refAll_yes {w : World} {v : Value} {t : List Nd} (P : Ls w 20 v (t.map ndC)) (K : TOk t) (hok : okT t = true) :
    Calls Tryd.prog 13 #[v] w fun e w' => ∃ gi gh, e = .returned (.agg (allC gi gh t.length)) ∧ No.Tx w' (some ⟨gh, 0, none⟩) (HL t) ∧ (∀ (i : Nat) m, t[i]? = some m → ∃ a c, w'.rangeAt gi (i * 6) (No.itC (itW m (HL t)) a c).toList ∧ No.Tx w' a (itW m (HL t)).hs) ∧ New w w' := by
  have hg := fun W (N : New w W) => refGood_any (P.after N) K
  rw [hok] at hg
  have HOK : Hid (okT t = true) := hok
  have HK : Hid (TOk t) := K
  have htl := K.few
  obtain ⟨a, c, rfl, hc, HS⟩ := P.open noNd
  have hmI := fun W => run_make_pl W 35 32 (.agg No.itZ) t.length 6 _ Tryd.underlying35 No.info24 rfl (by decide) (by omega) (by decide)
  have hmH := fun W => run_make_pl W 28 9 (.string (bs [])) t.length 1 16 Tryd.underlying28 info9 rfl (by decide) (by omega) (by decide)
  clear P K hok
  go_enter Tryd.func13, Tryd.ntmps13
  go_wp2_with (first
    | (refine wpList_alloc_at (by rfl) 2 (by rfl) 37 (by rfl) _ _ _ infoA ?_; intro W1 R1 N1))
  have hgr : w.heap.size < W1.heap.size := R1.lt
  refine Calls.mono (hg _ N1) ?_
  rintro _ W2 ⟨rfl, N2⟩
  have HR : Hid (Row W2 w.heap.size allZ 37) := R1.after N2
  have N12 : New w W2 := N1.trans N2
  have HGW : Hid (w.heap.size < W2.heap.size) := Nat.lt_of_lt_of_le hgr N2.size
  have hgr2 : w.heap.size < W2.heap.size := Nat.lt_of_lt_of_le hgr N2.size
  generalize hGRw : w.heap.size = GR at *
  have HGR : Hid (w.heap.size = GR) := hGRw
  clear hGRw
  clear hg R1 N1 N2 hgr
  go_upto_region 3 with fail
  go_cut [3] from 14 to 20 (fun s3 wx => ∃ ga gi gh, s3 = .pointer (some ⟨ga, 0, none⟩) ∧ Row wx ga (allC gi gh t.length) 37 ∧ Pl wx (fun b => b = gi) 32 6 (.slice (some ⟨gi, 0, none⟩) t.length t.length) (List.replicate t.length No.itZ.toList) ∧ Pl wx (fun b => b = gh) 9 1 (.slice (some ⟨gh, 0, none⟩) t.length t.length) (List.replicate t.length (txC [])) ∧ ga ≠ gi ∧ ga ≠ gh ∧ gi ≠ gh ∧ W2.heap.size ≤ ga ∧ W2.heap.size ≤ gi ∧ W2.heap.size ≤ gh ∧ gi < wx.heap.size ∧ gh < wx.heap.size ∧ New W2 wx)
  case first =>
    refine wpG.region 8 (fun _ => True) (by kernel_rfl) ?_
    have M : New W2 W2.drew := New.drew W2
    obtain ⟨V0, hV0⟩ : ∃ V0, W2.drew = V0 := ⟨_, rfl⟩
    rw [hV0] at M ⊢
    clear hV0
    refine wpG.take (i := 0) (n := 8) (v := .slice a t.length c) (some 14) (by rfl) (by kernel_rfl) (by intro _ _ _ h; exact h) (by rfl) (by rfl) trivial (fun _ _ => exec_move (by rfl) (by rfl)) ?_
    simp only [Act.put, List.setIfInBounds_toArray, List.set_cons_zero, List.set_cons_succ]
    refine wpG.take (i := 1) (n := 7) (v := .int .i64 (t.length : Int)) (some 15) (by rfl) (by kernel_rfl) (by intro _ _ _ h; exact h) (by rfl) (by rfl) trivial (fun _ _ => exec_len (by rfl) (by rfl) Tryd.underlying23) ?_
    simp only [Act.put, List.setIfInBounds_toArray, List.set_cons_zero, List.set_cons_succ]
    refine wpG.take (i := 3) (n := 6) (v := .slice a t.length c) (some 17) (by rfl) (by kernel_rfl) (by intro _ _ _ h; exact h) (by rfl) (by rfl) trivial (fun _ _ => exec_move (by rfl) (by rfl)) ?_
    simp only [Act.put, List.setIfInBounds_toArray, List.set_cons_zero, List.set_cons_succ]
    refine wpG.take (i := 4) (n := 5) (v := .int .i64 (t.length : Int)) (some 18) (by rfl) (by kernel_rfl) (by intro _ _ _ h; exact h) (by rfl) (by rfl) trivial (fun _ _ => exec_len (by rfl) (by rfl) Tryd.underlying23) ?_
    simp only [Act.put, List.setIfInBounds_toArray, List.set_cons_zero, List.set_cons_succ]
    refine wpG.three 2 5 7 (by kernel_rfl) ?_ ?_ ?_
    · skip
      obtain ⟨V1, hm, QI, kN⟩ := hmI V0
      refine wpOp_run (some 16) _ V1 (by rfl) (by rfl) (by rfl) (exec_make (by rfl) (by rfl) (by rfl) hm) ⟨fun _ => trivial, ?_⟩
      simp only [Act.put, List.setIfInBounds_toArray, List.set_cons_zero, List.set_cons_succ]
      clear hm
      have hI0 := M.size
      have hI1 : V0.heap.size < V1.heap.size := by obtain ⟨_, Rw, _⟩ := QI.row; exact Rw.lt
      generalize V0.heap.size = gi at *
      replace M := M.trans kN
      clear kN
      refine wpG.two 5 7 (by kernel_rfl) ?_ ?_
      · skip
        obtain ⟨V2, hm, QH, kN⟩ := hmH V1
        refine wpOp_run (some 19) _ V2 (by rfl) (by rfl) (by rfl) (exec_make (by rfl) (by rfl) (by rfl) hm) ⟨fun _ => trivial, ?_⟩
        simp only [Act.put, List.setIfInBounds_toArray, List.set_cons_zero, List.set_cons_succ]
        clear hm
        have hH0 := M.size
        have hH1 : V1.heap.size < V2.heap.size := by obtain ⟨_, Rw, _⟩ := QH.row; exact Rw.lt
        have dAB := hI1
        replace hI1 := Nat.lt_of_lt_of_le hI1 kN.size
        generalize V1.heap.size = gh at *
        replace QI := QI.after kN
        replace M := M.trans kN
        clear kN
        refine wpG.two 6 7 (by kernel_rfl) ?_ ?_
        · skip
          refine wpOp_run (some 20) (.agg (allC gi gh t.length)) _ (by rfl) (by rfl) (by rfl) (exec_build3 (by rfl) (by rfl) (by rfl) (by rfl) (run_buildA _ _ _ _ _ _ _)) ⟨fun _ => trivial, ?_⟩
          simp only [Act.put, List.setIfInBounds_toArray, List.set_cons_zero, List.set_cons_succ]
          refine wpG.one 7 (by kernel_rfl) ?_
          have kN : New V2 (V2.alloc (.cells allZ 37)) := (New.refl V2).alloc _
          refine wpOp_run (some 3) (.pointer (some ⟨V2.heap.size, 0, none⟩)) _ (by rfl) (by rfl) (by rfl) (No.exec_alloc (by rfl) infoA) ⟨fun _ => trivial, ?_⟩
          simp only [Act.put, List.setIfInBounds_toArray, List.set_cons_zero, List.set_cons_succ]
          have RA : Row _ _ allZ 37 := Row.new V2 allZ 37
          have hA0 := M.size
          change wpG _ _ _ _ _ _ _ _ _ (V2.alloc (.cells allZ 37))
          have dAC := hI1
          replace hI1 := Nat.lt_of_lt_of_le hI1 kN.size
          have dBC := hH1
          replace hH1 := Nat.lt_of_lt_of_le hH1 kN.size
          generalize V2.alloc (.cells allZ 37) = V3 at *
          have hA1 := RA.lt
          generalize V2.heap.size = ga at *
          replace QI := QI.after kN
          replace QH := QH.after kN
          replace M := M.trans kN
          clear kN
          refine wpG.pre (by kernel_rfl) [] _ _ _ (by kernel_rfl) (wpPre_nil ?_)
          simp only [pick, List.getElem?_cons_succ, List.getElem?_cons_zero, Option.toList_some, List.cons_append, List.nil_append]
          refine wpList_store_new (by rfl) 37 _ _ (by rfl) ga (allC gi gh t.length) (by rfl) (by rfl) 37 allZ RA iA rfl (allC_one _ _ _) ?_
          intro W9 R9 B9
          have hsz := B9.size
          go_wp2_with fail
          go_meet
          case rel => exact ⟨ga, gi, gh, rfl, R9, QI.but B9 (by show ¬ ga = gi; omega), QH.but B9 (by show ¬ ga = gh; omega), by omega, by omega, by omega, hA0, hI0, hH0, by omega, by omega, B9.new M hA0⟩
        · skip
          have kN : New V2 (V2.alloc (.cells allZ 37)) := (New.refl V2).alloc _
          refine wpOp_run (some 3) (.pointer (some ⟨V2.heap.size, 0, none⟩)) _ (by rfl) (by rfl) (by rfl) (No.exec_alloc (by rfl) infoA) ⟨fun _ => trivial, ?_⟩
          simp only [Act.put, List.setIfInBounds_toArray, List.set_cons_zero, List.set_cons_succ]
          have RA : Row _ _ allZ 37 := Row.new V2 allZ 37
          have hA0 := M.size
          change wpG _ _ _ _ _ _ _ _ _ (V2.alloc (.cells allZ 37))
          have dAC := hI1
          replace hI1 := Nat.lt_of_lt_of_le hI1 kN.size
          have dBC := hH1
          replace hH1 := Nat.lt_of_lt_of_le hH1 kN.size
          generalize V2.alloc (.cells allZ 37) = V3 at *
          have hA1 := RA.lt
          generalize V2.heap.size = ga at *
          replace QI := QI.after kN
          replace QH := QH.after kN
          replace M := M.trans kN
          clear kN
          refine wpG.one 6 (by kernel_rfl) ?_
          refine wpOp_run (some 20) (.agg (allC gi gh t.length)) _ (by rfl) (by rfl) (by rfl) (exec_build3 (by rfl) (by rfl) (by rfl) (by rfl) (run_buildA _ _ _ _ _ _ _)) ⟨fun _ => trivial, ?_⟩
          simp only [Act.put, List.setIfInBounds_toArray, List.set_cons_zero, List.set_cons_succ]
          refine wpG.pre (by kernel_rfl) [] _ _ _ (by kernel_rfl) (wpPre_nil ?_)
          simp only [pick, List.getElem?_cons_succ, List.getElem?_cons_zero, Option.toList_some, List.cons_append, List.nil_append]
          refine wpList_store_new (by rfl) 37 _ _ (by rfl) ga (allC gi gh t.length) (by rfl) (by rfl) 37 allZ RA iA rfl (allC_one _ _ _) ?_
          intro W9 R9 B9
          have hsz := B9.size
          go_wp2_with fail
          go_meet
          case rel => exact ⟨ga, gi, gh, rfl, R9, QI.but B9 (by show ¬ ga = gi; omega), QH.but B9 (by show ¬ ga = gh; omega), by omega, by omega, by omega, hA0, hI0, hH0, by omega, by omega, B9.new M hA0⟩
      · skip
        have kN : New V1 (V1.alloc (.cells allZ 37)) := (New.refl V1).alloc _
        refine wpOp_run (some 3) (.pointer (some ⟨V1.heap.size, 0, none⟩)) _ (by rfl) (by rfl) (by rfl) (No.exec_alloc (by rfl) infoA) ⟨fun _ => trivial, ?_⟩
        simp only [Act.put, List.setIfInBounds_toArray, List.set_cons_zero, List.set_cons_succ]
        have RA : Row _ _ allZ 37 := Row.new V1 allZ 37
        have hA0 := M.size
        change wpG _ _ _ _ _ _ _ _ _ (V1.alloc (.cells allZ 37))
        have dAC := hI1
        replace hI1 := Nat.lt_of_lt_of_le hI1 kN.size
        generalize V1.alloc (.cells allZ 37) = V2 at *
        have hA1 := RA.lt
        generalize V1.heap.size = ga at *
        replace QI := QI.after kN
        replace M := M.trans kN
        clear kN
        refine wpG.one 5 (by kernel_rfl) ?_
        obtain ⟨V3, hm, QH, kN⟩ := hmH V2
        refine wpOp_run (some 19) _ V3 (by rfl) (by rfl) (by rfl) (exec_make (by rfl) (by rfl) (by rfl) hm) ⟨fun _ => trivial, ?_⟩
        simp only [Act.put, List.setIfInBounds_toArray, List.set_cons_zero, List.set_cons_succ]
        clear hm
        have hH0 := M.size
        have hH1 : V2.heap.size < V3.heap.size := by obtain ⟨_, Rw, _⟩ := QH.row; exact Rw.lt
        have dAB := hI1
        replace hI1 := Nat.lt_of_lt_of_le hI1 kN.size
        have dCB := hA1
        replace hA1 := Nat.lt_of_lt_of_le hA1 kN.size
        generalize V2.heap.size = gh at *
        replace QI := QI.after kN
        replace RA := RA.after kN
        replace M := M.trans kN
        clear kN
        refine wpG.one 6 (by kernel_rfl) ?_
        refine wpOp_run (some 20) (.agg (allC gi gh t.length)) _ (by rfl) (by rfl) (by rfl) (exec_build3 (by rfl) (by rfl) (by rfl) (by rfl) (run_buildA _ _ _ _ _ _ _)) ⟨fun _ => trivial, ?_⟩
        simp only [Act.put, List.setIfInBounds_toArray, List.set_cons_zero, List.set_cons_succ]
        refine wpG.pre (by kernel_rfl) [] _ _ _ (by kernel_rfl) (wpPre_nil ?_)
        simp only [pick, List.getElem?_cons_succ, List.getElem?_cons_zero, Option.toList_some, List.cons_append, List.nil_append]
        refine wpList_store_new (by rfl) 37 _ _ (by rfl) ga (allC gi gh t.length) (by rfl) (by rfl) 37 allZ RA iA rfl (allC_one _ _ _) ?_
        intro W9 R9 B9
        have hsz := B9.size
        go_wp2_with fail
        go_meet
        case rel => exact ⟨ga, gi, gh, rfl, R9, QI.but B9 (by show ¬ ga = gi; omega), QH.but B9 (by show ¬ ga = gh; omega), by omega, by omega, by omega, hA0, hI0, hH0, by omega, by omega, B9.new M hA0⟩
    · skip
      obtain ⟨V1, hm, QH, kN⟩ := hmH V0
      refine wpOp_run (some 19) _ V1 (by rfl) (by rfl) (by rfl) (exec_make (by rfl) (by rfl) (by rfl) hm) ⟨fun _ => trivial, ?_⟩
      simp only [Act.put, List.setIfInBounds_toArray, List.set_cons_zero, List.set_cons_succ]
      clear hm
      have hH0 := M.size
      have hH1 : V0.heap.size < V1.heap.size := by obtain ⟨_, Rw, _⟩ := QH.row; exact Rw.lt
      generalize V0.heap.size = gh at *
      replace M := M.trans kN
      clear kN
      refine wpG.two 2 7 (by kernel_rfl) ?_ ?_
      · skip
        obtain ⟨V2, hm, QI, kN⟩ := hmI V1
        refine wpOp_run (some 16) _ V2 (by rfl) (by rfl) (by rfl) (exec_make (by rfl) (by rfl) (by rfl) hm) ⟨fun _ => trivial, ?_⟩
        simp only [Act.put, List.setIfInBounds_toArray, List.set_cons_zero, List.set_cons_succ]
        clear hm
        have hI0 := M.size
        have hI1 : V1.heap.size < V2.heap.size := by obtain ⟨_, Rw, _⟩ := QI.row; exact Rw.lt
        have dBA := hH1
        replace hH1 := Nat.lt_of_lt_of_le hH1 kN.size
        generalize V1.heap.size = gi at *
        replace QH := QH.after kN
        replace M := M.trans kN
        clear kN
        refine wpG.two 6 7 (by kernel_rfl) ?_ ?_
        · skip
          refine wpOp_run (some 20) (.agg (allC gi gh t.length)) _ (by rfl) (by rfl) (by rfl) (exec_build3 (by rfl) (by rfl) (by rfl) (by rfl) (run_buildA _ _ _ _ _ _ _)) ⟨fun _ => trivial, ?_⟩
          simp only [Act.put, List.setIfInBounds_toArray, List.set_cons_zero, List.set_cons_succ]
          refine wpG.one 7 (by kernel_rfl) ?_
          have kN : New V2 (V2.alloc (.cells allZ 37)) := (New.refl V2).alloc _
          refine wpOp_run (some 3) (.pointer (some ⟨V2.heap.size, 0, none⟩)) _ (by rfl) (by rfl) (by rfl) (No.exec_alloc (by rfl) infoA) ⟨fun _ => trivial, ?_⟩
          simp only [Act.put, List.setIfInBounds_toArray, List.set_cons_zero, List.set_cons_succ]
          have RA : Row _ _ allZ 37 := Row.new V2 allZ 37
          have hA0 := M.size
          change wpG _ _ _ _ _ _ _ _ _ (V2.alloc (.cells allZ 37))
          have dBC := hH1
          replace hH1 := Nat.lt_of_lt_of_le hH1 kN.size
          have dAC := hI1
          replace hI1 := Nat.lt_of_lt_of_le hI1 kN.size
          generalize V2.alloc (.cells allZ 37) = V3 at *
          have hA1 := RA.lt
          generalize V2.heap.size = ga at *
          replace QH := QH.after kN
          replace QI := QI.after kN
          replace M := M.trans kN
          clear kN
          refine wpG.pre (by kernel_rfl) [] _ _ _ (by kernel_rfl) (wpPre_nil ?_)
          simp only [pick, List.getElem?_cons_succ, List.getElem?_cons_zero, Option.toList_some, List.cons_append, List.nil_append]
          refine wpList_store_new (by rfl) 37 _ _ (by rfl) ga (allC gi gh t.length) (by rfl) (by rfl) 37 allZ RA iA rfl (allC_one _ _ _) ?_
          intro W9 R9 B9
          have hsz := B9.size
          go_wp2_with fail
          go_meet
          case rel => exact ⟨ga, gi, gh, rfl, R9, QI.but B9 (by show ¬ ga = gi; omega), QH.but B9 (by show ¬ ga = gh; omega), by omega, by omega, by omega, hA0, hI0, hH0, by omega, by omega, B9.new M hA0⟩
        · skip
          have kN : New V2 (V2.alloc (.cells allZ 37)) := (New.refl V2).alloc _
          refine wpOp_run (some 3) (.pointer (some ⟨V2.heap.size, 0, none⟩)) _ (by rfl) (by rfl) (by rfl) (No.exec_alloc (by rfl) infoA) ⟨fun _ => trivial, ?_⟩
          simp only [Act.put, List.setIfInBounds_toArray, List.set_cons_zero, List.set_cons_succ]
          have RA : Row _ _ allZ 37 := Row.new V2 allZ 37
          have hA0 := M.size
          change wpG _ _ _ _ _ _ _ _ _ (V2.alloc (.cells allZ 37))
          have dBC := hH1
          replace hH1 := Nat.lt_of_lt_of_le hH1 kN.size
          have dAC := hI1
          replace hI1 := Nat.lt_of_lt_of_le hI1 kN.size
          generalize V2.alloc (.cells allZ 37) = V3 at *
          have hA1 := RA.lt
          generalize V2.heap.size = ga at *
          replace QH := QH.after kN
          replace QI := QI.after kN
          replace M := M.trans kN
          clear kN
          refine wpG.one 6 (by kernel_rfl) ?_
          refine wpOp_run (some 20) (.agg (allC gi gh t.length)) _ (by rfl) (by rfl) (by rfl) (exec_build3 (by rfl) (by rfl) (by rfl) (by rfl) (run_buildA _ _ _ _ _ _ _)) ⟨fun _ => trivial, ?_⟩
          simp only [Act.put, List.setIfInBounds_toArray, List.set_cons_zero, List.set_cons_succ]
          refine wpG.pre (by kernel_rfl) [] _ _ _ (by kernel_rfl) (wpPre_nil ?_)
          simp only [pick, List.getElem?_cons_succ, List.getElem?_cons_zero, Option.toList_some, List.cons_append, List.nil_append]
          refine wpList_store_new (by rfl) 37 _ _ (by rfl) ga (allC gi gh t.length) (by rfl) (by rfl) 37 allZ RA iA rfl (allC_one _ _ _) ?_
          intro W9 R9 B9
          have hsz := B9.size
          go_wp2_with fail
          go_meet
          case rel => exact ⟨ga, gi, gh, rfl, R9, QI.but B9 (by show ¬ ga = gi; omega), QH.but B9 (by show ¬ ga = gh; omega), by omega, by omega, by omega, hA0, hI0, hH0, by omega, by omega, B9.new M hA0⟩
      · skip
        have kN : New V1 (V1.alloc (.cells allZ 37)) := (New.refl V1).alloc _
        refine wpOp_run (some 3) (.pointer (some ⟨V1.heap.size, 0, none⟩)) _ (by rfl) (by rfl) (by rfl) (No.exec_alloc (by rfl) infoA) ⟨fun _ => trivial, ?_⟩
        simp only [Act.put, List.setIfInBounds_toArray, List.set_cons_zero, List.set_cons_succ]
        have RA : Row _ _ allZ 37 := Row.new V1 allZ 37
        have hA0 := M.size
        change wpG _ _ _ _ _ _ _ _ _ (V1.alloc (.cells allZ 37))
        have dBC := hH1
        replace hH1 := Nat.lt_of_lt_of_le hH1 kN.size
        generalize V1.alloc (.cells allZ 37) = V2 at *
        have hA1 := RA.lt
        generalize V1.heap.size = ga at *
        replace QH := QH.after kN
        replace M := M.trans kN
        clear kN
        refine wpG.one 2 (by kernel_rfl) ?_
        obtain ⟨V3, hm, QI, kN⟩ := hmI V2
        refine wpOp_run (some 16) _ V3 (by rfl) (by rfl) (by rfl) (exec_make (by rfl) (by rfl) (by rfl) hm) ⟨fun _ => trivial, ?_⟩
        simp only [Act.put, List.setIfInBounds_toArray, List.set_cons_zero, List.set_cons_succ]
        clear hm
        have hI0 := M.size
        have hI1 : V2.heap.size < V3.heap.size := by obtain ⟨_, Rw, _⟩ := QI.row; exact Rw.lt
        have dBA := hH1
        replace hH1 := Nat.lt_of_lt_of_le hH1 kN.size
        have dCA := hA1
        replace hA1 := Nat.lt_of_lt_of_le hA1 kN.size
        generalize V2.heap.size = gi at *
        replace QH := QH.after kN
        replace RA := RA.after kN
        replace M := M.trans kN
        clear kN
        refine wpG.one 6 (by kernel_rfl) ?_
        refine wpOp_run (some 20) (.agg (allC gi gh t.length)) _ (by rfl) (by rfl) (by rfl) (exec_build3 (by rfl) (by rfl) (by rfl) (by rfl) (run_buildA _ _ _ _ _ _ _)) ⟨fun _ => trivial, ?_⟩
        simp only [Act.put, List.setIfInBounds_toArray, List.set_cons_zero, List.set_cons_succ]
        refine wpG.pre (by kernel_rfl) [] _ _ _ (by kernel_rfl) (wpPre_nil ?_)
        simp only [pick, List.getElem?_cons_succ, List.getElem?_cons_zero, Option.toList_some, List.cons_append, List.nil_append]
        refine wpList_store_new (by rfl) 37 _ _ (by rfl) ga (allC gi gh t.length) (by rfl) (by rfl) 37 allZ RA iA rfl (allC_one _ _ _) ?_
        intro W9 R9 B9
        have hsz := B9.size
        go_wp2_with fail
        go_meet
        case rel => exact ⟨ga, gi, gh, rfl, R9, QI.but B9 (by show ¬ ga = gi; omega), QH.but B9 (by show ¬ ga = gh; omega), by omega, by omega, by omega, hA0, hI0, hH0, by omega, by omega, B9.new M hA0⟩
    · skip
      have kN : New V0 (V0.alloc (.cells allZ 37)) := (New.refl V0).alloc _
      refine wpOp_run (some 3) (.pointer (some ⟨V0.heap.size, 0, none⟩)) _ (by rfl) (by rfl) (by rfl) (No.exec_alloc (by rfl) infoA) ⟨fun _ => trivial, ?_⟩
      simp only [Act.put, List.setIfInBounds_toArray, List.set_cons_zero, List.set_cons_succ]
      have RA : Row _ _ allZ 37 := Row.new V0 allZ 37
      have hA0 := M.size
      change wpG _ _ _ _ _ _ _ _ _ (V0.alloc (.cells allZ 37))
      generalize V0.alloc (.cells allZ 37) = V1 at *
      have hA1 := RA.lt
      generalize V0.heap.size = ga at *
      replace M := M.trans kN
      clear kN
      refine wpG.two 2 5 (by kernel_rfl) ?_ ?_
      · skip
        obtain ⟨V2, hm, QI, kN⟩ := hmI V1
        refine wpOp_run (some 16) _ V2 (by rfl) (by rfl) (by rfl) (exec_make (by rfl) (by rfl) (by rfl) hm) ⟨fun _ => trivial, ?_⟩
        simp only [Act.put, List.setIfInBounds_toArray, List.set_cons_zero, List.set_cons_succ]
        clear hm
        have hI0 := M.size
        have hI1 : V1.heap.size < V2.heap.size := by obtain ⟨_, Rw, _⟩ := QI.row; exact Rw.lt
        have dCA := hA1
        replace hA1 := Nat.lt_of_lt_of_le hA1 kN.size
        generalize V1.heap.size = gi at *
        replace RA := RA.after kN
        replace M := M.trans kN
        clear kN
        refine wpG.one 5 (by kernel_rfl) ?_
        obtain ⟨V3, hm, QH, kN⟩ := hmH V2
        refine wpOp_run (some 19) _ V3 (by rfl) (by rfl) (by rfl) (exec_make (by rfl) (by rfl) (by rfl) hm) ⟨fun _ => trivial, ?_⟩
        simp only [Act.put, List.setIfInBounds_toArray, List.set_cons_zero, List.set_cons_succ]
        clear hm
        have hH0 := M.size
        have hH1 : V2.heap.size < V3.heap.size := by obtain ⟨_, Rw, _⟩ := QH.row; exact Rw.lt
        have dCB := hA1
        replace hA1 := Nat.lt_of_lt_of_le hA1 kN.size
        have dAB := hI1
        replace hI1 := Nat.lt_of_lt_of_le hI1 kN.size
        generalize V2.heap.size = gh at *
        replace RA := RA.after kN
        replace QI := QI.after kN
        replace M := M.trans kN
        clear kN
        refine wpG.one 6 (by kernel_rfl) ?_
        refine wpOp_run (some 20) (.agg (allC gi gh t.length)) _ (by rfl) (by rfl) (by rfl) (exec_build3 (by rfl) (by rfl) (by rfl) (by rfl) (run_buildA _ _ _ _ _ _ _)) ⟨fun _ => trivial, ?_⟩
        simp only [Act.put, List.setIfInBounds_toArray, List.set_cons_zero, List.set_cons_succ]
        refine wpG.pre (by kernel_rfl) [] _ _ _ (by kernel_rfl) (wpPre_nil ?_)
        simp only [pick, List.getElem?_cons_succ, List.getElem?_cons_zero, Option.toList_some, List.cons_append, List.nil_append]
        refine wpList_store_new (by rfl) 37 _ _ (by rfl) ga (allC gi gh t.length) (by rfl) (by rfl) 37 allZ RA iA rfl (allC_one _ _ _) ?_
        intro W9 R9 B9
        have hsz := B9.size
        go_wp2_with fail
        go_meet
        case rel => exact ⟨ga, gi, gh, rfl, R9, QI.but B9 (by show ¬ ga = gi; omega), QH.but B9 (by show ¬ ga = gh; omega), by omega, by omega, by omega, hA0, hI0, hH0, by omega, by omega, B9.new M hA0⟩
      · skip
        obtain ⟨V2, hm, QH, kN⟩ := hmH V1
        refine wpOp_run (some 19) _ V2 (by rfl) (by rfl) (by rfl) (exec_make (by rfl) (by rfl) (by rfl) hm) ⟨fun _ => trivial, ?_⟩
        simp only [Act.put, List.setIfInBounds_toArray, List.set_cons_zero, List.set_cons_succ]
        clear hm
        have hH0 := M.size
        have hH1 : V1.heap.size < V2.heap.size := by obtain ⟨_, Rw, _⟩ := QH.row; exact Rw.lt
        have dCB := hA1
        replace hA1 := Nat.lt_of_lt_of_le hA1 kN.size
        generalize V1.heap.size = gh at *
        replace RA := RA.after kN
        replace M := M.trans kN
        clear kN
        refine wpG.one 2 (by kernel_rfl) ?_
        obtain ⟨V3, hm, QI, kN⟩ := hmI V2
        refine wpOp_run (some 16) _ V3 (by rfl) (by rfl) (by rfl) (exec_make (by rfl) (by rfl) (by rfl) hm) ⟨fun _ => trivial, ?_⟩
        simp only [Act.put, List.setIfInBounds_toArray, List.set_cons_zero, List.set_cons_succ]
        clear hm
        have hI0 := M.size
        have hI1 : V2.heap.size < V3.heap.size := by obtain ⟨_, Rw, _⟩ := QI.row; exact Rw.lt
        have dCA := hA1
        replace hA1 := Nat.lt_of_lt_of_le hA1 kN.size
        have dBA := hH1
        replace hH1 := Nat.lt_of_lt_of_le hH1 kN.size
        generalize V2.heap.size = gi at *
        replace RA := RA.after kN
        replace QH := QH.after kN
        replace M := M.trans kN
        clear kN
        refine wpG.one 6 (by kernel_rfl) ?_
        refine wpOp_run (some 20) (.agg (allC gi gh t.length)) _ (by rfl) (by rfl) (by rfl) (exec_build3 (by rfl) (by rfl) (by rfl) (by rfl) (run_buildA _ _ _ _ _ _ _)) ⟨fun _ => trivial, ?_⟩
        simp only [Act.put, List.setIfInBounds_toArray, List.set_cons_zero, List.set_cons_succ]
        refine wpG.pre (by kernel_rfl) [] _ _ _ (by kernel_rfl) (wpPre_nil ?_)
        simp only [pick, List.getElem?_cons_succ, List.getElem?_cons_zero, Option.toList_some, List.cons_append, List.nil_append]
        refine wpList_store_new (by rfl) 37 _ _ (by rfl) ga (allC gi gh t.length) (by rfl) (by rfl) 37 allZ RA iA rfl (allC_one _ _ _) ?_
        intro W9 R9 B9
        have hsz := B9.size
        go_wp2_with fail
        go_meet
        case rel => exact ⟨ga, gi, gh, rfl, R9, QI.but B9 (by show ¬ ga = gi; omega), QH.but B9 (by show ¬ ga = gh; omega), by omega, by omega, by omega, hA0, hI0, hH0, by omega, by omega, B9.new M hA0⟩
  obtain ⟨GA, GI, GH, rfl, RA, QI, QH, hai, hah, hih, ha2, hi2, hh2, hiB, hhB, N3⟩ := hcut
  have hst := Dg.start_any
  have hco := Dg.constants_any
  have HR3 := HR.out.after N3
  have N13 := N12.trans N3
  clear hmI hmH HR N12
  case rest =>
    go_wp2_with fail
    refine (hst _).mono ?_
    rintro _ W4 ⟨rfl, N4⟩
    have N4 : New wc W4 := N4
    go_wp2_with fail
    refine (hco _).mono ?_
    rintro _ W5 ⟨rfl, N5⟩
    have N5 : New W4 W5 := N5
    have N45 := N4.trans N5
    clear hst hco N4 N5
    go_wp2_with (first
      | (refine wpList_alloc_at (by rfl) 4 (by rfl) 67 (by rfl) _ _ _ infoS ?_; intro W6 R6 N6)
      | (refine wpList_alloc_at (by rfl) 5 (by rfl) 69 (by rfl) _ _ _ infoC ?_; intro W7 R7 N7; have R6' := R6.after N7)
      | (refine wpList_store_new (by rfl) 67 _ _ (by rfl) W5.heap.size (Dg.cw Dg.firstN.list) (by rfl) (by rfl) 67 _ R6' iS rfl (cw_one _) ?_; intro W8 R8 B8; have R7' := R7.but B8 (by have := R6.lt; omega))
      | (refine wpList_store_new (by rfl) 69 _ _ (by rfl) W6.heap.size (Dg.cw Dg.roundsN) (by rfl) (by rfl) 69 _ R7' (by rw [Dg.cw_size, Dg.roundsN_length]; exact iC) (by rw [Dg.cw_size, Dg.cw_size, Dg.roundsN_length]; rfl) (cw_one _) ?_; intro W9 R9 B9; have R8' := R8.but B9 (by have := R6.lt; omega)))
    have N59 : New W5 W9 := B9.new (B8.new (N6.trans N7) (Nat.le_refl _)) N6.size
    have hsz5 := N45.size
    have hs56 := R6.lt
    have hs69 := R9.lt
    have M39 := N45.trans N59
    have N : New w W9 := N13.trans M39
    have FAR : Far GR GA GI GH W5.heap.size W6.heap.size W9.heap.size := by
      have := RA.lt; have := HR3.lt
      exact ⟨by omega, by omega, by omega, by omega, by omega, by omega, by omega, by omega, by omega, by omega, by omega, by omega, by omega, by omega, by omega⟩
    have HF : Hid (Far GR GA GI GH W5.heap.size W6.heap.size W9.heap.size) := FAR
    have HS0 : Hid (RSt t GR GA GI GH W5.heap.size W6.heap.size W9.heap.size t.length t.length W9) := RSt.start (HR3.after M39) (RA.after M39) R8' R9 (QI.after M39) (QH.after M39)
    have HLW : Hid (w.heap.size ≤ GI ∧ w.heap.size ≤ GH ∧ w.heap.size ≤ GR) := by have := HGR.out; refine ⟨?_, ?_, ?_⟩ <;> omega
    clear N59 hsz5 hs56 hs69 M39 N13 FAR HR3 RA QI QH N3 N45 N6 N7 R6 R6' R7 R7' R8 R8' R9 B8 B9 hai hah hih ha2 hi2 hh2 hiB hhB HGW hgr2
    generalize W5.heap.size = GS at *
    generalize W6.heap.size = GC at *
    have HB9 : Hid (W9.heap.size ≤ W9.heap.size) := Nat.le_refl _
    generalize hBB : W9.heap.size = B at *
    have HB9 : Hid (B ≤ W9.heap.size) := by show _ ≤ _; omega
    clear hBB
    go_loopw [6] (fun s wr => ∃ b : Nat, b ≤ t.length ∧ s = .int .i64 ((b : Int) - 1) ∧ Hid (RSt t GR GA GI GH GS GC B b b wr) ∧ New w wr ∧ B ≤ wr.heap.size) (fun s _ => (intOf s + 1).toNat)
    case atStart => exact ⟨t.length, Nat.le_refl _, rfl, HS0.out, N, HB9.out⟩
    case round =>
      clear HS0 N
      obtain ⟨b, hbl, rfl, hS, N, hBw⟩ := hrel
      obtain ⟨wq, rfl⟩ : ∃ wq, wq = wr := ⟨_, rfl⟩
      by_cases hb0 : 0 < b
      · obtain ⟨k, rfl⟩ : ∃ k, b = k + 1 := ⟨b - 1, by omega⟩
        have hkl : k < t.length := by omega
        have hkn : (k : Int) < (t.length : Int) := by omega
        rw [show (((k + 1 : Nat) : Int) - 1) = (k : Int) by omega]
        have hm := List.getElem?_eq_getElem hkl
        obtain ⟨m, hmm⟩ : ∃ m, t[k] = m := ⟨_, rfl⟩
        rw [hmm] at hm
        have RT := ok_rt HOK.out
        have hk16 := RT.k16 m (List.mem_of_getElem? hm)
        have HKD : Hid (∀ x ∈ nz m.kids, ∃ j : Nat, x = (j : Int) ∧ k < j ∧ j < t.length) := RT.kd.kid k m hm
        have HGD : Hid (No.goodI (itW m (HL t)) = true) := RT.good hm
        have HHH : Hid ((HL t).getD k [] = No.hashB (itW m (HL t))) := getD_some (HL_at RT.kd hm)
        have HTM : Hid (t[k]? = some m) := hm
        obtain ⟨g, o, rfl, hg, hr⟩ := HS.out (by omega)
        have R2 := hr wq N k hkl
        rw [getD_some hm] at R2
        have hml : (ndC m).length = 20 := ndC_len hk16
        have hnA : (ndA m).size = 20 := ndA_size hk16
        clear hm hmm RT hr
        go_wp2_with (first
          | refine wpList_load_mid (by rfl) 55 _ (by rfl) g (o + k * 20) (by rfl) (ndC m) _ R2 Tryd.underlying55 rfl (by rw [hml]; exact i49) ?_
          | (refine wpList_alloc_at (by rfl) 7 (by rfl) 55 (by rfl) _ _ _ info49 ?_; intro W1 R1 N1)
          | (refine wpList_store_new (by rfl) 55 _ _ (by rfl) wq.heap.size (ndA m) (by rfl) (by rfl) 55 _ R1 (by rw [hnA]; exact i49) (by rw [hnA]; rfl) (ndA_all m) ?_; intro W2 R2' B2; have y0 : W2.cell? ⟨wq.heap.size, 0, none⟩ = some (.int .i64 m.kind) := R2'.has 0 rfl; have y1 : W2.cell? ⟨wq.heap.size, 1, none⟩ = some (.string (bs m.path)) := R2'.has 1 rfl; have y2 : W2.cell? ⟨wq.heap.size, 2, none⟩ = some (.bool m.has) := R2'.has 2 rfl; have y3 : W2.cell? ⟨wq.heap.size, 3, none⟩ = some (.string (bs m.val)) := R2'.has 3 rfl))
        have N2 : New wq W2 := B2.new N1 (Nat.le_refl _)
        have hg7 : wq.heap.size < W2.heap.size := R2'.lt
        have RX : Row (W2.alloc (.cells #[.int .i64 m.kind, .string (bs m.path), .bool m.has, .string (bs m.val), .int .i64 0, .slice none 0 0] 32)) W2.heap.size (itR m (maskT m.kids 0) (.slice none 0 0)) 32 := Row.new _ _ _
        have NX : New W2 (W2.alloc (.cells #[.int .i64 m.kind, .string (bs m.path), .bool m.has, .string (bs m.val), .int .i64 0, .slice none 0 0] 32)) := (New.refl W2).alloc _
        generalize W2.alloc (.cells #[.int .i64 m.kind, .string (bs m.path), .bool m.has, .string (bs m.val), .int .i64 0, .slice none 0 0] 32) = W3 at *
        have HRX : Hid (Row W3 W2.heap.size (itR m (maskT m.kids 0) (.slice none 0 0)) 32) := RX
        have HRN : Hid (Row W3 wq.heap.size (ndA m) 55) := R2'.after NX
        have NW3 : New wq W3 := N2.trans NX
        have HN : Hid (New w wq) := N
        have HB7 : Hid (B ≤ wq.heap.size ∧ wq.heap.size ≤ wq.heap.size) := ⟨hBw, Nat.le_refl _⟩
        clear R1 N1 R2' B2 N2 RX NX y0 y1 y2 y3 R2 hml
        generalize W2.heap.size = G8 at *
        generalize h77 : wq.heap.size = G7 at *
        have H77 : Hid (wq.heap.size = G7) := h77
        clear h77
        go_loopw [9] (fun s wz => ∃ (cc : Nat) (sv : Value), cc ≤ 16 ∧ s = .int .i64 (cc : Int) ∧ Hid (Row wz G8 (itR m (maskT m.kids cc) sv) 32) ∧ Hid (Pl wz (fun b => G8 < b) 9 1 sv ((kidH (HL t) (m.kids.take cc)).map txC)) ∧ Hid (Row wz G7 (ndA m) 55) ∧ New wq wz) (fun s _ => 16 - (intOf s).toNat)
        case atStart => exact ⟨0, _, by omega, rfl, HRX.out, Pl.nil _ _ _ _, HRN.out, NW3⟩
        case round =>
          clear HRX HRN NW3
          obtain ⟨cc, sv, hcc, rfl, hR, hQ, hK, Nz⟩ := hrel
          by_cases hc16 : cc < 16
          · have hc16' : (cc : Int) < 16 := by omega
            obtain ⟨x, hx⟩ : ∃ x, m.kids[cc]? = some x := ⟨m.kids[cc]'(by omega), List.getElem?_eq_getElem (by omega)⟩
            have cx := nd_kids hK.out hk16 cc (.int .i64 x) (by rw [List.getElem?_map, hx]; rfl)
            by_cases h0 : x = 0
            · subst h0
              obtain ⟨e1, e2⟩ := kidH_zero (hs := HL t) hx
              have HE : Hid (kidH (HL t) (m.kids.take (cc + 1)) = kidH (HL t) (m.kids.take cc) ∧ maskT m.kids (cc + 1) = maskT m.kids cc) := ⟨e1, e2⟩
              have hxb : ((0 : Int) != 0) = false := rfl
              clear hx e1 e2
              go_wp2_with fail
              exact ⟨⟨cc + 1, sv, by omega, by go_num, by show Row _ _ _ _; rw [HE.out.2]; exact hR.out, by show Pl _ _ _ _ _ _; rw [HE.out.1]; exact hQ.out, hK.out, Nz⟩, by simp [intOf]; omega⟩
            · obtain ⟨j, rfl, hkj, hjl⟩ := HKD.out x (mem_nz.2 ⟨List.mem_of_getElem? hx, h0⟩)
              have hxb : ((j : Int) != 0) = true := by rw [bne_iff_ne]; exact h0
              obtain ⟨e1, e2⟩ := kidH_more (hs := HL t) hx h0
              rw [Int.toNat_natCast] at e1
              have HE : Hid (kidH (HL t) (m.kids.take (cc + 1)) = kidH (HL t) (m.kids.take cc) ++ [(HL t).getD j []] ∧ maskT m.kids (cc + 1) = maskT m.kids cc + 2 ^ cc) := ⟨e1, e2⟩
              have hmlt := maskT_lt m.kids cc
              have hkl2 := kidH_le (ks := m.kids) (hs := HL t) cc
              have Sz := hS.out.after Nz
              have ga1 : wr.cell? ⟨GA, 1, none⟩ = some (.slice (some ⟨GH, 0, none⟩) t.length t.length) := Sz.ra.has 1 rfl
              have gh1 : wr.cell? ⟨GH, j, none⟩ = some (.string (bs ((HL t).getD j []))) := by
                have := tx_at Sz.qh (k := j) (by rw [partL_len]; exact hjl)
                rwa [partL_in t hjl (by omega) hjl] at this
              have hgs : GA < G7 ∧ GH < G7 := ⟨by have := HF.out.a; have := HB7.out.1; omega, by have := HF.out.h; have := HB7.out.1; omega⟩
              have f1 : ∀ V, New wr V → V.cell? ⟨GA, 1, none⟩ = some (.slice (some ⟨GH, 0, none⟩) t.length t.length) := fun V k => (k.cell (World.block_lt_of_cell? wr _ ga1)).trans ga1
              clear hx e1 e2 h0 Sz
              generalize (HL t).getD j [] = hj at *
              generalize maskT m.kids cc = mk at *
              obtain ⟨av, cv, rfl, hcv⟩ := hQ.out.form
              have c4 : wr.cell? ⟨G8, 4, none⟩ = some (.int .i64 (mk : Int)) := hR.out.has 4 rfl
              have hkl' : ((kidH (HL t) (m.kids.take cc)).map txC).length ≤ 16 := by rw [List.length_map]; omega
              generalize kidH (HL t) (m.kids.take cc) = kh at *
              obtain ⟨nh, hnh⟩ : ∃ nh, (kh.map txC).length = nh := ⟨_, rfl⟩
              rw [hnh] at hcv hkl' hR hQ
              have f4 := hR.out.frozen 4
              have hor := bit_or mk cc hmlt hc16
              obtain ⟨sh, hshj⟩ : ∃ sh, bs hj = sh := ⟨_, rfl⟩
              have HSH : Hid (bs hj = sh) := hshj
              rw [hshj] at gh1
              obtain ⟨pk, hpk⟩ : ∃ pk, 2 ^ cc = pk := ⟨_, rfl⟩
              have hpk15 : pk ≤ 2 ^ 15 := by rw [← hpk]; exact Nat.pow_le_pow_right (by decide) (by omega)
              have hw : wrap64 ((2 : Int) ^ cc) = (pk : Int) := by
                rw [show ((2 : Int) ^ cc) = ((2 ^ cc : Nat) : Int) by norm_cast, hpk]
                unfold wrap64
                omega
              rw [hpk] at hor HE
              obtain ⟨mq, hmq⟩ : ∃ mq, mk + pk = mq := ⟨_, rfl⟩
              rw [hmq] at hor HE
              have hjn : (j : Int) < (t.length : Int) := by omega
              clear hpk hpk15 hmlt hmq hshj hkl2
              go_upto_region 15 with fail
              have HR4 : Hid (Row (wr.setCell ⟨G8, 4, none⟩ (.int .i64 (mq : Int))) G8 (itR m mq (.slice av nh cv)) 32) := hR.out.set 4 _
              have HQ4 : Hid (Pl (wr.setCell ⟨G8, 4, none⟩ (.int .i64 (mq : Int))) (fun b => G8 < b) 9 1 (.slice av nh cv) (kh.map txC)) := hQ.out.of (fun b hb _ => Below.heap_setCell _ _ _ _ (by show b ≠ G8; omega)) (fun b hb _ => hb)
              have HK4 : Hid (Row (wr.setCell ⟨G8, 4, none⟩ (.int .i64 (mq : Int))) G7 (ndA m) 55) := hK.out.of (Below.heap_setCell _ _ _ _ (by show G7 ≠ G8; omega))
              have e4 : ∀ b o, b ≠ G8 → (wr.setCell ⟨G8, 4, none⟩ (.int .i64 (mq : Int))).cell? ⟨b, o, none⟩ = wr.cell? ⟨b, o, none⟩ := fun b o h => by
                have := Below.heap_setCell wr ⟨G8, 4, none⟩ (.int .i64 (mq : Int)) b h
                unfold World.cell?
                rw [this]
              have a1 := (e4 GA 1 (by omega)).trans ga1
              have a2 := (e4 GH j (by omega)).trans gh1
              have a3 := (e4 G7 (4 + cc) (by omega)).trans cx
              have N4' : New wq (wr.setCell ⟨G8, 4, none⟩ (.int .i64 (mq : Int))) := Nz.setCell (a := ⟨G8, 4, none⟩) (by have := H77.out; show wq.heap.size ≤ G8; omega) _
              have N4d := N4'.trans (New.drew _)
              have HR5 : Hid (Row (wr.setCell ⟨G8, 4, none⟩ (.int .i64 (mq : Int))).drew G8 (itR m mq (.slice av nh cv)) 32) := HR4.out.after (New.drew _)
              have HQ5 : Hid (Pl (wr.setCell ⟨G8, 4, none⟩ (.int .i64 (mq : Int))).drew (fun b => G8 < b) 9 1 (.slice av nh cv) (kh.map txC)) := HQ4.out.after (New.drew _)
              have HK5 : Hid (Row (wr.setCell ⟨G8, 4, none⟩ (.int .i64 (mq : Int))).drew G7 (ndA m) 55) := HK4.out.after (New.drew _)
              have hS4 : HasFour ⟨G8, 5, none⟩ ⟨GA, 1, none⟩ ⟨G7, 4 + cc, none⟩ ⟨GH, j, none⟩ (.slice av nh cv) (.slice (some ⟨GH, 0, none⟩) t.length t.length) (.int .i64 (j : Int)) (.string sh) (wr.setCell ⟨G8, 4, none⟩ (.int .i64 (mq : Int))).drew := HasFour.of (HR5.out.has 5 rfl) a1 a3 a2
              refine region_take [0, 1, 2, 3, 4, 5, 6, 7, 8, 9] [10, 11, 12] 13 (HasFour ⟨G8, 5, none⟩ ⟨GA, 1, none⟩ ⟨G7, 4 + cc, none⟩ ⟨GH, j, none⟩ (.slice av nh cv) (.slice (some ⟨GH, 0, none⟩) t.length t.length) (.int .i64 (j : Int)) (.string sh)) hS4 (by kernel_rfl) (by kernel_rfl) (fun d _ _ _ _ h => by cases d <;> exact h) ?_
              simp only [pick, List.getElem?_cons_succ, List.getElem?_cons_zero, Option.toList_some, List.cons_append, List.nil_append]
              clear f1 c4 f4 hor hw ga1 gh1 cx e4 a1 a2 a3 hR hQ hK Nz HR4 HQ4 HK4 N4'
              generalize (wr.setCell ⟨G8, 4, none⟩ (.int .i64 (mq : Int))).drew = V at *
              have hne : Nonempty (FourW ⟨G8, 5, none⟩ ⟨GA, 1, none⟩ ⟨G7, 4 + cc, none⟩ ⟨GH, j, none⟩ (.slice av nh cv) (.slice (some ⟨GH, 0, none⟩) t.length t.length) (.int .i64 (j : Int)) (.string sh)) := ⟨hS4.choose⟩
              have q1 : ∀ q : FourW ⟨G8, 5, none⟩ ⟨GA, 1, none⟩ ⟨G7, 4 + cc, none⟩ ⟨GH, j, none⟩ (.slice av nh cv) (.slice (some ⟨GH, 0, none⟩) t.length t.length) (.int .i64 (j : Int)) (.string sh), q.v.cell? ⟨G8, 5, none⟩ = some (.slice av nh cv) := fun q => q.hp
              have q2 : ∀ q : FourW ⟨G8, 5, none⟩ ⟨GA, 1, none⟩ ⟨G7, 4 + cc, none⟩ ⟨GH, j, none⟩ (.slice av nh cv) (.slice (some ⟨GH, 0, none⟩) t.length t.length) (.int .i64 (j : Int)) (.string sh), q.v.cell? ⟨GA, 1, none⟩ = some (.slice (some ⟨GH, 0, none⟩) t.length t.length) := fun q => q.hq
              have q3 : ∀ q : FourW ⟨G8, 5, none⟩ ⟨GA, 1, none⟩ ⟨G7, 4 + cc, none⟩ ⟨GH, j, none⟩ (.slice av nh cv) (.slice (some ⟨GH, 0, none⟩) t.length t.length) (.int .i64 (j : Int)) (.string sh), q.v.cell? ⟨G7, 4 + cc, none⟩ = some (.int .i64 (j : Int)) := fun q => q.hr
              have q4 : ∀ q : FourW ⟨G8, 5, none⟩ ⟨GA, 1, none⟩ ⟨G7, 4 + cc, none⟩ ⟨GH, j, none⟩ (.slice av nh cv) (.slice (some ⟨GH, 0, none⟩) t.length t.length) (.int .i64 (j : Int)) (.string sh), q.v.cell? ⟨GH, j, none⟩ = some (.string sh) := fun q => q.hs
              unfold HasFour
              repeat (go_big_quiet_step (fail))
              refine wpQuiet_nil ?_
              clear hne q1 q2 q3 q4
              have hb1 := run_buildCell (P := Tryd.prog) V 28 9 (.string sh) _ _ Tryd.underlying28 info9 rfl
              have b1 : V.cell? ⟨G8, 5, none⟩ = some (.slice av nh cv) := HR5.out.has 5 rfl
              have b3 : V.cell? ⟨G7, 4 + cc, none⟩ = some (.int .i64 (j : Int)) := by obtain ⟨q, e⟩ := hS4; rw [e]; exact q.hr
              have b2 : V.cell? ⟨GA, 1, none⟩ = some (.slice (some ⟨GH, 0, none⟩) t.length t.length) := by obtain ⟨q, e⟩ := hS4; rw [e]; exact q.hq
              have b4 : V.cell? ⟨GH, j, none⟩ = some (.string sh) := by obtain ⟨q, e⟩ := hS4; rw [e]; exact q.hs
              have hgV : G8 < V.heap.size := HR5.out.lt
              have kA : New V (V.alloc (.cells #[.string sh] 9)) := (New.refl V).alloc _
              have hsV : (V.alloc (.cells #[.string sh] 9)).heap.size = V.heap.size + 1 := by simp
              have hS8 : HasFour ⟨G8, 5, none⟩ ⟨GA, 1, none⟩ ⟨G7, 4 + cc, none⟩ ⟨GH, j, none⟩ (.slice av nh cv) (.slice (some ⟨GH, 0, none⟩) t.length t.length) (.int .i64 (j : Int)) (.string sh) (V.alloc (.cells #[.string sh] 9)) :=
                HasFour.of ((kA.cell (by show G8 < _; omega)).trans b1) ((kA.cell (by show GA < _; omega)).trans b2) ((kA.cell (by show G7 < _; omega)).trans b3) ((kA.cell (by show GH < _; omega)).trans b4)
              refine wpPre_run (some 69) (.slice (some ⟨V.heap.size, 0, none⟩) 1 1) (V.alloc (.cells #[.string sh] 9)) (by rfl) (by rfl) (by rfl) (exec_buildSlice (by rfl) (by rfl) hb1) hS8 ?_
              simp only [Act.put, List.setIfInBounds_toArray, List.set_cons_zero, List.set_cons_succ]
              obtain ⟨g8, c8, W8, hap, Q8, B8⟩ := run_append_pl (HQ5.out.after kA) 28 28 Tryd.underlying28 _ _ info9 rfl (by decide) V.heap.size (txC hj) 9 (by rw [show (txC hj).toArray = #[.string sh] by rw [← HSH.out]; rfl]; exact Row.new V #[.string sh] 9) rfl (txC_one _) (by omega) (by decide)
              rw [hnh] at hap Q8
              have hown : ∀ b, some b = (Value.slice av nh cv).ownBlock → G8 < b := fun b hb => HQ5.out.foot b hb.symm
              have hS9 : HasFour ⟨G8, 5, none⟩ ⟨GA, 1, none⟩ ⟨G7, 4 + cc, none⟩ ⟨GH, j, none⟩ (.slice av nh cv) (.slice (some ⟨GH, 0, none⟩) t.length t.length) (.int .i64 (j : Int)) (.string sh) W8 := by
                obtain ⟨q, e⟩ := hS8
                have z1 := q.hp; have z2 := q.hq; have z3 := q.hr; have z4 := q.hs
                rw [← e] at z1 z2 z3 z4
                exact HasFour.of (B8.cell z1 (fun e => by have := hown _ e; exact absurd this (Nat.lt_irrefl _))) (B8.cell z2 (fun e => by have : G8 < GA := hown _ e; omega)) (B8.cell z3 (fun e => by have : G8 < G7 := hown _ e; omega)) (B8.cell z4 (fun e => by have : G8 < GH := hown _ e; omega))
              refine wpPre_run (some 70) _ W8 (by rfl) (by rfl) (by rfl) (exec_append (by rfl) (by rfl) (by rfl) hap) hS9 ?_
              simp only [Act.put, List.setIfInBounds_toArray, List.set_cons_zero, List.set_cons_succ]
              refine wpPre_run (some 71) (.pointer (some ⟨G8, 5, none⟩)) W8 (by rfl) (by rfl) (by rfl) (exec_fieldAddr5 (by rfl) (by rfl)) hS9 ?_
              simp only [Act.put, List.setIfInBounds_toArray, List.set_cons_zero, List.set_cons_succ]
              refine wpPre_nil ?_
              have R8 : Row W8 G8 (itR m mq (.slice av nh cv)) 32 := (HR5.out.after kA).of (B8.block G8 (by omega) (fun e => by have := hown _ e; omega))
              have R7 : Row W8 G7 (ndA m) 55 := (HK5.out.after kA).of (B8.block G7 (by omega) (fun e => by have := hown _ e; omega))
              have hwq : wq.heap.size = G7 := H77.out
              have N8 : New wq W8 := (N4d.trans kA).grown B8 (fun b hb => by have := hown _ hb.symm; omega)
              have c5' : W8.cell? ⟨G8, 5, none⟩ = some (.slice av nh cv) := R8.has 5 rfl
              have f5' := R8.frozen 5
              have HR9 : Hid (Row (W8.setCell ⟨G8, 5, none⟩ (.slice (some ⟨g8, 0, none⟩) (nh + 1) c8)) G8 (itR m mq (.slice (some ⟨g8, 0, none⟩) (nh + 1) c8)) 32) := R8.set 5 _
              have HK9 : Hid (Row (W8.setCell ⟨G8, 5, none⟩ (.slice (some ⟨g8, 0, none⟩) (nh + 1) c8)) G7 (ndA m) 55) := R7.of (Below.heap_setCell _ _ _ _ (by show G7 ≠ G8; omega))
              have HQ9 : Hid (Pl (W8.setCell ⟨G8, 5, none⟩ (.slice (some ⟨g8, 0, none⟩) (nh + 1) c8)) (fun b => G8 < b) 9 1 (.slice (some ⟨g8, 0, none⟩) (nh + 1) c8) ((kh ++ [hj]).map txC)) := by
                show Pl _ _ _ _ _ _
                rw [List.map_append]
                exact Q8.of (fun b hb _ => Below.heap_setCell _ _ _ _ (by show b ≠ G8; rcases hb with hb | hb <;> omega)) (fun b hb _ => hb.elim id (fun h => by omega))
              have N9 : New wq (W8.setCell ⟨G8, 5, none⟩ (.slice (some ⟨g8, 0, none⟩) (nh + 1) c8)) := N8.setCell (a := ⟨G8, 5, none⟩) (by show wq.heap.size ≤ G8; omega) _
              clear HR5 HQ5 HK5 N4d Q8 B8 hown R8 R7 N8 hsV hap hb1 hS4 hS8 hS9 b1 b2 b3 b4 kA hwq
              go_wp2_with fail
              exact ⟨⟨cc + 1, _, by omega, by go_num, by show Row _ _ _ _; rw [HE.out.2]; exact HR9.out, by show Pl _ _ _ _ _ _; rw [HE.out.1]; exact HQ9.out, HK9.out, N9⟩, by simp [intOf]; omega⟩
          · obtain rfl : cc = 16 := by omega
            have hQ16 := hQ.out
            rw [List.take_of_length_le (by omega)] at hQ16
            have hl : ((kidH (HL t) m.kids).map txC).length = (kidH (HL t) m.kids).length := List.length_map _
            obtain ⟨av, cv, rfl, hcv⟩ := hQ16.form
            have hblk : ∀ x, av = some x → G8 < x.block := hQ16.blk
            have hTx : No.Tx wr av (itW m (HL t)).hs := ls_tx hQ16.ls
            have hRC : Row wr G8 (No.itC (itW m (HL t)) av cv) 32 := by
              have e : itR m (maskT m.kids 16) (.slice av ((kidH (HL t) m.kids).map txC).length cv) = No.itC (itW m (HL t)) av cv := by rw [hl]; rfl
              rw [← e]; exact hR.out
            have S := hS.out.after Nz
            have HGD2 := HGD.out
            have hsm := No.good_small _ HGD2
            have hEn : No.encB (itW m (HL t)) = No.encL (itW m (HL t)) := by unfold No.encB; rw [HGD2, if_pos rfl]
            have hEl := (No.enc_len _ HGD2).1
            have hEl2 := (No.enc_len _ HGD2).2.1
            have hHB : No.hashB (itW m (HL t)) = Dg.ofL (No.encL (itW m (HL t))) := by unfold No.hashB; rw [HGD2, if_pos rfl]
            have hwi : ∀ W, Calls Tryd.prog 36 #[.string (bs (No.encL (itW m (HL t)))), .agg (Dg.cw Dg.firstN.list), .agg (Dg.cw Dg.roundsN)] W fun e w' => e = .returned (.string (bs ((HL t).getD k []))) ∧ New W w' := fun W => by
              have := Dg.with_any (bs (No.encL (itW m (HL t)))) Dg.firstN Dg.roundsN (by rw [bs_size]; omega) Dg.roundsN_length Dg.first_bound W
              rw [HHH.out, hHB]
              exact this
            have hre := fun a c => No.c_renc (itW m (HL t)) hsm a c
            rw [hEn] at hre
            have hre := hre av cv
            have h1 := No.itC_one (itW m (HL t)) av cv
            have hCs : (No.itC (itW m (HL t)) av cv).size = 6 := rfl
            obtain ⟨es, q1, q2, q3⟩ := S.qi
            have ga0 : wr.cell? ⟨GA, 0, none⟩ = some (.slice (some ⟨GI, 0, none⟩) t.length t.length) := S.ra.has 0 rfl
            have hB7 := HB7.out.1
            have HPI := fun W' (hQ' : Pl W' (fun b => b = GI) 32 6 (.slice (some ⟨GI, 0, none⟩) t.length t.length) (es.set k (No.itC (itW m (HL t)) av cv).toList)) (hB : But GI wr W') => S.putItem HF.out q2 q3 hQ' hB HTM.out hTx (fun x hx => by have := hblk x hx; omega)
            have hne := HF.out.i
            have hblk2 : ∀ x, av = some x → G8 < x.block := hblk
            obtain ⟨C, hC⟩ : ∃ C, No.itC (itW m (HL t)) av cv = C := ⟨_, rfl⟩
            have HC : Hid (No.itC (itW m (HL t)) av cv = C) := hC
            rw [hC] at hRC hre h1 hCs HPI
            have hkes : k < es.length := by omega
            have hCo : ∀ v ∈ C.toList, v.oneCell' = true := fun v hv => by rw [Array.all_eq_true_iff_forall_mem] at h1; exact h1 v (Array.mem_toList_iff.1 hv)
            clear hC hQ16 hl hR hQ hK hcv hsm hEn hEl hEl2 hHB h1 hblk hS
            generalize bs (No.encL (itW m (HL t))) = E at *
            obtain ⟨H, hH⟩ : ∃ H, bs ((HL t).getD k []) = H := ⟨_, rfl⟩
            have HH : Hid (bs ((HL t).getD k []) = H) := hH
            rw [hH] at hwi
            clear hH
            go_wp2_with (first
              | refine wpList_load_row (by rfl) 32 _ (by rfl) G8 (by rfl) 32 C (0, 0) _ hRC Tryd.underlying32 rfl (by rw [hCs]; exact No.i24) ?_
              | (refine wpList_store_pl (by rfl) 32 _ _ (by rfl) (fun b => b = GI) 32 6 GI t.length t.length k es C.toList q1 hkes (by rfl) (by rfl) (by rw [Array.length_toList, hCs]) (by rw [Array.toArray_toList, hCs]; exact No.i24) hCo ?_; intro W1 Q1 B1))
            have S1 := HPI W1 Q1 B1
            have RC1 : Row W1 G8 C 32 := hRC.but B1 (by omega)
            have hT1 : No.Tx W1 av (itW m (HL t)).hs := hTx.of fun x hx _ => B1.block _ (by have := hblk2 x hx; omega)
            have NW1 : New w W1 := B1.new (HN.out.trans Nz) HLW.out.1
            have hB1 : B ≤ W1.heap.size := by rw [B1.size]; have := Nz.size; have := H77.out; omega
            have r1 := NewW.cell (W := W1) (g := GA) (o := 1) (v := .slice (some ⟨GH, 0, none⟩) t.length t.length) (S1.ra.has 1 rfl)
            have hne := NewW.ne W1
            have HS1 : Hid (RSt t GR GA GI GH GS GC B k (k + 1) W1) := S1
            have HT1 : Hid (No.Tx W1 av (itW m (HL t)).hs) := hT1
            clear S1 hT1 HPI Q1 B1 q1 q3 ga0 S hRC hTx Nz hCo hblk2
            simp only [Act.put]
            refine region_take [0, 1, 2, 3, 5, 6] [4, 7, 8] 9 (fun w' => ∃ p : NewW W1, w' = p.v) ⟨⟨_, New.drew W1⟩, rfl⟩ (by kernel_rfl) (by kernel_rfl) (fun d _ _ _ _ h => by cases d <;> exact h) ?_
            simp only [pick, List.getElem?_cons_succ, List.getElem?_cons_zero, Option.toList_some, List.cons_append, List.nil_append]
            iterate 3 (go_big_quiet_step (fail))
            refine wpQuiet_load_in (by rfl) 32 _ (by rfl) G8 0 (by rfl) C.toList (row_quiet RC1) _ Tryd.underlying32 rfl (by rw [Array.length_toList, hCs]; exact No.i24) ?_
            refine wpQuiet_load_in (by rfl) 67 _ (by rfl) GS 0 (by rfl) (Dg.cw Dg.firstN.list).toList (row_quiet HS1.out.rs) _ Tryd.underlying67 rfl (by rw [Array.length_toList]; exact iS) ?_
            refine wpQuiet_load_in (by rfl) 69 _ (by rfl) GC 0 (by rfl) (Dg.cw Dg.roundsN).toList (row_quiet HS1.out.rc) _ Tryd.underlying69 rfl (by rw [Array.length_toList, Dg.cw_size, Dg.roundsN_length]; exact iC) ?_
            simp only [Act.put, List.setIfInBounds_toArray, List.set_cons_zero, List.set_cons_succ, Array.toArray_toList]
            refine wpQuiet_nil ?_
            clear r1 hne
            have M0 : New W1 W1.drew := New.drew W1
            refine wpPre_call (some 81) 37 #[.agg C] (by rfl) (by rfl) (by rfl) (by go_simp) ?_
            refine (hre _ (HT1.out.after M0)).mono ?_
            rintro _ V2 ⟨rfl, N2⟩
            have M2 : New W1 V2 := M0.trans N2
            refine ⟨_, rfl, ⟨⟨_, M2⟩, rfl⟩, ?_⟩
            simp only [Act.put, List.setIfInBounds_toArray, List.set_cons_zero, List.set_cons_succ]
            refine wpPre_call (some 84) 36 #[.string E, .agg (Dg.cw Dg.firstN.list), .agg (Dg.cw Dg.roundsN)] (by rfl) (by rfl) (by rfl) (by go_simp) ?_
            refine (hwi _).mono ?_
            rintro _ V3 ⟨rfl, N3⟩
            have M3 : New W1 V3 := M2.trans N3
            refine ⟨_, rfl, ⟨⟨_, M3⟩, rfl⟩, ?_⟩
            simp only [Act.put, List.setIfInBounds_toArray, List.set_cons_zero, List.set_cons_succ]
            refine wpPre_run (some 85) (.pointer (some ⟨GH, k, none⟩)) V3 (by rfl) (by rfl) (by rfl) (exec_indexA (by rfl) (by rfl) (by rfl) hkl) ⟨⟨_, M3⟩, rfl⟩ ?_
            simp only [Act.put, List.setIfInBounds_toArray, List.set_cons_zero, List.set_cons_succ]
            refine wpPre_nil ?_
            have S3 := HS1.out.after M3
            have y5 : V3.cell? ⟨GH, k, none⟩ = some (.string (bs ((partL t (k + 1) t.length).getD k []))) := tx_at S3.qh (by rw [partL_len]; exact hkl)
            have f5 : V3.frozen? ⟨GH, k, none⟩ = false := by
              obtain ⟨cur, Rw, _⟩ := S3.qh.row
              exact Rw.frozen k
            have HS9 : Hid (RSt t GR GA GI GH GS GC B k k (V3.setCell ⟨GH, k, none⟩ (.string H))) := by
              have := S3.putHash HF.out hkl
              rw [HH.out] at this
              exact this
            have N9 : New w (V3.setCell ⟨GH, k, none⟩ (.string H)) := (NW1.trans M3).setCell (a := ⟨GH, k, none⟩) HLW.out.2.1 _
            have hB9 : B ≤ (V3.setCell ⟨GH, k, none⟩ (.string H)).heap.size := by
              have := M3.size
              simp only [World.setCell, Array.size_modify]
              omega
            clear S3 HS1 HT1 RC1 NW1 M0 M2 M3 hB1
            go_wp2_with fail
            exact ⟨⟨k, by omega, by go_num, HS9.out, N9, hB9⟩, by simp [intOf]⟩
      · obtain rfl : b = 0 := by omega
        have S := hS.out
        have ra := S.ra
        have rr := S.rr
        have HSS : Hid (RSt t GR GA GI GH GS GC B 0 0 wq) := S
        rw [show (((0 : Nat) : Int) - 1) = -1 from rfl]
        clear hS S
        go_wp2_with (first
          | refine wpList_load_row (by rfl) 37 _ (by rfl) GA (by rfl) 37 (allC GI GH t.length) (0, 0) _ ra Tryd.underlying37 rfl iA ?_
          | (refine wpList_store_new (by rfl) 37 _ _ (by rfl) GR (allC GI GH t.length) (by rfl) (by rfl) 37 _ rr iA rfl (allC_one _ _ _) ?_; intro W9 R9 B9))
        have S := HSS.out
        have F := HF.out
        obtain ⟨es, q1, q2, q3⟩ := S.qi
        have qh := S.qh.but B9 (fun e => F.rh e)
        have qi := q1.but B9 (fun e => F.ri e)
        rw [partL_all] at qh
        refine bodyPost_ret (v := .agg (allC GI GH t.length)) (results_cell (by rfl) _ _ GR 37 _ (0, 0) _ (by rfl) R9 Tryd.underlying37 rfl iA) rfl ⟨GI, GH, rfl, ls_tx qh.ls, fun i m hm => ?_, B9.new N HLW.out.2.2⟩
        obtain ⟨a', c', he, hT, hb⟩ := q3 i m (Nat.zero_le _) hm
        have hi := (List.getElem?_eq_some_iff.1 he).1
        have hr := qi.range hi
        rw [(List.getElem?_eq_some_iff.1 he).2] at hr
        exact ⟨a', c', hr, hT.of fun x hx _ => B9.block _ (by have := hb x hx; have := F.r; omega)⟩

set_option maxHeartbeats 4000000 in
theorem refAll_no {w : World} {v : Value} {t : List Nd} (P : Ls w 20 v (t.map ndC)) (K : TOk t) (hok : okT t = false) :
    Calls Tryd.prog 13 #[v] w fun e w' => e = .returned (.agg allZ) ∧ New w w' := by
  have hg := fun W (N : New w W) => refGood_any (P.after N) K
  rw [hok] at hg
  obtain ⟨a, c, rfl, hc, _⟩ := P.open noNd
  clear P K hok
  go_enter Tryd.func13, Tryd.ntmps13
  go_wp2_with (first
    | (refine wpList_alloc_at (by rfl) 2 (by rfl) 37 (by rfl) _ _ _ infoA ?_; intro W1 R1 N1))
  refine Calls.mono (hg _ N1) ?_
  rintro _ W2 ⟨rfl, N2⟩
  have R2 := R1.after N2
  clear hg
  go_wp2_with (first
    | refine wpList_build0 (by rfl) 37 (by rfl) _ builtA0 ?_
    | (refine wpList_store_new (by rfl) 37 _ _ (by rfl) w.heap.size allZ (by rfl) (by rfl) 37 _ R2 iA rfl allZ_one ?_; intro W9 R9 B9))
  exact bodyPost_ret (v := .agg allZ) (results_cell (by rfl) _ _ w.heap.size 37 _ (0, 0) _ (by rfl) R9 Tryd.underlying37 rfl iA) rfl ⟨rfl, B9.new (N1.trans N2) (Nat.le_refl _)⟩

end Go.Proofs.YtjikdbmdaeonlaaDoor
