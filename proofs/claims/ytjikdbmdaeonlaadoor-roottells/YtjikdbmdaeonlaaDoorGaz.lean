/-
  itemOf: a node as an Item, its children's hashes in place of their numbers. slices.Max over a node's children, lastBeneath, hashesOf. root's All, Of, Item, Empty. root's Item where there is such a node.
-/
import Derived.Test.YtjikdbmdaeonlaaDoorGaw
import Derived.Test.YtjikdbmdaeonlaaDoorGay
import Derived.Test.YtjikdbmdaeonlaaDoorGau
import Derived.Deep.CutRange
import Derived.Laws.BitsLemmas
namespace Go.Proofs.YtjikdbmdaeonlaaDoor
open Go.RowKit
set_option maxRecDepth 20000

theorem exec_build4 {P : Program} {o : Oper} {a : Act} {w : World} {T : TypeId} {x0 x1 x2 x3 : Operand} {v0 v1 v2 v3 r : Value} (ho : o.op = .build T #[(0, x0), (1, x1), (2, x2), (3, x3)]) (h0 : a.eval x0 = v0) (h1 : a.eval x1 = v1) (h2 : a.eval x2 = v2) (h3 : a.eval x3 = v3) (hr : (Instr.build T #[(0, v0), (1, v1), (2, v2), (3, v3)]).run P w = .ok r w) : (execOp a.eval o).run P w = .ok (.value r) w := by
  unfold execOp
  simp only [ho, List.map_toArray, List.map_cons, List.map_nil, h0, h1, h2, h3, Sem.run_bind, hr, Result.andThen_ok, Sem.run_pure]
/-- A node's cells as an Item that is made. -/
def itR (m : Nd) (x : Nat) (sv : Value) : Array Value := #[.int .i64 m.kind, .string (bs m.path), .bool m.has, .string (bs m.val), .int .i64 (x : Int), sv]
theorem itR_one (m : Nd) (x : Nat) (a : Option Addr) (n c : Nat) : (itR m x (.slice a n c)).all (·.oneCell') = true := by simp [itR, Value.oneCell']
theorem built32_4 (k : Int) (p : ByteArray) (has : Bool) (v : ByteArray) : Tryd.prog.built 32 [(0, .int .i64 k), (1, .string p), (2, .bool has), (3, .string v)] = some #[.int .i64 k, .string p, .bool has, .string v, .int .i64 0, .slice none 0 0] := by kernel_rfl
theorem run_build32 (m : Nd) (w : World) : (Instr.build 32 #[(0, .int .i64 m.kind), (1, .string (bs m.path)), (2, .bool m.has), (3, .string (bs m.val))]).run Tryd.prog w = .ok (.agg (itR m 0 (.slice none 0 0))) w := run_build w 32 _ _ (built32_4 _ _ _ _)
theorem itR_set4 (m : Nd) (x y : Nat) (sv : Value) : (itR m x sv).setIfInBounds 4 (.int .i64 (y : Int)) = itR m y sv := rfl
theorem itR_set5 (m : Nd) (x : Nat) (sv sv' : Value) : (itR m x sv).setIfInBounds 5 sv' = itR m x sv' := rfl
theorem bit_or (a k : Nat) (h : a < 2 ^ k) (hk : k < 16) : bits .or .i64 (a : Int) ((2 ^ k : Nat) : Int) = ((a + 2 ^ k : Nat) : Int) := by
  have h16 : 2 ^ k ≤ 2 ^ 15 := Nat.pow_le_pow_right (by decide) (by omega)
  have e : a ||| 2 ^ k = a + 2 ^ k := by
    have := Nat.two_pow_add_eq_or_of_lt h 1
    rw [Nat.mul_one] at this
    rw [Nat.or_comm, ← this, Nat.add_comm]
  rw [(bits_nat .i64 63 (by decide) No.wraps_i64 a (2 ^ k) (by omega) (by omega)).2, e]

theorem run_index77 (w : World) (l : List Bt) (k : Nat) (b : Bt) (h : l[k]? = some b) (hk : k < 16) : (Instr.index 77 (.agg (stA l)) (.int .i64 (k : Int))).run Tryd.prog w = .ok (.string (bs b)) w := by
  have := stA_get h
  simp [Instr.index, asIntOf, Tryd.sizeOf9, part, this, hk, Tryd.isAgg9]
theorem kidH_zero {ks : List Int} {hs : List Bt} {k : Nat} (hx : ks[k]? = some 0) : kidH hs (ks.take (k + 1)) = kidH hs (ks.take k) ∧ maskT ks (k + 1) = maskT ks k := by
  unfold kidH
  rw [nz_take_zero hx]
  refine ⟨rfl, ?_⟩
  show maskT ks k + _ = _
  rw [getD_some hx, if_pos rfl, Nat.add_zero]
theorem kidH_more {ks : List Int} {hs : List Bt} {k : Nat} {x : Int} (hx : ks[k]? = some x) (h0 : x ≠ 0) : kidH hs (ks.take (k + 1)) = kidH hs (ks.take k) ++ [hs.getD x.toNat []] ∧ maskT ks (k + 1) = maskT ks k + 2 ^ k := by
  unfold kidH
  rw [nz_take_more hx h0, List.map_append]
  refine ⟨rfl, ?_⟩
  show maskT ks k + _ = _
  rw [getD_some hx, if_neg h0]
theorem kidH_le {ks : List Int} {hs : List Bt} (k : Nat) : (kidH hs (ks.take k)).length ≤ k := by
  unfold kidH
  rw [List.length_map]
  exact Nat.le_trans (nz_le _) (by rw [List.length_take]; omega)

theorem ls_tx {w : World} {a : Option Addr} {n c : Nat} {hs : List Bt} (h : Ls w 1 (.slice a n c) (hs.map txC)) : No.Tx w a hs := fun h0 => by
  obtain ⟨a', c', e, hc, hh⟩ := h
  cases e
  obtain ⟨g, o, rfl, hg, hr⟩ := hh (by intro e; rw [List.map_eq_nil_iff] at e; rw [e] at h0; exact absurd h0 (by simp))
  refine ⟨_, rfl, fun i x hi => ?_⟩
  have hi' := (List.getElem?_eq_some_iff.1 hi).1
  have := hr i (by rw [List.length_map]; exact hi') 0 (.string (bs x)) (by
    rw [List.getElem_map]
    obtain ⟨_, rfl⟩ := List.getElem?_eq_some_iff.1 hi
    rfl)
  rw [Addr.add_mid]
  rw [Nat.mul_one] at this
  exact this

theorem Pl.blk {w : World} {F : Nat → Prop} {t : TypeId} {k : Nat} {a : Option Addr} {n c : Nat} {es : List (List Value)} (h : Pl w F t k (.slice a n c) es) : ∀ x, a = some x → F x.block := fun x hx => by
  subst hx
  rcases h.own.2 with ⟨h0, _⟩ | ⟨g, cap, cur, hv, _⟩
  · cases h0
  · cases hv; exact h.foot g rfl

set_option maxHeartbeats 8000000 in
theorem itemOf_any {w : World} {m : Nd} {v : Value} {hs : List Bt} (hk : m.kids.length = 16) (hp : m.path.length ≤ 4000) (hv : m.val.length ≤ 4000) (P : Ls w 1 v (hs.map txC)) (hin : ∀ x ∈ nz m.kids, ∃ j : Nat, x = (j : Int) ∧ j < hs.length ∧ hs.getD j [] ≠ []) :
    Calls Tryd.prog 32 #[.agg (ndA m), v] w fun e w' => ∃ a c, e = .returned (.agg (No.itC (itW m hs) a c)) ∧ No.Tx w' a (itW m hs).hs ∧ (∀ x, a = some x → w.heap.size ≤ x.block) ∧ New w w' := by
  have HIN : Hid (∀ x ∈ nz m.kids, ∃ j : Nat, x = (j : Int) ∧ j < hs.length ∧ hs.getD j [] ≠ []) := hin
  have HK : Hid (m.kids.length = 16) := hk
  have hnA : (ndA m).size = 20 := ndA_size hk
  have HCpath := fun W => clone_any m.path hp W
  have HCval := fun W => clone_any m.val hv W
  have HCH := fun {W : World} (n : New w W) => childHashes_any hk (P.after n) (fun x hx => by obtain ⟨j, h1, h2, _⟩ := hin x hx; exact ⟨j, h1, h2⟩)
  clear hin hp hv P
  go_enter Tryd.func32, Tryd.ntmps32
  go_wp2_with (first
    | (refine wpList_box_at (by rfl) 2 (by rfl) 55 _ (by rfl) (ndA m) (by rfl) ?_; intro W1 R1 N1)
    | (refine wpList_alloc_at (by rfl) 4 (by rfl) 32 (by rfl) _ _ _ No.info24 ?_; intro W2 R2 N2))
  have h1 : w.heap.size < W1.heap.size := R1.lt
  have h2 : W1.heap.size < W2.heap.size := R2.lt
  have R1' : Row W2 w.heap.size (ndA m) 55 := R1.after N2
  have RZ : Row W2 W1.heap.size No.itZ 32 := R2
  have N : New w W2 := N1.trans N2
  have y0 := NewW.cell (W := W2) (g := w.heap.size) (o := 0) (v := .int .i64 m.kind) (R1'.has 0 rfl)
  have y1 := NewW.cell (W := W2) (g := w.heap.size) (o := 1) (v := .string (bs m.path)) (R1'.has 1 rfl)
  have y2 := NewW.cell (W := W2) (g := w.heap.size) (o := 2) (v := .bool m.has) (R1'.has 2 rfl)
  have y3 := NewW.cell (W := W2) (g := w.heap.size) (o := 3) (v := .string (bs m.val)) (R1'.has 3 rfl)
  have hne := NewW.ne W2
  clear R1 R2 N1 N2
  generalize W1.heap.size = z at *
  simp only [Act.put, List.setIfInBounds_toArray, List.set_cons_zero, List.set_cons_succ]
  go_cut [5] from 8 to 18 (fun s5 wx => ∃ g, s5 = .pointer (some ⟨g, 0, none⟩) ∧ Row wx g (itR m 0 (.slice none 0 0)) 32 ∧ New W2 wx ∧ W2.heap.size ≤ g)
  case first =>
    refine No.region_reads [0, 1, 2, 3, 5, 6, 7, 8] 5 12 (fun w' => ∃ p : NewW W2, w' = p.v) ⟨⟨_, New.drew W2⟩, rfl⟩ (by kernel_rfl) (by kernel_rfl) (fun d _ _ _ _ h => by first | exact h | (cases d <;> exact h)) ?_
    simp only [pick, List.getElem?_cons_succ, List.getElem?_cons_zero, Option.toList_some, List.cons_append, List.nil_append]
    repeat (go_big_quiet_step (fail))
    refine wpQuiet_nil ?_
    have M0 : New W2 W2.drew := New.drew W2
    clear y0 y1 y2 y3
    refine wpG.two 4 11 (by kernel_rfl) ?_ ?_
    · skip
      refine wpOp_call (some 12) 51 #[.string (bs m.path)] (by rfl) (by rfl) (by rfl) (by go_simp) (Calls.mono (HCpath _) ?_)
      rintro _ V1 ⟨rfl, kN⟩
      refine ⟨_, rfl, fun _ => ⟨⟨_, M0.trans kN⟩, rfl⟩, ?_⟩
      simp only [Act.put, List.setIfInBounds_toArray, List.set_cons_zero, List.set_cons_succ]
      replace M0 := M0.trans kN
      clear kN
      refine wpG.two 9 11 (by kernel_rfl) ?_ ?_
      · skip
        refine wpOp_call (some 17) 51 #[.string (bs m.val)] (by rfl) (by rfl) (by rfl) (by go_simp) (Calls.mono (HCval _) ?_)
        rintro _ V2 ⟨rfl, kN⟩
        refine ⟨_, rfl, fun _ => ⟨⟨_, M0.trans kN⟩, rfl⟩, ?_⟩
        simp only [Act.put, List.setIfInBounds_toArray, List.set_cons_zero, List.set_cons_succ]
        replace M0 := M0.trans kN
        clear kN
        refine wpG.two 10 11 (by kernel_rfl) ?_ ?_
        · skip
          refine wpOp_run (some 18) (.agg (itR m 0 (.slice none 0 0))) _ (by rfl) (by rfl) (by rfl) (exec_build4 (by rfl) (by rfl) (by rfl) (by rfl) (by rfl) (run_build32 m _)) ⟨fun _ => ⟨⟨_, M0⟩, rfl⟩, ?_⟩
          simp only [Act.put, List.setIfInBounds_toArray, List.set_cons_zero, List.set_cons_succ]
          refine wpG.one 11 (by kernel_rfl) ?_
          obtain ⟨vv, hvv⟩ : ∃ vv, V2 = vv := ⟨_, rfl⟩
          rw [hvv] at M0 ⊢
          clear hvv
          refine wpOp_run (some 5) (.pointer (some ⟨vv.heap.size, 0, none⟩)) _ (by rfl) (by rfl) (by rfl) (No.exec_alloc (by rfl) No.info24) ⟨fun _ => ⟨⟨_, M0.alloc _⟩, rfl⟩, ?_⟩
          simp only [Act.put, List.setIfInBounds_toArray, List.set_cons_zero, List.set_cons_succ]
          have RI : Row _ _ No.itZ 32 := Row.new vv No.itZ 32
          have hgI := M0.size
          replace M0 := M0.alloc (.cells No.itZ 32)
          change wpG _ _ _ _ _ _ _ _ _ (vv.alloc (.cells No.itZ 32))
          generalize vv.alloc (.cells No.itZ 32) = va at *
          generalize vv.heap.size = gI at *
          refine wpG.pre (by kernel_rfl) [] _ _ _ (by kernel_rfl) (wpPre_nil ?_)
          simp only [pick, List.getElem?_cons_succ, List.getElem?_cons_zero, Option.toList_some, List.cons_append, List.nil_append]
          refine wpList_store_new (by rfl) 32 _ _ (by rfl) gI (itR m 0 (.slice none 0 0)) (by rfl) (by rfl) 32 No.itZ RI No.i24 rfl (itR_one _ _ _ _ _) ?_
          intro W9 R9 B9
          go_wp2_with fail
          go_meet
          case rel => exact ⟨gI, rfl, R9, B9.new M0 hgI, hgI⟩
        · skip
          obtain ⟨vv, hvv⟩ : ∃ vv, V2 = vv := ⟨_, rfl⟩
          rw [hvv] at M0 ⊢
          clear hvv
          refine wpOp_run (some 5) (.pointer (some ⟨vv.heap.size, 0, none⟩)) _ (by rfl) (by rfl) (by rfl) (No.exec_alloc (by rfl) No.info24) ⟨fun _ => ⟨⟨_, M0.alloc _⟩, rfl⟩, ?_⟩
          simp only [Act.put, List.setIfInBounds_toArray, List.set_cons_zero, List.set_cons_succ]
          have RI : Row _ _ No.itZ 32 := Row.new vv No.itZ 32
          have hgI := M0.size
          replace M0 := M0.alloc (.cells No.itZ 32)
          change wpG _ _ _ _ _ _ _ _ _ (vv.alloc (.cells No.itZ 32))
          generalize vv.alloc (.cells No.itZ 32) = va at *
          generalize vv.heap.size = gI at *
          refine wpG.one 10 (by kernel_rfl) ?_
          refine wpOp_run (some 18) (.agg (itR m 0 (.slice none 0 0))) _ (by rfl) (by rfl) (by rfl) (exec_build4 (by rfl) (by rfl) (by rfl) (by rfl) (by rfl) (run_build32 m _)) ⟨fun _ => ⟨⟨_, M0⟩, rfl⟩, ?_⟩
          simp only [Act.put, List.setIfInBounds_toArray, List.set_cons_zero, List.set_cons_succ]
          refine wpG.pre (by kernel_rfl) [] _ _ _ (by kernel_rfl) (wpPre_nil ?_)
          simp only [pick, List.getElem?_cons_succ, List.getElem?_cons_zero, Option.toList_some, List.cons_append, List.nil_append]
          refine wpList_store_new (by rfl) 32 _ _ (by rfl) gI (itR m 0 (.slice none 0 0)) (by rfl) (by rfl) 32 No.itZ RI No.i24 rfl (itR_one _ _ _ _ _) ?_
          intro W9 R9 B9
          go_wp2_with fail
          go_meet
          case rel => exact ⟨gI, rfl, R9, B9.new M0 hgI, hgI⟩
      · skip
        obtain ⟨vv, hvv⟩ : ∃ vv, V1 = vv := ⟨_, rfl⟩
        rw [hvv] at M0 ⊢
        clear hvv
        refine wpOp_run (some 5) (.pointer (some ⟨vv.heap.size, 0, none⟩)) _ (by rfl) (by rfl) (by rfl) (No.exec_alloc (by rfl) No.info24) ⟨fun _ => ⟨⟨_, M0.alloc _⟩, rfl⟩, ?_⟩
        simp only [Act.put, List.setIfInBounds_toArray, List.set_cons_zero, List.set_cons_succ]
        have RI : Row _ _ No.itZ 32 := Row.new vv No.itZ 32
        have hgI := M0.size
        replace M0 := M0.alloc (.cells No.itZ 32)
        change wpG _ _ _ _ _ _ _ _ _ (vv.alloc (.cells No.itZ 32))
        generalize vv.alloc (.cells No.itZ 32) = va at *
        generalize vv.heap.size = gI at *
        refine wpG.one 9 (by kernel_rfl) ?_
        refine wpOp_call (some 17) 51 #[.string (bs m.val)] (by rfl) (by rfl) (by rfl) (by go_simp) (Calls.mono (HCval _) ?_)
        rintro _ V2 ⟨rfl, kN⟩
        refine ⟨_, rfl, fun _ => ⟨⟨_, M0.trans kN⟩, rfl⟩, ?_⟩
        simp only [Act.put, List.setIfInBounds_toArray, List.set_cons_zero, List.set_cons_succ]
        replace RI := RI.after kN
        replace M0 := M0.trans kN
        clear kN
        refine wpG.one 10 (by kernel_rfl) ?_
        refine wpOp_run (some 18) (.agg (itR m 0 (.slice none 0 0))) _ (by rfl) (by rfl) (by rfl) (exec_build4 (by rfl) (by rfl) (by rfl) (by rfl) (by rfl) (run_build32 m _)) ⟨fun _ => ⟨⟨_, M0⟩, rfl⟩, ?_⟩
        simp only [Act.put, List.setIfInBounds_toArray, List.set_cons_zero, List.set_cons_succ]
        refine wpG.pre (by kernel_rfl) [] _ _ _ (by kernel_rfl) (wpPre_nil ?_)
        simp only [pick, List.getElem?_cons_succ, List.getElem?_cons_zero, Option.toList_some, List.cons_append, List.nil_append]
        refine wpList_store_new (by rfl) 32 _ _ (by rfl) gI (itR m 0 (.slice none 0 0)) (by rfl) (by rfl) 32 No.itZ RI No.i24 rfl (itR_one _ _ _ _ _) ?_
        intro W9 R9 B9
        go_wp2_with fail
        go_meet
        case rel => exact ⟨gI, rfl, R9, B9.new M0 hgI, hgI⟩
    · skip
      obtain ⟨vv, hvv⟩ : ∃ vv, W2.drew = vv := ⟨_, rfl⟩
      rw [hvv] at M0 ⊢
      clear hvv
      refine wpOp_run (some 5) (.pointer (some ⟨vv.heap.size, 0, none⟩)) _ (by rfl) (by rfl) (by rfl) (No.exec_alloc (by rfl) No.info24) ⟨fun _ => ⟨⟨_, M0.alloc _⟩, rfl⟩, ?_⟩
      simp only [Act.put, List.setIfInBounds_toArray, List.set_cons_zero, List.set_cons_succ]
      have RI : Row _ _ No.itZ 32 := Row.new vv No.itZ 32
      have hgI := M0.size
      replace M0 := M0.alloc (.cells No.itZ 32)
      change wpG _ _ _ _ _ _ _ _ _ (vv.alloc (.cells No.itZ 32))
      generalize vv.alloc (.cells No.itZ 32) = va at *
      generalize vv.heap.size = gI at *
      refine wpG.one 4 (by kernel_rfl) ?_
      refine wpOp_call (some 12) 51 #[.string (bs m.path)] (by rfl) (by rfl) (by rfl) (by go_simp) (Calls.mono (HCpath _) ?_)
      rintro _ V1 ⟨rfl, kN⟩
      refine ⟨_, rfl, fun _ => ⟨⟨_, M0.trans kN⟩, rfl⟩, ?_⟩
      simp only [Act.put, List.setIfInBounds_toArray, List.set_cons_zero, List.set_cons_succ]
      replace RI := RI.after kN
      replace M0 := M0.trans kN
      clear kN
      refine wpG.one 9 (by kernel_rfl) ?_
      refine wpOp_call (some 17) 51 #[.string (bs m.val)] (by rfl) (by rfl) (by rfl) (by go_simp) (Calls.mono (HCval _) ?_)
      rintro _ V2 ⟨rfl, kN⟩
      refine ⟨_, rfl, fun _ => ⟨⟨_, M0.trans kN⟩, rfl⟩, ?_⟩
      simp only [Act.put, List.setIfInBounds_toArray, List.set_cons_zero, List.set_cons_succ]
      replace RI := RI.after kN
      replace M0 := M0.trans kN
      clear kN
      refine wpG.one 10 (by kernel_rfl) ?_
      refine wpOp_run (some 18) (.agg (itR m 0 (.slice none 0 0))) _ (by rfl) (by rfl) (by rfl) (exec_build4 (by rfl) (by rfl) (by rfl) (by rfl) (by rfl) (run_build32 m _)) ⟨fun _ => ⟨⟨_, M0⟩, rfl⟩, ?_⟩
      simp only [Act.put, List.setIfInBounds_toArray, List.set_cons_zero, List.set_cons_succ]
      refine wpG.pre (by kernel_rfl) [] _ _ _ (by kernel_rfl) (wpPre_nil ?_)
      simp only [pick, List.getElem?_cons_succ, List.getElem?_cons_zero, Option.toList_some, List.cons_append, List.nil_append]
      refine wpList_store_new (by rfl) 32 _ _ (by rfl) gI (itR m 0 (.slice none 0 0)) (by rfl) (by rfl) 32 No.itZ RI No.i24 rfl (itR_one _ _ _ _ _) ?_
      intro W9 R9 B9
      go_wp2_with fail
      go_meet
      case rel => exact ⟨gI, rfl, R9, B9.new M0 hgI, hgI⟩

  case rest =>
    obtain ⟨g, rfl, R, N9, hg⟩ := hcut
    clear y0 y1 y2 y3 HCpath HCval
    have hzg : z < g := by omega
    have R1 : Row wc w.heap.size (ndA m) 55 := R1'.after N9
    have RZ9 : Row wc z No.itZ 32 := RZ.after N9
    have N' : New w wc := N.trans N9
    clear R1' RZ N9 N hg h2
    go_wp2_with (first
      | refine wpList_load_row (by rfl) 55 _ (by rfl) w.heap.size (by rfl) 55 (ndA m) (0, 0) _ R1 Tryd.underlying55 rfl (by rw [hnA]; exact i49) ?_)
    refine Calls.mono (HCH N') ?_
    rintro _ W4 ⟨rfl, N4⟩
    have HR : Hid (Row W4 g (itR m (maskT m.kids 0) (.slice none 0 0)) 32) := R.after N4
    have HZ : Hid (Row W4 z No.itZ 32) := RZ9.after N4
    have N5 : New w W4 := N'.trans N4
    clear R RZ9 N' N4 R1 HCH
    go_wp2_with fail
    go_loopw [22] (fun i wr => ∃ (k : Nat) (sv : Value), k ≤ 16 ∧ i = .int .i64 (k : Int) ∧ Hid (Row wr g (itR m (maskT m.kids k) sv) 32) ∧ Hid (Pl wr (fun b => g < b) 9 1 sv ((kidH hs (m.kids.take k)).map txC)) ∧ Hid (Row wr z No.itZ 32) ∧ New w wr) (fun i _ => 16 - (intOf i).toNat)
    case atStart => exact ⟨0, _, by omega, rfl, HR.out, Pl.nil _ _ _ _, HZ.out, N5⟩
    case round =>
      clear HR HZ N5
      obtain ⟨k, sv, hk16, rfl, hR, hQ, hZ, N⟩ := hrel
      by_cases hlt : k < 16
      · obtain ⟨x, hx⟩ : ∃ x, m.kids[k]? = some x := ⟨m.kids[k]'(by omega), List.getElem?_eq_getElem (by omega)⟩
        have hat := kid16_at (hs := hs) hx hlt
        by_cases h0 : x = 0
        · subst h0
          rw [if_pos rfl] at hat
          have hidx := fun w => run_index77 w _ k _ hat hlt
          obtain ⟨e1, e2⟩ := kidH_zero (hs := hs) hx
          have HE : Hid (kidH hs (m.kids.take (k + 1)) = kidH hs (m.kids.take k) ∧ maskT m.kids (k + 1) = maskT m.kids k) := ⟨e1, e2⟩
          have hs0 : (bs []).toList.isEmpty = true := by rw [No.isEmpty_bs]; rfl
          clear hx hat e1 e2
          generalize bs [] = s0 at *
          go_wp2_with fail
          exact ⟨⟨k + 1, sv, by omega, by go_num, by show Row _ _ _ _; rw [HE.out.2]; exact hR.out, by show Pl _ _ _ _ _ _; rw [HE.out.1]; exact hQ.out, hZ.out, N⟩, by simp [intOf]; omega⟩
        · obtain ⟨j, rfl, hj, hjne⟩ := HIN.out x (mem_nz.2 ⟨List.mem_of_getElem? hx, h0⟩)
          rw [if_neg h0, Int.toNat_natCast] at hat
          have hidx := fun w => run_index77 w _ k _ hat hlt
          obtain ⟨e1, e2⟩ := kidH_more (hs := hs) hx h0
          rw [Int.toNat_natCast] at e1
          have HE : Hid (kidH hs (m.kids.take (k + 1)) = kidH hs (m.kids.take k) ++ [hs.getD j []] ∧ maskT m.kids (k + 1) = maskT m.kids k + 2 ^ k) := ⟨e1, e2⟩
          have hs0 : (bs (hs.getD j [])).toList.isEmpty = false := by rw [No.isEmpty_bs, No.emptyB_false.2 hjne]
          have hmlt := maskT_lt m.kids k
          have hkl := kidH_le (ks := m.kids) (hs := hs) k
          clear hx hat e1 e2 h0
          generalize hs.getD j [] = hj at *
          generalize maskT m.kids k = mk at *
          obtain ⟨av, cv, rfl, hcv⟩ := hQ.out.form
          have c4 : wr.cell? ⟨g, 4, none⟩ = some (.int .i64 (mk : Int)) := hR.out.has 4 rfl
          have c5 : wr.cell? ⟨g, 5, none⟩ = some (.slice av ((kidH hs (m.kids.take k)).map txC).length cv) := hR.out.has 5 rfl
          have hkl' : ((kidH hs (m.kids.take k)).map txC).length ≤ 16 := by rw [List.length_map]; omega
          generalize kidH hs (m.kids.take k) = kh at *
          obtain ⟨nh, hnh⟩ : ∃ nh, (kh.map txC).length = nh := ⟨_, rfl⟩
          rw [hnh] at hcv c5 hkl' hR hQ
          have f4 := hR.out.frozen 4
          have hor := bit_or mk k hmlt hlt
          have hS : HasCell ⟨g, 4, none⟩ (.int .i64 (mk : Int)) wr.drew := HasCell.of c4
          obtain ⟨sh, hshj⟩ : ∃ sh, bs hj = sh := ⟨_, rfl⟩
          rw [hshj] at hidx hs0
          obtain ⟨pk, hpk⟩ : ∃ pk, 2 ^ k = pk := ⟨_, rfl⟩
          have hpk15 : pk ≤ 2 ^ 15 := by rw [← hpk]; exact Nat.pow_le_pow_right (by decide) (by omega)
          have hw : wrap64 ((2 : Int) ^ k) = (pk : Int) := by
            rw [show ((2 : Int) ^ k) = ((2 ^ k : Nat) : Int) by norm_cast, hpk]
            unfold wrap64
            omega
          rw [hpk] at hor HE
          obtain ⟨mq, hmq⟩ : ∃ mq, mk + pk = mq := ⟨_, rfl⟩
          rw [hmq] at hor HE
          clear hpk hpk15 hmlt hmq
          go_wp2_with fail
          refine region_take [0, 1, 2, 3, 4, 5] [] 6 (HasCell ⟨g, 4, none⟩ (.int .i64 (mk : Int))) hS (by kernel_rfl) (by kernel_rfl) (fun d _ _ _ _ h => by cases d <;> exact h) ?_
          simp only [pick, List.getElem?_cons_succ, List.getElem?_cons_zero, Option.toList_some, List.cons_append, List.nil_append]
          have hne2 : Nonempty (CellW ⟨g, 4, none⟩ (.int .i64 (mk : Int))) := ⟨⟨wr, c4⟩⟩
          have q0 : ∀ q : CellW ⟨g, 4, none⟩ (.int .i64 (mk : Int)), q.v.cell? ⟨g, 4, none⟩ = some (.int .i64 (mk : Int)) := fun q => q.h
          unfold HasCell
          repeat (go_big_quiet_step (fail))
          refine wpQuiet_nil ?_
          clear hne2 q0 hS
          refine wpPre_nil ?_
          go_upto_region 7 with fail
          have HR4 : Hid (Row (wr.setCell ⟨g, 4, none⟩ (.int .i64 (mq : Int))).drew g (itR m mq (.slice av nh cv)) 32) := hR.out.set 4 _
          have HQ4 : Hid (Pl (wr.setCell ⟨g, 4, none⟩ (.int .i64 (mq : Int))).drew (fun b => g < b) 9 1 (.slice av nh cv) (kh.map txC)) := hQ.out.of (fun b hb _ => Below.heap_setCell _ _ _ _ (by show b ≠ g; omega)) (fun b hb _ => hb)
          have HZ4 : Hid (Row (wr.setCell ⟨g, 4, none⟩ (.int .i64 (mq : Int))).drew z No.itZ 32) := hZ.out.of (Below.heap_setCell _ _ _ _ (by show z ≠ g; omega))
          have N4 : New w (wr.setCell ⟨g, 4, none⟩ (.int .i64 (mq : Int))).drew := (N.setCell (a := ⟨g, 4, none⟩) (by show w.heap.size ≤ g; omega) _).trans (New.drew _)
          clear hR hQ hZ N c4 c5 f4 hor hw
          generalize (wr.setCell ⟨g, 4, none⟩ (.int .i64 (mq : Int))).drew = V at *
          have c5 : V.cell? ⟨g, 5, none⟩ = some (.slice av nh cv) := HR4.out.has 5 rfl
          obtain ⟨g8, c8, W8, hap, Q8, G8⟩ := run_append_pl (HQ4.out.after ((New.refl V).alloc (.cells #[.string sh] 9))) 28 28 Tryd.underlying28 _ _ info9 rfl (by decide) V.heap.size (txC hj) 9 (by rw [show (txC hj).toArray = #[.string sh] by rw [← hshj]; rfl]; exact Row.new V #[.string sh] 9) rfl (txC_one _) (by omega) (by decide)
          rw [hnh] at hap Q8
          have hown : ∀ b, some b = (Value.slice av nh cv).ownBlock → g < b := fun b hb => HQ4.out.foot b hb.symm
          have hgV : g < V.heap.size := HR4.out.lt
          have hsV : (V.alloc (.cells #[.string sh] 9)).heap.size = V.heap.size + 1 := by simp
          have R8 : Row W8 g (itR m mq (.slice av nh cv)) 32 := (HR4.out.alloc _).of (G8.block g (by omega) (fun e => by have := hown _ e; omega))
          have RZ8 : Row W8 z No.itZ 32 := (HZ4.out.alloc _).of (G8.block z (by omega) (fun e => by have := hown _ e; omega))
          have N8 : New w W8 := (N4.alloc _).grown G8 (fun b hb => by have := hown _ hb.symm; omega)
          have c5' : W8.cell? ⟨g, 5, none⟩ = some (.slice av nh cv) := R8.has 5 rfl
          have f5' := R8.frozen 5
          have HR9 : Hid (Row (W8.setCell ⟨g, 5, none⟩ (.slice (some ⟨g8, 0, none⟩) (nh + 1) c8)) g (itR m mq (.slice (some ⟨g8, 0, none⟩) (nh + 1) c8)) 32) := R8.set 5 _
          have HZ9 : Hid (Row (W8.setCell ⟨g, 5, none⟩ (.slice (some ⟨g8, 0, none⟩) (nh + 1) c8)) z No.itZ 32) := RZ8.of (Below.heap_setCell _ _ _ _ (by show z ≠ g; omega))
          have HQ9 : Hid (Pl (W8.setCell ⟨g, 5, none⟩ (.slice (some ⟨g8, 0, none⟩) (nh + 1) c8)) (fun b => g < b) 9 1 (.slice (some ⟨g8, 0, none⟩) (nh + 1) c8) ((kh ++ [hj]).map txC)) := by
            show Pl _ _ _ _ _ _
            rw [List.map_append]
            exact Q8.of (fun b hb _ => Below.heap_setCell _ _ _ _ (by show b ≠ g; rcases hb with hb | hb <;> omega)) (fun b hb _ => hb.elim id (fun h => by omega))
          have N9 : New w (W8.setCell ⟨g, 5, none⟩ (.slice (some ⟨g8, 0, none⟩) (nh + 1) c8)) := N8.setCell (a := ⟨g, 5, none⟩) (by show w.heap.size ≤ g; omega) _
          clear HR4 HQ4 HZ4 N4 Q8 G8 hown R8 RZ8 N8 hsV
          go_wp2_with (first
            | refine wpList_run (by rfl) (.slice (some ⟨V.heap.size, 0, none⟩) 1 1) (V.alloc (.cells #[.string sh] 9)) (exec_buildSlice (by rfl) (by rfl) (run_buildCell (P := Tryd.prog) V 28 9 (.string sh) _ _ Tryd.underlying28 info9 rfl)) ?_
            | refine wpList_appends (by rfl) _ _ 28 28 _ _ _ W8 (by rfl) (by rfl) (by rfl) (by rfl) hap ?_)
          exact ⟨⟨k + 1, _, by omega, by go_num, by show Row _ _ _ _; rw [HE.out.2]; exact HR9.out, by show Pl _ _ _ _ _ _; rw [HE.out.1]; exact HQ9.out, HZ9.out, N9⟩, by simp [intOf]; omega⟩
      · obtain rfl : k = 16 := by omega
        have hQ16 := hQ.out
        have hR16 := hR.out
        rw [List.take_of_length_le (by omega)] at hQ16
        have hl : ((kidH hs m.kids).map txC).length = (kidH hs m.kids).length := List.length_map _
        obtain ⟨av, cv, rfl, hcv⟩ := hQ16.form
        have RZ : Row wr z No.itZ 32 := hZ.out
        go_wp2_with (first
          | refine wpList_load_row (by rfl) 32 _ (by rfl) g (by rfl) 32 _ (0, 0) _ hR16 Tryd.underlying32 rfl No.i24 ?_
          | (refine wpList_store_new (by rfl) 32 _ _ (by rfl) z (itR m (maskT m.kids 16) (.slice av ((kidH hs m.kids).map txC).length cv)) (by rfl) (by rfl) 32 _ RZ No.i24 rfl (itR_one _ _ _ _ _) ?_; intro W9 R9 B9))
        have e : itR m (maskT m.kids 16) (.slice av ((kidH hs m.kids).map txC).length cv) = No.itC (itW m hs) av cv := by rw [hl]; rfl
        rw [e] at R9
        exact bodyPost_ret (v := .agg (No.itC (itW m hs) av cv)) (results_cell (by rfl) _ _ z 32 _ (0, 0) _ (by rfl) R9 Tryd.underlying32 rfl No.i24) rfl ⟨av, cv, rfl, ls_tx (hQ16.but B9 (by show ¬ g < z; omega)).ls, (fun x hx => by have : g < x.block := hQ16.blk x hx; omega), B9.new N (by omega)⟩

end Go.Proofs.YtjikdbmdaeonlaaDoor
namespace Go.Proofs.YtjikdbmdaeonlaaDoor
open Go.RowKit
set_option maxRecDepth 20000

set_option maxHeartbeats 4000000 in
theorem max_any {w : World} {g o : Nat} {ks : List Int} (hk : ks.length = 16) (hc : ∀ (i : Nat) x, ks[i]? = some x → w.cell? ⟨g, o + i, none⟩ = some (.int .i64 x)) :
    Calls Tryd.prog 50 #[.slice (some ⟨g, o, none⟩) 16 16] w fun e w' => e = .returned (.int .i64 (maxK ks)) ∧ New w w' := by
  have HC : Hid (∀ (i : Nat) x, ks[i]? = some x → w.cell? ⟨g, o + i, none⟩ = some (.int .i64 x)) := hc
  have c0 : w.cell? ⟨g, o, none⟩ = some (.int .i64 (ks.getD 0 0)) := hc 0 _ (by rw [List.getD_eq_getElem?_getD, List.getElem?_eq_getElem (by omega)]; rfl)
  have H1 : Hid (maxT ks 1 = ks.getD 0 0) := maxT_one ks
  clear hc
  generalize ks.getD 0 0 = x0 at *
  go_enter Tryd.func50, Tryd.ntmps50
  go_wp2_with fail
  go_loopw [3, 4] (fun t i wr => ∃ k : Nat, 1 ≤ k ∧ k ≤ 16 ∧ i = .int .i64 (k : Int) ∧ t = .int .i64 (maxT ks k) ∧ New w wr) (fun _ i _ => 16 - (intOf i).toNat)
  case atStart => exact ⟨1, by omega, by omega, rfl, by rw [H1.out], New.refl w⟩
  case round =>
    clear c0
    obtain ⟨k, hk1, hk16, rfl, rfl, N⟩ := hrel
    by_cases hlt : k < 16
    · obtain ⟨x, hx⟩ : ∃ x, ks[k]? = some x := ⟨ks[k]'(by omega), List.getElem?_eq_getElem (by omega)⟩
      have ck : wr.cell? ⟨g, o + k, none⟩ = some (.int .i64 x) := (N.cell (World.block_lt_of_cell? w _ (HC.out k x hx))).trans (HC.out k x hx)
      have HM : Hid (maxT ks (k + 1) = max (maxT ks k) x) := by
        show max (maxT ks k) (ks.getD k 0) = _
        rw [getD_some hx]
      have hk' : (k : Int) < 16 := by omega
      clear hx
      generalize maxT ks k = mk at *
      go_wp2_with fail
      exact ⟨⟨k + 1, by omega, by omega, by go_num, by rw [HM.out], N⟩, by simp [intOf]; omega⟩
    · obtain rfl : k = 16 := by omega
      go_wp2_with fail
      go_ret
      exact ⟨rfl, N⟩

theorem chn_get {t : List Nd} {i L : Nat} (h : Chn t i L) : ∃ m, t[i]? = some m ∧ ((maxK m.kids = 0 ∧ L = i) ∨ ∃ j : Nat, maxK m.kids = (j : Int) ∧ i < j ∧ Chn t j L) := by
  cases h with
  | stop hm h0 => exact ⟨_, hm, .inl ⟨h0, rfl⟩⟩
  | step hm hx hj hc => exact ⟨_, hm, .inr ⟨_, hx, hj, hc⟩⟩

set_option maxHeartbeats 4000000 in
theorem lastBeneath_any {w : World} {v : Value} {t : List Nd} (P : Ls w 20 v (t.map ndC)) (R : Rt t) {i L : Nat} (hC : Chn t i L) :
    Calls Tryd.prog 31 #[v, .int .i64 (i : Int)] w fun e w' => e = .returned (.int .i64 (L : Int)) ∧ New w w' := by
  obtain ⟨a, c, rfl, hc, HS⟩ := P.open noNd
  have HC : Hid (Chn t i L) := hC
  have HK : Hid (∀ m ∈ t, m.kids.length = 16) := R.k16
  clear P R hC
  go_enter Tryd.func31, Tryd.ntmps31
  go_wp2_with fail
  go_loopw [1] (fun s wr => ∃ n : Nat, s = .int .i64 (n : Int) ∧ Hid (Chn t n L) ∧ New w wr) (fun s _ => t.length - (intOf s).toNat)
  case atStart => exact ⟨i, rfl, HC.out, New.refl w⟩
  case round =>
    clear HC
    obtain ⟨n, rfl, hC, N⟩ := hrel
    obtain ⟨m, hm, hway⟩ := chn_get hC.out
    have hn := (List.getElem?_eq_some_iff.1 hm).1
    obtain ⟨g, o, rfl, hg, hr⟩ := HS.out (by omega)
    have R2 := hr wr N n hn
    rw [getD_some hm] at R2
    have hk := HK.out m (List.mem_of_getElem? hm)
    have hmx := fun W (k : New wr W) => max_any (w := W) (g := g) (o := o + n * 20 + 4) hk (fun j x hx => by
      have := R2 (4 + j) (.int .i64 x) (by
        unfold ndC
        rw [show 4 + j = j + 1 + 1 + 1 + 1 by omega]
        simp only [List.getElem?_cons_succ]
        rw [List.getElem?_map, hx]; rfl)
      rw [← Nat.add_assoc] at this
      exact (k.cell (World.block_lt_of_cell? wr _ this)).trans this)
    have hni : (n : Int) < (t.length : Int) := by omega
    clear hm hr R2 hk
    rcases hway with ⟨h0, rfl⟩ | ⟨j, hj, hlt, hcj⟩
    · rw [h0] at hmx
      clear h0
      go_wp2_with fail
      refine Calls.mono (hmx _ (New.refl _)) ?_
      rintro _ W4 ⟨rfl, N4⟩
      clear hmx
      go_wp2_with fail
      go_ret
      exact ⟨rfl, N.trans N4⟩
    · rw [hj] at hmx
      have hjb : ((j : Int) == 0) = false := by rw [beq_eq_false_iff_ne]; omega
      have HCJ : Hid (Chn t j L) := hcj
      have hjl := Nat.lt_of_le_of_lt hcj.lt.1 hcj.lt.2
      clear hj hcj
      go_wp2_with fail
      refine Calls.mono (hmx _ (New.refl _)) ?_
      rintro _ W4 ⟨rfl, N4⟩
      clear hmx
      go_wp2_with fail
      exact ⟨⟨j, rfl, HCJ.out, N.trans N4⟩, by simp [intOf]; omega⟩

set_option maxHeartbeats 8000000 in
theorem hashesOf_any {w : World} {v : Value} {t : List Nd} (P : Ls w 20 v (t.map ndC)) (R : Rt t) (hl : t.length ≤ 10000) (hT : No.TT w) {first e : Nat} (hfe : first ≤ e) (he : e ≤ t.length) (hin : ∀ (a : Nat) m, first ≤ a → a < e → t[a]? = some m → ∀ x ∈ nz m.kids, x < (e : Int)) :
    Calls Tryd.prog 30 #[v, .int .i64 (first : Int), .int .i64 ((e : Int) - 1)] w fun x w' => ∃ v', x = .returned (.tuple #[v', .bool true]) ∧ Pl w' (Fresh w) 9 1 v' ((partL t first e).map txC) ∧ New w w' := by
  obtain ⟨a, c, rfl, hc, HS⟩ := P.open noNd
  have HT : Hid (No.TT w) := hT
  have HR : Hid (Rt t) := R
  have HIN : Hid (∀ (a : Nat) m, first ≤ a → a < e → t[a]? = some m → ∀ x ∈ nz m.kids, x < (e : Int)) := hin
  have hmk1 := fun W => run_make_pl W 28 9 (.string (bs [])) t.length 1 16 Tryd.underlying28 info9 rfl (by decide) (by omega) (by decide)
  clear P R hin hT
  go_enter Tryd.func30, Tryd.ntmps30
  obtain ⟨W2, hm1, Q2, N2⟩ := hmk1 w
  clear hmk1
  go_wp2_with fail
  have HQ2 : Hid (Pl W2 (fun g => g = w.heap.size) 9 1 (.slice (some ⟨w.heap.size, 0, none⟩) t.length t.length) ((partL t e e).map txC)) := by
    show Pl _ _ _ _ _ _
    rw [partL_none t (Nat.le_refl _), List.map_replicate]; exact Q2
  clear hm1 Q2
  go_loopw [9] (fun s wr => ∃ b : Nat, first ≤ b ∧ b ≤ e ∧ s = .int .i64 ((b : Int) - 1) ∧ Hid (Pl wr (fun g => g = w.heap.size) 9 1 (.slice (some ⟨w.heap.size, 0, none⟩) t.length t.length) ((partL t b e).map txC)) ∧ New w wr) (fun s _ => (intOf s + 1).toNat)
  case atStart => exact ⟨e, hfe, Nat.le_refl _, rfl, HQ2.out, N2⟩
  case round =>
    clear HQ2 N2
    obtain ⟨b', hb1, hb2, rfl, hQ, N⟩ := hrel
    by_cases hlt : first < b'
    · obtain ⟨b, rfl⟩ : ∃ b, b' = b + 1 := ⟨b' - 1, by omega⟩
      have hbi : ((b + 1 : Nat) : Int) - 1 = (b : Int) := by omega
      have hbl : b < t.length := by omega
      have hm := List.getElem?_eq_getElem hbl
      obtain ⟨m, hmm⟩ : ∃ m, t[b] = m := ⟨_, rfl⟩
      rw [hmm] at hm
      obtain ⟨g, o, rfl, hg, hr⟩ := HS.out (by omega)
      have R2 := hr wr N b hbl
      rw [getD_some hm] at R2
      have hk := HR.out.k16 m (List.mem_of_getElem? hm)
      have hp16 := goodB_len (HR.out.half m (List.mem_of_getElem? hm))
      have hv16 := HR.out.val m (List.mem_of_getElem? hm)
      have hkd := HIN.out b m (by omega) (by omega) hm
      have hio := fun W (k : New wr W) => itemOf_any (w := W) (v := .slice (some ⟨w.heap.size, 0, none⟩) t.length t.length) (hs := partL t (b + 1) e) hk (by omega) (by omega) (hQ.out.after k).ls (fun x hx => by
        have hxe := hkd x hx
        obtain ⟨j, rfl, hj, hjl⟩ := HR.out.kd.kid b m hm x hx
        refine ⟨j, rfl, by rw [partL_len]; exact hjl, fun h0 => ?_⟩
        rw [partL_in t hjl (by omega) (by omega)] at h0
        have := HR.out.len hjl
        rw [h0] at this; cases this)
      rw [HR.out.part hm hkd] at hio
      have hgood := HR.out.good hm
      have hhash : No.hashB (itW m (HL t)) = (HL t).getD b [] := (getD_some (HL_at HR.out.kd hm)).symm
      have hch := fun a c => No.c_hash (itW m (HL t)) (No.good_small _ hgood) a c
      rw [hhash, hgood] at hch
      have hsz := fun a c => No.itC_size (itW m (HL t)) a c
      have HSET : Hid ((partL t (b + 1) e).set b ((HL t).getD b []) = partL t b e) := partL_set t (by omega) hbl
      have hml : (ndC m).length = 20 := ndC_len hk
      have y0 : wr.cell? ⟨w.heap.size, b, none⟩ = some (.string (bs ((partL t (b + 1) e).getD b []))) := tx_at hQ.out (by rw [partL_len]; exact hbl)
      have hbi' : (b : Int) < (t.length : Int) := by omega
      have hge : ((first : Int) ≤ (b : Int)) := by omega
      clear hm hmm hr hk hp16 hv16 hkd hhash hgood
      generalize itW m (HL t) = I at *
      generalize (HL t).getD b [] = hb at *
      go_wp2_with (first
        | refine wpList_load_mid (by rfl) 55 _ (by rfl) g (o + b * 20) (by rfl) (ndC m) _ R2 Tryd.underlying55 rfl (by rw [hml]; exact i49) ?_)
      refine Calls.mono (hio _ (New.refl _)) ?_
      rintro _ W4 ⟨aa, cc, rfl, hTx, _, N4⟩
      have hc4 := hch aa cc W4 hTx (HT.out.after (N.trans N4))
      clear hio hch hsz hTx
      generalize No.itC I aa cc = C at *
      go_wp2_with fail
      refine Calls.mono hc4 ?_
      rintro _ W5 ⟨rfl, N5⟩
      have N5 : New W4 W5 := N5
      have hq5 := hQ.out.after (N4.trans N5)
      have y5 : W5.cell? ⟨w.heap.size, b, none⟩ = some (.string (bs ((partL t (b + 1) e).getD b []))) := tx_at hq5 (by rw [partL_len]; exact hbl)
      have f5 : W5.frozen? ⟨w.heap.size, b, none⟩ = false := by
        obtain ⟨cur, Rw, _⟩ := hq5.row
        exact Rw.frozen b
      have HQ9 : Hid (Pl (W5.setCell ⟨w.heap.size, b, none⟩ (.string (bs hb))) (fun g => g = w.heap.size) 9 1 (.slice (some ⟨w.heap.size, 0, none⟩) t.length t.length) ((partL t b e).map txC)) := by
        show Pl _ _ _ _ _ _
        rw [← HSET.out]
        exact tx_set hq5 (by rw [partL_len]; exact hbl) hb
      have N9 : New w (W5.setCell ⟨w.heap.size, b, none⟩ (.string (bs hb))) := ((N.trans N4).trans N5).setCell (a := ⟨w.heap.size, b, none⟩) (Nat.le_refl _) _
      clear hc4 hq5 hQ y0 R2 HSET
      go_wp2_with fail
      exact ⟨⟨b, by omega, by omega, rfl, HQ9.out, N9⟩, by simp [intOf]⟩
    · obtain rfl : b' = first := by omega
      go_wp2_with fail
      go_ret2
      exact ⟨_, rfl, hQ.out.mono (fun b hb _ => by show w.heap.size ≤ b; omega), N⟩

end Go.Proofs.YtjikdbmdaeonlaaDoor
namespace Go.Proofs.YtjikdbmdaeonlaaDoor
open Go.RowKit
set_option maxRecDepth 20000

def okT (t : List Nd) : Bool := (readF t).isSome
def allL (t : List Nd) : List Bt := if okT t then HL t else []
def emptyH : Bt := Dg.ofL [0]
def rootL (t : List Nd) : Bt := if okT t then (if t.length = 0 then emptyH else (HL t).getD 0 []) else []
def itZero : No.It := ⟨0, [], false, [], 0, []⟩
theorem itZ_of : No.itZ = No.itC itZero none 0 := rfl
def inT (t : List Nd) (i : Int) : Bool := decide (0 ≤ i) && (decide (i < (t.length : Int)) && okT t)
def itemL (t : List Nd) (i : Int) : No.It := if inT t i then itW (t.getD i.toNat noNd) (HL t) else itZero
theorem ok_ex {t : List Nd} (h : okT t = true) : ∃ l, mayB l = true ∧ t = buildN l := by
  obtain ⟨s, hs⟩ := Option.isSome_iff_exists.1 h
  exact ⟨s.1, (readF_ok hs).1, (readF_ok hs).2.1⟩
theorem ok_rt {t : List Nd} (h : okT t = true) : Rt t := by
  obtain ⟨l, hl, rfl⟩ := ok_ex h
  exact rt_of hl
theorem ok_chn {t : List Nd} (h : okT t = true) {i L : Nat} (hC : Chn t i L) : ∀ (a : Nat) m, i + 1 ≤ a → a < L + 1 → t[a]? = some m → ∀ x ∈ nz m.kids, x < ((L + 1 : Nat) : Int) := by
  obtain ⟨l, hl, rfl⟩ := ok_ex h
  intro a m h1 h2 hm x hx
  unfold buildN at hm
  rw [List.getElem?_map] at hm
  obtain ⟨M, hM, rfl⟩ := Option.map_eq_some_iff.1 hm
  have := chn_in (sh_of hl).1 (en_grow 17 _ 0 0) (build_k16 hl) hC a M (by omega) (by omega) hM x hx
  omega
theorem ok_chn0 {t : List Nd} (h : okT t = true) {i L : Nat} (hC : Chn t i L) {m : Nd} (hm : t[i]? = some m) : ∀ x ∈ nz m.kids, x < ((L + 1 : Nat) : Int) := by
  obtain ⟨l, hl, rfl⟩ := ok_ex h
  intro x hx
  unfold buildN at hm
  rw [List.getElem?_map] at hm
  obtain ⟨M, hM, rfl⟩ := Option.map_eq_some_iff.1 hm
  have := chn_in (sh_of hl).1 (en_grow 17 _ 0 0) (build_k16 hl) hC i M (Nat.le_refl _) hC.lt.1 hM x hx
  omega

theorem empty_any (w : World) (hT : No.TT w) : Calls Tryd.prog 17 #[] w fun e w' => e = .returned (.string (bs emptyH)) ∧ New w w' := by
  have h := No.dg_of [0] (by decide) w hT.2
  rw [show bs [0] = (⟨#[0]⟩ : ByteArray) from rfl, show Dg.ofL [0] = emptyH from rfl] at h
  generalize bs emptyH = E at *
  go_enter Tryd.func17, Tryd.ntmps17
  go_wp2_with fail
  refine Calls.mono h ?_
  rintro _ W1 ⟨rfl, N1⟩
  go_wp2_with fail
  go_ret
  exact ⟨rfl, N1⟩

set_option maxHeartbeats 4000000 in
theorem all_any {w : World} {v : Value} {t : List Nd} (P : Ls w 20 v (t.map ndC)) (K : TOk t) (hT : No.TT w) :
    Calls Tryd.prog 11 #[v] w fun e w' => ∃ va, e = .returned (.tuple #[va, .bool (okT t)]) ∧ Ls w' 1 va ((allL t).map txC) ∧ New w w' := by
  have hg := good_trie P K hT.1
  have HT : Hid (No.TT w) := hT
  have hl := K.few
  obtain ⟨a, c, rfl, hc, _⟩ := P.open noNd
  have HP : Hid (Ls w 20 (.slice a t.length c) (t.map ndC)) := P
  obtain ⟨b, hb⟩ : ∃ b, okT t = b := ⟨_, rfl⟩
  rw [show (readF t).isSome = okT t from rfl, hb] at hg
  have HB : Hid (okT t = b) := hb
  rw [hb]
  clear P K hT
  cases b
  · have HL0 : Hid (allL t = []) := by show _ = _; unfold allL; rw [hb]; rfl
    clear hb
    go_enter Tryd.func11, Tryd.ntmps11
    go_wp2_with fail
    refine Calls.mono hg ?_
    rintro _ W1 ⟨rfl, N1⟩
    clear hg
    go_wp2_with fail
    go_ret2
    exact ⟨_, rfl, by rw [HL0.out]; exact Ls.nil _ _, N1⟩
  · have HL1 : Hid (allL t = HL t) := by show _ = _; unfold allL; rw [hb]; rfl
    have hh := fun W (N : New w W) => hashesOf_any (HP.out.after N) (ok_rt hb) hl (HT.out.after N) (first := 0) (e := t.length) (Nat.zero_le _) (Nat.le_refl _) (fun a m _ _ hm x hx => by
      obtain ⟨j, rfl, _, hj⟩ := (ok_rt hb).kd.kid a m hm x hx
      omega)
    rw [partL_all, show ((0 : Nat) : Int) = 0 from rfl] at hh
    clear hb
    go_enter Tryd.func11, Tryd.ntmps11
    go_wp2_with fail
    refine Calls.mono hg ?_
    rintro _ W1 ⟨rfl, N1⟩
    clear hg
    go_wp2_with fail
    refine Calls.mono (hh _ N1) ?_
    rintro _ W2 ⟨v2, rfl, Q2, N2⟩
    have N2 : New W1 W2 := N2
    have HQ : Hid (Ls W2 1 v2 ((HL t).map txC)) := Q2.ls
    clear hh Q2
    go_wp2_with fail
    go_ret2
    exact ⟨_, rfl, by rw [HL1.out]; exact HQ.out, N1.trans N2⟩

theorem allL_len {t : List Nd} (h : okT t = true) : (allL t).length = t.length := by unfold allL; rw [h, if_pos rfl]; exact HL_len t

set_option maxHeartbeats 4000000 in
theorem root_any {w : World} {v : Value} {t : List Nd} (P : Ls w 20 v (t.map ndC)) (K : TOk t) (hT : No.TT w) :
    Calls Tryd.prog 10 #[v] w fun e w' => e = .returned (.tuple #[.string (bs (rootL t)), .bool (okT t)]) ∧ New w w' := by
  have ha := all_any P K hT
  have HT : Hid (No.TT w) := hT
  obtain ⟨b, hb⟩ : ∃ b, okT t = b := ⟨_, rfl⟩
  have HB : Hid (okT t = b) := hb
  rw [hb] at ha ⊢
  clear P K hT
  cases b
  · have HL0 : Hid (bs (rootL t) = bs []) := by show _ = _; unfold rootL; rw [hb]; rfl
    clear hb
    go_enter Tryd.func10, Tryd.ntmps10
    go_wp2_with fail
    refine Calls.mono ha ?_
    rintro _ W1 ⟨va, rfl, _, N1⟩
    clear ha
    go_wp2_with fail
    go_ret2
    exact ⟨by rw [HL0.out]; rfl, N1⟩
  · have hlen := allL_len hb
    have HL1 : Hid (allL t = HL t) := by show _ = _; unfold allL; rw [hb]; rfl
    have HR : Hid (rootL t = if t.length = 0 then emptyH else (HL t).getD 0 []) := by show _ = _; unfold rootL; rw [hb]; rfl
    have he := fun W (N : New w W) => empty_any W (HT.out.after N)
    clear hb
    go_enter Tryd.func10, Tryd.ntmps10
    go_wp2_with fail
    refine Calls.mono ha ?_
    rintro _ W1 ⟨va, rfl, Q1, N1⟩
    obtain ⟨aa, ca, rfl, hca, HA⟩ := Q1.open []
    have N1 : New w W1 := N1
    obtain ⟨n, hn⟩ : ∃ n, (allL t).length = n := ⟨_, rfl⟩
    rw [hn] at HA hca hlen ⊢
    clear ha Q1
    by_cases h0 : n = 0
    · subst h0
      have HE : Hid (bs (rootL t) = bs emptyH) := by show _ = _; rw [HR.out, if_pos hlen.symm]
      clear hlen hn
      go_wp2_with fail
      refine Calls.mono (he _ N1) ?_
      rintro _ W2 ⟨rfl, N2⟩
      clear he
      go_wp2_with fail
      go_ret2
      exact ⟨by rw [HE.out]; rfl, N1.trans N2⟩
    · obtain ⟨g, o, rfl, hg, hr⟩ := HA.out (by omega)
      have c0 : W1.cell? ⟨g, o, none⟩ = some (.string (bs ((HL t).getD 0 []))) := by
        have := hr W1 (New.refl _) 0 (by omega) 0 _ rfl
        rw [HL1.out] at this
        simpa using this
      have HE : Hid (bs (rootL t) = bs ((HL t).getD 0 [])) := by show _ = _; rw [HR.out, if_neg (by omega)]
      have hnb : ((n : Int) == 0) = false := by rw [beq_eq_false_iff_ne]; omega
      have hn0 : (0 : Int) < (n : Int) := by omega
      clear hr hlen hn
      generalize bs ((HL t).getD 0 []) = r at *
      go_wp2_with fail
      go_ret2
      exact ⟨by rw [HE.out]; rfl, N1⟩

theorem builtZ : Tryd.prog.built 32 [] = some No.itZ := by kernel_rfl
theorem itZ_one : No.itZ.all (·.oneCell') = true := by simp [No.itZ, Value.oneCell']
theorem results_item {w : World} {g : Nat} {tmps : Array Value} {C : Array Value} {z : Bool} (hp : tmps.getD 4 undef = .pointer (some ⟨g, 0, none⟩)) (hq : tmps.getD 5 undef = .bool z) (R : Row w g C 32) (hs : C.size = 6) :
    (results Tryd.f12 tmps).run Tryd.prog w = .ok (.tuple #[.agg C, .bool z]) w :=
  results_cell_tmp (p := 4) (q := 5) (ty := 32) (by rfl) tmps w g 32 C (0, 0) _ _ hp hq R Tryd.underlying32 rfl (by rw [hs]; exact No.i24)

set_option maxHeartbeats 8000000 in
theorem item_no {w : World} {v : Value} {t : List Nd} (P : Ls w 20 v (t.map ndC)) (K : TOk t) (hT : No.TT w) (i : Int) (h : inT t i = false) :
    Calls Tryd.prog 12 #[v, .int .i64 i] w fun e w' => e = .returned (.tuple #[.agg No.itZ, .bool false]) ∧ New w w' := by
  have hg := fun W (N : New w W) => good_trie (P.after N) K (hT.1.kept N)
  obtain ⟨a, c, rfl, hc, _⟩ := P.open noNd
  have HI : Hid (inT t i = false) := h
  obtain ⟨b, hb⟩ : ∃ b, okT t = b := ⟨_, rfl⟩
  rw [show (readF t).isSome = okT t from rfl, hb] at hg
  have HB : Hid (okT t = b) := hb
  clear P K hT h hb
  by_cases h0 : i < 0
  · have d0 : decide (i < 0) = true := decide_eq_true h0
    clear hg h0
    go_enter Tryd.func12, Tryd.ntmps12
    go_wp2_with (first
      | (refine wpList_alloc_at (by rfl) 4 (by rfl) 32 (by rfl) _ _ _ No.info24 ?_; intro W1 R1 N1)
      | refine wpList_build0 (by rfl) 32 (by rfl) _ builtZ ?_
      | (refine wpList_store_new (by rfl) 32 _ _ (by rfl) w.heap.size No.itZ (by rfl) (by rfl) 32 _ R1 No.i24 rfl itZ_one ?_; intro W2 R2 B2))
    exact bodyPost_ret (v := .tuple #[.agg No.itZ, .bool false]) (results_item rfl rfl R2 rfl) rfl ⟨rfl, B2.new N1 (Nat.le_refl _)⟩
  have d0 : decide (i < 0) = false := decide_eq_false h0
  by_cases h1 : (t.length : Int) ≤ i
  · have d1 : decide ((t.length : Int) ≤ i) = true := decide_eq_true h1
    clear hg h0 h1
    go_enter Tryd.func12, Tryd.ntmps12
    go_wp2_with (first
      | (refine wpList_alloc_at (by rfl) 4 (by rfl) 32 (by rfl) _ _ _ No.info24 ?_; intro W1 R1 N1)
      | refine wpList_build0 (by rfl) 32 (by rfl) _ builtZ ?_
      | (refine wpList_store_new (by rfl) 32 _ _ (by rfl) w.heap.size No.itZ (by rfl) (by rfl) 32 _ R1 No.i24 rfl itZ_one ?_; intro W2 R2 B2))
    exact bodyPost_ret (v := .tuple #[.agg No.itZ, .bool false]) (results_item rfl rfl R2 rfl) rfl ⟨rfl, B2.new N1 (Nat.le_refl _)⟩
  have d1 : decide ((t.length : Int) ≤ i) = false := decide_eq_false h1
  obtain rfl : b = false := by
    have := HI.out
    unfold inT at this
    rw [HB.out, show decide (0 ≤ i) = true from decide_eq_true (by omega), show decide (i < (t.length : Int)) = true from decide_eq_true (by omega)] at this
    simpa using this
  clear h0 h1
  go_enter Tryd.func12, Tryd.ntmps12
  go_wp2_with (first
      | (refine wpList_alloc_at (by rfl) 4 (by rfl) 32 (by rfl) _ _ _ No.info24 ?_; intro W1 R1 N1))
  refine Calls.mono (hg _ N1) ?_
  rintro _ W3 ⟨rfl, N3⟩
  have R3 := R1.after N3
  clear hg
  go_wp2_with (first
      | refine wpList_build0 (by rfl) 32 (by rfl) _ builtZ ?_
      | (refine wpList_store_new (by rfl) 32 _ _ (by rfl) w.heap.size No.itZ (by rfl) (by rfl) 32 _ R3 No.i24 rfl itZ_one ?_; intro W2 R2 B2))
  exact bodyPost_ret (v := .tuple #[.agg No.itZ, .bool false]) (results_item rfl rfl R2 rfl) rfl ⟨rfl, B2.new (N1.trans N3) (Nat.le_refl _)⟩

end Go.Proofs.YtjikdbmdaeonlaaDoor
namespace Go.Proofs.YtjikdbmdaeonlaaDoor
open Go.RowKit
set_option maxRecDepth 20000

set_option maxHeartbeats 8000000 in
theorem item_yes {w : World} {v : Value} {t : List Nd} (P : Ls w 20 v (t.map ndC)) (K : TOk t) (hT : No.TT w) {i : Nat} {m : Nd} (hm : t[i]? = some m) (h : okT t = true) :
    Calls Tryd.prog 12 #[v, .int .i64 (i : Int)] w fun e w' => ∃ a c, e = .returned (.tuple #[.agg (No.itC (itW m (HL t)) a c), .bool true]) ∧ No.Tx w' a (itW m (HL t)).hs ∧ (∀ x, a = some x → w.heap.size ≤ x.block) ∧ New w w' := by
  have hg := fun W (N : New w W) => good_trie (P.after N) K (hT.1.kept N)
  simp only [show (readF t).isSome = true from h] at hg
  have hi := (List.getElem?_eq_some_iff.1 hm).1
  have R := ok_rt h
  obtain ⟨L, hC⟩ := chn_ex R _ i (Nat.le_refl _) hi
  have hLt := hC.lt
  have hl := K.few
  have hlb := fun W (N : New w W) => lastBeneath_any (P.after N) R hC
  have hh := fun W (N : New w W) => hashesOf_any (P.after N) R K.few (hT.after N) (first := i + 1) (e := L + 1) (by omega) (by omega) (ok_chn h hC)
  have e1 : ((L + 1 : Nat) : Int) - 1 = (L : Int) := by omega
  rw [e1, Int.natCast_add, Int.natCast_one] at hh
  have hkd := ok_chn0 h hC hm
  have hmm := List.mem_of_getElem? hm
  have hio := fun W v' (Q : Ls W 1 v' ((partL t (i + 1) (L + 1)).map txC)) => itemOf_any (w := W) (R.k16 m hmm) (by have := goodB_len (R.half m hmm); omega) (by have := R.val m hmm; omega) Q (fun x hx => by
    have hxe := hkd x hx
    obtain ⟨j, rfl, hj, hjl⟩ := R.kd.kid i m hm x hx
    refine ⟨j, rfl, by rw [partL_len]; exact hjl, fun h0 => ?_⟩
    rw [partL_in t hjl (by omega) (by omega)] at h0
    have := R.len hjl
    rw [h0] at this; cases this)
  rw [R.part hm hkd] at hio
  have hsz := fun a c => No.itC_one (itW m (HL t)) a c
  have hml : (ndC m).length = 20 := ndC_len (R.k16 m hmm)
  obtain ⟨a, c, rfl, hc, HS⟩ := P.open noNd
  obtain ⟨g, o, rfl, hgw, hr⟩ := HS.out (by omega)
  have hrn := fun W (N : New w W) => hr W N i hi
  rw [getD_some hm] at hrn
  have d0 : decide ((i : Int) < 0) = false := decide_eq_false (by omega)
  have d1 : decide ((t.length : Int) ≤ (i : Int)) = false := decide_eq_false (by omega)
  have hil : (i : Int) < (t.length : Int) := by omega
  clear P K hT h R hkd e1 hC hr hm hmm
  generalize itW m (HL t) = I at *
  go_enter Tryd.func12, Tryd.ntmps12
  go_wp2_with (first
      | (refine wpList_alloc_at (by rfl) 4 (by rfl) 32 (by rfl) _ _ _ No.info24 ?_; intro W1 R1 N1))
  refine Calls.mono (hg _ N1) ?_
  rintro _ W3 ⟨rfl, N3⟩
  have R3 := R1.after N3
  have N13 := N1.trans N3
  clear hg R1 N1 N3
  go_wp2_with fail
  refine Calls.mono (hlb _ N13) ?_
  rintro _ W4 ⟨rfl, N4⟩
  have R4 := R3.after N4
  have N14 := N13.trans N4
  clear hlb R3 N13 N4
  go_wp2_with fail
  refine Calls.mono (hh _ N14) ?_
  rintro _ W5 ⟨v5, rfl, Q5, N5⟩
  have N5 : New W4 W5 := N5
  have R5 := R4.after N5
  have N15 := N14.trans N5
  have hio5 := hio _ _ Q5.ls
  have r5 := hrn _ N15
  clear hh hio hrn R4 N14 N5 Q5
  go_wp2_with (first
    | refine wpList_load_mid (by rfl) 55 _ (by rfl) g (o + i * 20) (by rfl) (ndC m) _ r5 Tryd.underlying55 rfl (by rw [hml]; exact i49) ?_)
  refine Calls.mono hio5 ?_
  rintro _ W6 ⟨aa, cc, rfl, hTx, hTb, N6⟩
  have h5 := R5.lt
  have R6 := R5.after N6
  have hs6 := hsz aa cc
  have HQ := hTx
  obtain ⟨C, hC⟩ : ∃ C, No.itC I aa cc = C := ⟨_, rfl⟩
  have HC : Hid (No.itC I aa cc = C) := hC
  have hCs : C.size = 6 := by rw [← hC]; rfl
  rw [hC] at hs6
  rw [hC]
  clear hsz hio5 r5 hC hTx
  go_wp2_with (first
    | (refine wpList_store_new (by rfl) 32 _ _ (by rfl) w.heap.size C (by rfl) (by rfl) 32 _ R6 (by rw [hCs]; exact No.i24) (by rw [hCs]; rfl) hs6 ?_; intro W9 R9 B9))
  have HQ9 : No.Tx W9 aa I.hs := HQ.of fun x hx hb => B9.block _ (fun e => by have := hTb x hx; omega)
  exact bodyPost_ret (v := .tuple #[.agg C, .bool true]) (results_item rfl rfl R9 hCs) rfl ⟨aa, cc, by rw [HC.out], HQ9, (fun x hx => by have := hTb x hx; omega), B9.new (N15.trans N6) (Nat.le_refl _)⟩

end Go.Proofs.YtjikdbmdaeonlaaDoor
