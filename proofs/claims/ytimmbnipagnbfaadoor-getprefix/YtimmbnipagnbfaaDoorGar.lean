/-
  The statements' common run: three pairs' nodes, asked for keys; a node that is none's.
-/
import Derived.Test.YtimmbnipagnbfaaDoorGaq
namespace Go.Proofs.YtimmbnipagnbfaaDoor
open Go.RowKit
set_option maxRecDepth 20000
set_option linter.unusedVariables false

section
variable {P : Program} {w : World} {ops : Array Oper} {rest : List Oper} {o : Oper} {a : Act} {Q : Exit → Act → World → Prop}
theorem wpList_run_want (hw : Region.wanted o (yielded ops a.tmps) = true) (v : Value) (w' : World) (hrun : (execOp a.eval o).run P w = .ok (.value v) w') (h : wpList P ops Q rest (a.put o.dst v) w') : wpList P ops Q (o :: rest) a w :=
  BigFrame.wpList_want hw fun K hK => by unfold Oper.wp; rw [hrun]; exact hK _ _ h
theorem exec_build0 {T : TypeId} {r : Value} (ho : o.op = .build T #[]) (hr : (Instr.build T #[]).run P w = .ok r w) : (execOp a.eval o).run P w = .ok (.value r) w := by
  unfold execOp
  simp only [ho, List.map_toArray, List.map_nil, Sem.run_bind, hr, Result.andThen_ok, Sem.run_pure]
end
def wl : List Pr := [([97], [49]), ([97, 98], [50]), ([98], [])]
def wt : List Nd := [extN [6] 1, brN false [] ((no16.set 1 2).set 2 4), brN true [49] (no16.set 6 3), leafN [2] [50], leafN [] []]
def w9t : List Nd := [⟨9, [], false, [], no16⟩]
theorem wl_may : mayB wl = true := by decide +kernel
theorem wl_build : buildN wl = wt := by decide +kernel
theorem wt_ok : okT wt = true := by
  unfold okT
  rw [readF_iff.2 ⟨wl_may, wl_build.symm, rfl⟩]; rfl
theorem wt_rL : rL wt = wl := by
  unfold rL
  rw [readF_iff.2 ⟨wl_may, wl_build.symm, rfl⟩]
theorem w9_ok : okT w9t = false := by decide +kernel
theorem wt_tok : TOk wt := ⟨by decide, by decide, by decide⟩
theorem w9_tok : TOk w9t := ⟨by decide, by decide, by decide⟩
theorem wl_bX : bX wl = wt := by unfold bX; rw [wl_may, if_pos rfl, wl_build]
theorem w_ab : ofK wt [97, 98] = some [50] ∧ errN wt [97, 98] = 0 ∧ wayK wt [97, 98] = [0, 1, 2, 3] := by
  refine ⟨?_, ?_, ?_⟩
  · rw [ofK_look wt_ok rfl, wt_rL]; decide +kernel
  · unfold errN; rw [wt_ok]; rfl
  · unfold wayK; rw [if_pos ⟨wt_ok, rfl⟩]; decide +kernel
theorem w_c : ofK wt [99] = none ∧ errN wt [99] = 0 ∧ wayK wt [99] = [0, 1] := by
  refine ⟨?_, ?_, ?_⟩
  · rw [ofK_look wt_ok rfl, wt_rL]; decide +kernel
  · unfold errN; rw [wt_ok]; rfl
  · unfold wayK; rw [if_pos ⟨wt_ok, rfl⟩]; decide +kernel
theorem w_none : ofK wt [] = none ∧ errN wt [] = 9 := by
  refine ⟨?_, ?_⟩
  · unfold ofK; rw [if_neg (by rintro ⟨_, h⟩; cases h)]
  · unfold errN; rw [wt_ok]; rfl
theorem w_9 : ofK w9t [97] = none ∧ errN w9t [97] = 1 := by
  refine ⟨?_, ?_⟩
  · unfold ofK; rw [w9_ok, if_neg (by rintro ⟨h, _⟩; cases h)]
  · unfold errN; rw [w9_ok]; rfl
theorem field_T (a : Option Addr) (n c : Nat) (b : Option Addr) (m d : Nat) (x : Bool) (w : World) : (Instr.field 45 (.agg #[.slice a n c, .slice b m d, .bool x]) 0).run Tryd.prog w = .ok (.slice a n c) w := by
  simp [Instr.field, run_underlying Tryd.underlying45, asAgg, part, Tryd.isAgg23, Tryd.sizeOf23]
theorem rows_ls {w : World} {g : Nat} {t : TypeId} {l : List Pr} {cs : Array Value} (R : Row w g cs t) (h : cs = (l.map prC).flatten.toArray) (hl : l.length ≤ 10000) : Ls w 2 (.slice (some ⟨g, 0, none⟩) l.length l.length) (l.map prC) := by
  subst h
  have he : ∀ e ∈ l.map prC, e.length = 2 := fun e he => by obtain ⟨p, _, rfl⟩ := List.mem_map.1 he; rfl
  have := Pl.make (F := fun _ => True) (c := l.length) he R (by rw [List.length_map]; exact Nat.le_refl _) (by unfold maxLen; omega) (by rw [List.size_toArray, flat_length he, List.length_map]) (by
    rw [List.take_of_length_le]
    rw [flat_length he]; exact Nat.le_refl _) trivial
  rw [List.length_map] at this
  exact this.ls
theorem nodes_ls {w : World} {g : Nat} {t : TypeId} {l : List Nd} {cs : Array Value} (R : Row w g cs t) (h : cs = (l.map ndC).flatten.toArray) (hl : l.length ≤ 10000) (hk : ∀ m ∈ l, m.kids.length = 16) : Ls w 20 (.slice (some ⟨g, 0, none⟩) l.length l.length) (l.map ndC) := by
  subst h
  have he : ∀ e ∈ l.map ndC, e.length = 20 := fun e he => by obtain ⟨p, hp, rfl⟩ := List.mem_map.1 he; exact ndC_len (hk p hp)
  have := Pl.make (F := fun _ => True) (c := l.length) he R (by rw [List.length_map]; exact Nat.le_refl _) (by unfold maxLen; omega) (by rw [List.size_toArray, flat_length he, List.length_map]) (by
    rw [List.take_of_length_le]
    rw [flat_length he]; exact Nat.le_refl _) trivial
  rw [List.length_map] at this
  exact this.ls
theorem nats_ls {w : World} {g : Nat} {t : TypeId} {l : List Nat} {cs : Array Value} (R : Row w g cs t) (h : cs = (l.map natC).flatten.toArray) (hl : l.length ≤ 10000) : Ls w 1 (.slice (some ⟨g, 0, none⟩) l.length l.length) (l.map natC) := by
  subst h
  have he : ∀ e ∈ l.map natC, e.length = 1 := fun e he => by obtain ⟨p, hp, rfl⟩ := List.mem_map.1 he; rfl
  have := Pl.make (F := fun _ => True) (c := l.length) he R (by rw [List.length_map]; exact Nat.le_refl _) (by unfold maxLen; omega) (by rw [List.size_toArray, flat_length he, List.length_map]) (by
    rw [List.take_of_length_le]
    rw [flat_length he]; exact Nat.le_refl _) trivial
  rw [List.length_map] at this
  exact this.ls
theorem built54_9 : Tryd.prog.built 54 [(0, .int .i64 9)] = some (ndA ⟨9, [], false, [], no16⟩) := by kernel_rfl
set_option maxHeartbeats 16000000 in
theorem wakes_any (w : World) (hT : Tab w) :
    Calls Tryd.prog 9 #[] w fun e w' => e = .returned (.bool true) ∧ New w w' := by
  have HT : Hid (Tab w) := hT
  clear hT
  go_enter Tryd.func9, Tryd.ntmps9
  go_wp2_with fail
  have P1 := rows_ls (l := wl) (Row.new w ((wl.map prC).flatten.toArray) 48) rfl (by decide)
  have N1 : New w (w.alloc (.cells ((wl.map prC).flatten.toArray) 48)) := (New.refl w).alloc _
  have hb := r_build P1 (by decide) (by decide)
  rw [wl_may, wl_bX] at hb
  clear P1
  refine Calls.mono hb ?_
  rintro _ W1 ⟨a, n, c, b, m, d, rfl, Q1, _, N2⟩
  have N12 : New w W1 := N1.trans N2
  obtain ⟨a', c', e, hc, _⟩ := Q1.open noNd
  cases e
  have hl1 : wt.length = 5 := rfl
  rw [hl1] at Q1 hc ⊢
  have hf := field_T a 5 c b m d true
  clear hb N1 N2
  have h1 := fun W (N : New w W) (M : New W1 W) => of_any12 (Q1.after M) wt_tok (HT.out.kept N) [97, 98]
  rw [w_ab.1, w_ab.2.1, show bs [97, 98] = (⟨#[97, 98]⟩ : ByteArray) from rfl] at h1
  have h2 := fun W (N : New w W) (M : New W1 W) => of_any12 (Q1.after M) wt_tok (HT.out.kept N) [99]
  rw [w_c.1, w_c.2.1, show bs [99] = (⟨#[99]⟩ : ByteArray) from rfl] at h2
  have h3 := fun W (N : New w W) (M : New W1 W) => of_any12 (Q1.after M) wt_tok (HT.out.kept N) []
  rw [w_none.1, w_none.2, show bs [] = (⟨#[]⟩ : ByteArray) from rfl] at h3
  have h4 := fun W (N : New w W) (M : New W1 W) => walk_any (Q1.after M) wt_tok (HT.out.kept N) [97, 98]
  rw [w_ab.2.2, w_ab.2.1, show bs [97, 98] = (⟨#[97, 98]⟩ : ByteArray) from rfl] at h4
  have h5 := fun W (N : New w W) (M : New W1 W) => walk_any (Q1.after M) wt_tok (HT.out.kept N) [99]
  rw [w_c.2.2, w_c.2.1, show bs [99] = (⟨#[99]⟩ : ByteArray) from rfl] at h5
  have HQ1 : Hid (Ls W1 20 (.slice a 5 c) (wt.map ndC)) := Q1
  clear Q1
  go_wp2_with fail
  refine Calls.mono (h1 _ N12 (New.refl _)) ?_
  rintro _ W2 ⟨rfl, N3⟩
  have N3 : New W1 W2 := N3
  have M2 := N12.trans N3
  clear h1
  go_wp2_with (first
    | (refine wpList_alloc_at (by rfl) 2 (by rfl) 27 (by rfl) _ _ _ info27 ?_; intro W3 R3 N4)
    | (refine wpList_store_new (by rfl) 27 _ _ (by rfl) W2.heap.size (ansA (some [50])) (by rfl) (by rfl) 27 _ R3 i27 rfl (ans_one _) ?_; intro W4 R4 B4; have N5 : New W2 W4 := B4.new N4 (Nat.le_refl _)))
  have hG1 : W2.heap.size < W4.heap.size := R4.lt
  have M4 := M2.trans N5
  have K4 := N3.trans N5
  generalize W2.heap.size = G1 at *
  clear R3 N4 B4 N3 M2 N5
  refine Calls.mono (h2 _ M4 K4) ?_
  rintro _ W5 ⟨rfl, N6⟩
  have N6 : New W4 W5 := N6
  have R5 := R4.after N6
  have hG5 := R5.lt
  have M5 := M4.trans N6
  have K5 := K4.trans N6
  clear h2 R4 hG1 M4 K4 N6
  go_wp2_with (first
    | (refine wpList_alloc_at (by rfl) 4 (by rfl) 27 (by rfl) _ _ _ info27 ?_; intro W6 R6 N7)
    | (refine wpList_store_new (by rfl) 27 _ _ (by rfl) W5.heap.size (ansA none) (by rfl) (by rfl) 27 _ R6 i27 rfl (ans_one _) ?_; intro W7 R7 B7; have N8 : New W5 W7 := B7.new N7 (Nat.le_refl _)))
  have R5' := R5.after N8
  have M7 := M5.trans N8
  have K7 := K5.trans N8
  generalize W5.heap.size = G2 at *
  clear R6 N7 B7 R5 hG5 M5 K5 N8
  refine Calls.mono (h3 _ M7 K7) ?_
  rintro _ W8 ⟨rfl, N9⟩
  have N9 : New W7 W8 := N9
  have R8 := R5'.after N9
  have R8' := R7.after N9
  have M8 := M7.trans N9
  have K8 := K7.trans N9
  clear h3 R5' R7 M7 K7 N9
  go_wp2_with (first
    | (refine wpList_alloc_at (by rfl) 6 (by rfl) 27 (by rfl) _ _ _ info27 ?_; intro W9 R9 N10)
    | (refine wpList_store_new (by rfl) 27 _ _ (by rfl) W8.heap.size (ansA none) (by rfl) (by rfl) 27 _ R9 i27 rfl (ans_one _) ?_; intro Wa Ra Ba; have N11 : New W8 Wa := Ba.new N10 (Nat.le_refl _)))
  have Ra1 := R8.after N11
  have Ra2 := R8'.after N11
  have Ma := M8.trans N11
  have Ka := K8.trans N11
  generalize W8.heap.size = G3 at *
  clear R9 N10 Ba Ra R8 R8' M8 K8 N11
  refine Calls.mono (h4 _ Ma Ka) ?_
  rintro _ Wb ⟨v4, rfl, Q4, N12'⟩
  have Rb1 := Ra1.after N12'
  have Rb2 := Ra2.after N12'
  have Mb := Ma.trans N12'
  have Kb := Ka.trans N12'
  have L4 : Hid (Ls Wb 1 v4 (([0, 1, 2, 3] : List Nat).map natC)) := Q4.ls
  clear h4 Ra1 Ra2 Ma Ka N12' Q4
  go_wp2_with fail
  refine Calls.mono (h5 _ Mb Kb) ?_
  rintro _ Wc ⟨v5, rfl, Q5, N13⟩
  have Rc1 := Rb1.after N13
  have Rc2 := Rb2.after N13
  have Mc := Mb.trans N13
  have L4c : Hid (Ls Wc 1 v4 (([0, 1, 2, 3] : List Nat).map natC)) := L4.out.after N13
  have L5 : Hid (Ls Wc 1 v5 (([0, 1] : List Nat).map natC)) := Q5.ls
  clear h5 Rb1 Rb2 Mb Kb N13 Q5 L4
  go_wp2_with (first
    | refine wpList_build1 (by rfl) 54 _ (by rfl) _ (by rfl) _ built54_9 ?_
    | (refine wpList_build_one (by rfl) 23 _ (by rfl) Tryd.underlying23 _ _ info49 (ndA ⟨9, [], false, [], no16⟩) (by rfl) rfl (by decide) (by decide) ?_; intro Wd Rd N14))
  have P9 := nodes_ls (l := w9t) Rd rfl (by decide) (by decide)
  have Rd1 := Rc1.after N14
  have Rd2 := Rc2.after N14
  have Md := Mc.trans N14
  have h6 := of_any12 P9 w9_tok (HT.out.kept Md) [97]
  rw [w_9.1, w_9.2, show bs [97] = (⟨#[97]⟩ : ByteArray) from rfl] at h6
  have L4d : Hid (Ls Wd 1 v4 (([0, 1, 2, 3] : List Nat).map natC)) := L4c.out.after N14
  have L5d : Hid (Ls Wd 1 v5 (([0, 1] : List Nat).map natC)) := L5.out.after N14
  clear P9 Rd Rc1 Rc2 Mc N14 L4c L5
  refine Calls.mono h6 ?_
  rintro _ We ⟨rfl, N15⟩
  have N15 : New Wd We := N15
  have Re1 := Rd1.after N15
  have Re2 := Rd2.after N15
  have Me := Md.trans N15
  have L4e : Hid (Ls We 1 v4 (([0, 1, 2, 3] : List Nat).map natC)) := L4d.out.after N15
  have L5e : Hid (Ls We 1 v5 (([0, 1] : List Nat).map natC)) := L5d.out.after N15
  clear h6 Rd1 Rd2 Md N15 L4d L5d
  go_wp2_with (first
    | (refine wpList_alloc_at (by rfl) 12 (by rfl) 27 (by rfl) _ _ _ info27 ?_; intro Wf Rf N16)
    | (refine wpList_store_new (by rfl) 27 _ _ (by rfl) We.heap.size (ansA none) (by rfl) (by rfl) 27 _ Rf i27 rfl (ans_one _) ?_; intro Wg Rg Bg; have N17 : New We Wg := Bg.new N16 (Nat.le_refl _); have Rg1 := Re1.after N17; have Rg2 := Re2.after N17; have he1 := fun w => eq_ans (some [50]) (some [50]) w; rw [decide_eq_true rfl] at he1; have he2 := fun w => eq_ans none none w; rw [decide_eq_true rfl] at he2)
    | refine wpList_load_want (by rfl) 27 _ (by rfl) G1 (by rfl) 27 (ansA (some [50])) _ Rg1 Tryd.underlying27 rfl i27 ?_
    | refine wpList_run_want (by rfl) (.agg (ansA (some [50]))) _ (exec_build2 (by rfl) (by rfl) (by rfl) (run_build _ 27 _ _ (built27_2 _))) ?_
    | refine wpList_load_want (by rfl) 27 _ (by rfl) G2 (by rfl) 27 (ansA none) _ Rg2 Tryd.underlying27 rfl i27 ?_
    | refine wpList_run_want (by rfl) (.agg (ansA none)) _ (exec_build0 (by rfl) (run_build _ 27 _ _ built27)) ?_)
  have hi1 := ints_any ((L4e.out.after N17).after ((New.refl Wg).alloc (.cells #[.int .i64 0, .int .i64 1, .int .i64 2, .int .i64 3] 3))) (nats_ls (l := [0, 1, 2, 3]) (Row.new Wg #[.int .i64 0, .int .i64 1, .int .i64 2, .int .i64 3] 3) rfl (by decide)) (by decide) (by decide)
  rw [decide_eq_true rfl] at hi1
  refine Calls.mono hi1 ?_
  rintro _ Wh ⟨rfl, N18⟩
  have Mh := (Me.trans N17).trans (((New.refl Wg).alloc (.cells #[.int .i64 0, .int .i64 1, .int .i64 2, .int .i64 3] 3)).trans N18)
  have Kh := N17.trans (((New.refl Wg).alloc (.cells #[.int .i64 0, .int .i64 1, .int .i64 2, .int .i64 3] 3)).trans N18)
  have L5h : Hid (Ls Wh 1 v5 (([0, 1] : List Nat).map natC)) := L5e.out.after Kh
  clear hi1 N18 Rg Rg1 Rg2 Bg N16 Rf he1 he2 Re1 Re2 L4e L5e Me Kh N17
  go_wp2_with fail
  have hi2 := ints_any (L5h.out.after ((New.refl Wh).alloc (.cells #[.int .i64 0, .int .i64 1] 3))) (nats_ls (l := [0, 1]) (Row.new Wh #[.int .i64 0, .int .i64 1] 3) rfl (by decide)) (by decide) (by decide)
  rw [decide_eq_true rfl] at hi2
  refine Calls.mono hi2 ?_
  rintro _ Wi ⟨rfl, N19⟩
  have Mi := Mh.trans (((New.refl Wh).alloc (.cells #[.int .i64 0, .int .i64 1] 3)).trans N19)
  clear hi2 N19
  go_wp2_with fail
  go_ret
  exact ⟨rfl, Mi⟩
end Go.Proofs.YtimmbnipagnbfaaDoor
