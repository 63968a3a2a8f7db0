/-
  The document's own add: the nodes of a stretch of pairs laid behind others, by induction on how deep it may go.
-/
import Derived.Test.YtjpjcojabjkaaaaDoorGan
namespace Go.Proofs.YtjpjcojabjkaaaaDoor
open Go.RowKit
set_option maxRecDepth 20000

set_option maxHeartbeats 8000000 in
theorem add_any (f : Nat) : AddOk f := by
  induction f with
  | zero =>
    intro w B M gl ol cl gn cn L ts ps i e n hn hn16
    omega
  | succ f ih =>
    intro w B M gl ol cl gn cn L ts ps i e n hn hn16 hie heL hL3 hfit hb hps hcl hcn hg hmk hrd
    obtain ⟨hMB, hBw, vt, vp, Ft, Fp, hR, hQt, hQp, hFt, hFp, hdis⟩ := hmk
    obtain ⟨p0, hp0⟩ : ∃ p, L[i]? = some p := ⟨L[i]'(by omega), List.getElem?_eq_getElem _⟩
    obtain ⟨at_, ct, rfl, hct⟩ := hQt.form
    obtain ⟨ap, cp, rfl, hcp⟩ := hQp.form
    rw [List.length_map] at hQt hct hR
    rw [List.length_map] at hQp hcp hR
    have c2 := hR.has 2 (v := .slice at_ ts.length ct) rfl
    have HR : Hid (Row w M #[.slice (some ⟨gl, ol, none⟩) L.length cl, .slice (some ⟨gn, 0, none⟩) L.length cn, .slice at_ ts.length ct, .slice ap ps.length cp] 68) := hR
    have HQt : Hid (Pl w Ft 55 20 (.slice at_ ts.length ct) (ts.map ndC)) := hQt
    have HQp : Hid (Pl w Fp 9 1 (.slice ap ps.length cp) (ps.map txC)) := hQp
    have HF : Hid (Apart B Ft Fp) := ⟨hFt, hFp, hdis⟩
    have HFIT : Hid (Fit (seg L i e) n) := hfit
    have HRD : Hid (Rd gl ol gn L w) := hrd
    have HP0 : Hid (L[i]? = some p0) := hp0
    have HIH : Hid (AddOk f) := ih
    have HPS : Hid (ps.length = ts.length) := hps
    have hp16 := hfit.len p0 (seg_mem (Nat.le_refl _) hie hp0)
    have htl : ts.length ≤ 40000 := by omega
    have hmt : (ts.map ndC).length = ts.length := List.length_map _
    have hmp : (ps.map txC).length = ps.length := List.length_map _
    clear hR hQt hQp hFt hFp hdis hfit hrd hp0 ih hps
    go_enter Tryd.func31, Tryd.ntmps31
    go_wp2_with (first
      | refine wpList_build0 (by rfl) 55 (by rfl) _ built49_0 ?_
      | (refine wpList_build_one (by rfl) 23 _ (by rfl) Tryd.underlying23 _ _ info49 (ndA nd0) (by rfl) rfl (by decide) (by decide) ?_; intro W1 R1 N1; have Q1 := HQt.out.after N1)
      | (refine wpList_append_pl Q1 (by rfl) _ _ 23 (by rfl) Tryd.underlying23 _ _ info49 rfl (by decide) w.heap.size (ndC nd0) 55 R1 rfl (ndC_one _) (by omega) (by decide) (by rfl) (by rfl) ?_; intro g5 c5 W5 Q5 G5; have R5 : Row W5 M _ 68 := (HR.out.after N1).of (G5.block M (Nat.lt_of_lt_of_le (Nat.lt_of_lt_of_le hMB hBw) N1.size) (fun e => by have := HF.out.t M (HQt.out.foot M e.symm); omega)); have f2 := R5.frozen 2; have c2' := R5.has 2 (v := .slice at_ ts.length ct) rfl))
    rw [hmt] at Q5
    have R6 : Row (W5.setCell ⟨M, 2, none⟩ (.slice (some ⟨g5, 0, none⟩) (ts.length + 1) c5)) M #[.slice (some ⟨gl, ol, none⟩) L.length cl, .slice (some ⟨gn, 0, none⟩) L.length cn, .slice (some ⟨g5, 0, none⟩) (ts.length + 1) c5, .slice ap ps.length cp] 68 := R5.set 2 _
    have hFQ5 : ∀ b, (Ft b ∨ W1.heap.size ≤ b) → B ≤ b := fun b hb => hb.elim (HF.out.t b) (fun h => Nat.le_trans (Nat.le_trans hBw N1.size) h)
    have Q6 : Pl (W5.setCell ⟨M, 2, none⟩ (.slice (some ⟨g5, 0, none⟩) (ts.length + 1) c5)) (fun b => Ft b ∨ W1.heap.size ≤ b) 55 20 (.slice (some ⟨g5, 0, none⟩) (ts.length + 1) c5) (ts.map ndC ++ [ndC nd0]) := Q5.of (fun b hb _ => Below.heap_setCell _ _ _ _ (by have := hFQ5 b hb; show b ≠ M; omega)) (fun _ h _ => h)
    have hpl : ∀ b, Fp b → b < w.heap.size → b < W1.heap.size := fun b _ h => Nat.lt_of_lt_of_le h N1.size
    have Qp6 : Pl (W5.setCell ⟨M, 2, none⟩ (.slice (some ⟨g5, 0, none⟩) (ts.length + 1) c5)) (fun b => Fp b ∧ b < w.heap.size) 9 1 (.slice ap ps.length cp) (ps.map txC) := by
      refine (HQp.out.mono (G := fun b => Fp b ∧ b < w.heap.size) (fun b hb hlt => ⟨hb, hlt⟩)).of (fun b hb hlt => ?_) (fun _ h _ => h)
      have h1 := HF.out.p b hb.1
      rw [Below.heap_setCell _ _ _ _ (by show b ≠ M; omega), G5.block b (Nat.lt_of_lt_of_le hlt N1.size) (fun e => HF.out.d b (HQt.out.foot b e.symm) hb.1), N1.block b hlt]
    have T6 : Thru B M w (W5.setCell ⟨M, 2, none⟩ (.slice (some ⟨g5, 0, none⟩) (ts.length + 1) c5)) := ((Thru.new N1 hBw).trans (Thru.grown G5 (Nat.le_trans hBw N1.size) (fun k hk => HF.out.t k (HQt.out.foot k hk)))).trans (Thru.setM _ _ _)
    have HF6 : Hid (Apart B (fun b => Ft b ∨ W1.heap.size ≤ b) (fun b => Fp b ∧ b < w.heap.size)) := ⟨hFQ5, fun b hb => HF.out.p b hb.1, fun b hb h => hb.elim (fun h1 => HF.out.d b h1 h.1) (fun h1 => by have := h.2; have := N1.size; omega)⟩
    clear hFQ5 hpl R5 f2 c2 c2' Q5 G5 Q1 HQt HQp HF HR
    generalize W5.setCell ⟨M, 2, none⟩ (.slice (some ⟨g5, 0, none⟩) (ts.length + 1) c5) = W6 at *
    generalize (fun b => Ft b ∨ W1.heap.size ≤ b) = Ft' at Q6 HF6
    generalize (fun b => Fp b ∧ b < w.heap.size) = Fp' at Qp6 HF6
    clear R1 N1
    have HR6 : Hid (Row W6 M #[.slice (some ⟨gl, ol, none⟩) L.length cl, .slice (some ⟨gn, 0, none⟩) L.length cn, .slice (some ⟨g5, 0, none⟩) (ts.length + 1) c5, .slice ap ps.length cp] 68) := R6
    have hrd6 := HRD.out.thru T6 hg
    have hsz : n ≤ (bs p0.1).size := by rw [bs_size]; exact hp16.1
    have hex := bs_take p0.1 n
    have hS : HasL [(M, 3, .slice ap ps.length cp), (M, 1, .slice (some ⟨gn, 0, none⟩) L.length cn), (gn, i, .string (bs p0.1))] W6.drew := HasL.of fun x hx => by
      simp only [List.mem_cons, List.not_mem_nil, or_false] at hx
      rcases hx with rfl | rfl | rfl
      · exact R6.has 3 rfl
      · exact R6.has 1 rfl
      · exact (hrd6 i p0 HP0.out).1
    have HQ6 : Hid (Pl W6 Ft' 55 20 (.slice (some ⟨g5, 0, none⟩) (ts.length + 1) c5) (ts.map ndC ++ [ndC nd0])) := Q6
    have HQp6 : Hid (Pl W6 Fp' 9 1 (.slice ap ps.length cp) (ps.map txC)) := Qp6
    have hB6 : B ≤ W6.heap.size := Nat.le_trans hBw T6.size
    clear R6 hrd6 Q6 Qp6
    refine region_take [0, 1, 2, 3, 4, 5, 6, 7, 8, 9, 10, 11, 12, 13] [14, 15, 16, 17] 18 (HasL [(M, 3, .slice ap ps.length cp), (M, 1, .slice (some ⟨gn, 0, none⟩) L.length cn), (gn, i, .string (bs p0.1))]) hS (by kernel_rfl) (by kernel_rfl) (fun d _ _ _ _ h => by cases d <;> exact h) ?_
    simp only [pick, List.getElem?_cons_succ, List.getElem?_cons_zero, Option.toList_some, List.cons_append, List.nil_append]
    have hne : Nonempty (CsW [(M, 3, .slice ap ps.length cp), (M, 1, .slice (some ⟨gn, 0, none⟩) L.length cn), (gn, i, .string (bs p0.1))]) := ⟨hS.choose⟩
    have q0 : ∀ q : CsW [(M, 3, .slice ap ps.length cp), (M, 1, .slice (some ⟨gn, 0, none⟩) L.length cn), (gn, i, .string (bs p0.1))], q.v.cell? ⟨M, 3, none⟩ = some (.slice ap ps.length cp) := fun q => q.h (M, 3, .slice ap ps.length cp) (by simp)
    have q1 : ∀ q : CsW [(M, 3, .slice ap ps.length cp), (M, 1, .slice (some ⟨gn, 0, none⟩) L.length cn), (gn, i, .string (bs p0.1))], q.v.cell? ⟨M, 1, none⟩ = some (.slice (some ⟨gn, 0, none⟩) L.length cn) := fun q => q.h (M, 1, .slice (some ⟨gn, 0, none⟩) L.length cn) (by simp)
    have q2 : ∀ q : CsW [(M, 3, .slice ap ps.length cp), (M, 1, .slice (some ⟨gn, 0, none⟩) L.length cn), (gn, i, .string (bs p0.1))], q.v.cell? ⟨gn, i, none⟩ = some (.string (bs p0.1)) := fun q => q.h (gn, i, .string (bs p0.1)) (by simp)
    unfold HasL
    repeat (go_big_quiet_step (fail))
    refine wpQuiet_nil ?_
    clear q0 q1 q2 hne
    have NW0 : New W6 W6.drew := New.drew W6
    have hb1 : (Instr.buildSlice 41 1 #[(0, .string (bs (p0.1.take n)))]).run Tryd.prog W6.drew = .ok (.slice (some ⟨W6.heap.size, 0, none⟩) 1 1) (W6.drew.alloc (.cells #[.string (bs (p0.1.take n))] 9)) := run_buildCell (P := Tryd.prog) W6.drew 41 9 (.string (bs (p0.1.take n))) _ _ Tryd.underlying41 info9 rfl
    have R7 : Row (W6.drew.alloc (.cells #[.string (bs (p0.1.take n))] 9)) W6.heap.size #[.string (bs (p0.1.take n))] 9 := Row.new W6.drew #[.string (bs (p0.1.take n))] 9
    have N7 : New W6.drew (W6.drew.alloc (.cells #[.string (bs (p0.1.take n))] 9)) := (New.refl _).alloc _
    generalize W6.drew.alloc (.cells #[.string (bs (p0.1.take n))] 9) = W7 at hb1 R7 N7
    have hS7 := hS.new N7
    refine wpPre_run (some 43) _ W7 (by rfl) (by rfl) (by rfl) (exec_buildSlice (by rfl) (by rfl) hb1) hS7 ?_
    simp only [Act.put, List.setIfInBounds_toArray, List.set_cons_zero, List.set_cons_succ]
    have Qp7 := (HQp6.out.after NW0).after N7
    have N67 := NW0.trans N7
    obtain ⟨g8, c8, W8, hap, Q8, G8⟩ := run_append_pl Qp7 41 41 Tryd.underlying41 _ _ info9 rfl (by decide) W6.heap.size (txC (p0.1.take n)) 9 R7 rfl (txC_one _) (by have := HPS.out; omega) (by decide)
    rw [hmp] at hap Q8
    have hown : ∀ b, some b = (Value.slice ap ps.length cp).ownBlock → B ≤ b := fun b hb => HF6.out.p b (HQp6.out.foot b hb.symm)
    have hS8 : HasL [(M, 3, .slice ap ps.length cp), (M, 1, .slice (some ⟨gn, 0, none⟩) L.length cn), (gn, i, .string (bs p0.1))] W8 := hS7.grown G8 fun x hx e => by
      have := hown _ e
      simp only [List.mem_cons, List.not_mem_nil, or_false] at hx
      rcases hx with rfl | rfl | rfl
      · exact absurd this (by show ¬ B ≤ M; omega)
      · exact absurd this (by show ¬ B ≤ M; omega)
      · exact absurd this (by show ¬ B ≤ gn; omega)
    refine wpPre_run (some 44) _ W8 (by rfl) (by rfl) (by rfl) (exec_append (by rfl) (by rfl) (by rfl) hap) hS8 ?_
    simp only [Act.put, List.setIfInBounds_toArray, List.set_cons_zero, List.set_cons_succ]
    refine wpPre_run (some 45) (.pointer (some ⟨M, 0, none⟩)) W8 (by rfl) (by rfl) (by rfl) (by go_simp) hS8 ?_
    simp only [Act.put, List.setIfInBounds_toArray, List.set_cons_zero, List.set_cons_succ]
    refine wpPre_run (some 46) (.pointer (some ⟨M, 3, none⟩)) W8 (by rfl) (by rfl) (by rfl) (by go_simp) hS8 ?_
    simp only [Act.put, List.setIfInBounds_toArray, List.set_cons_zero, List.set_cons_succ]
    refine wpPre_nil ?_
    have hM7 : M < W7.heap.size := Nat.lt_of_lt_of_le (Nat.lt_of_lt_of_le hMB hB6) N67.size
    have R8 : Row W8 M #[.slice (some ⟨gl, ol, none⟩) L.length cl, .slice (some ⟨gn, 0, none⟩) L.length cn, .slice (some ⟨g5, 0, none⟩) (ts.length + 1) c5, .slice ap ps.length cp] 68 := (HR6.out.after N67).of (G8.block M hM7 (fun e => by have := hown _ e; omega))
    have f3 := R8.frozen 3
    have c3 := R8.has 3 (v := .slice ap ps.length cp) rfl
    have R9 : Row (W8.setCell ⟨M, 3, none⟩ (.slice (some ⟨g8, 0, none⟩) (ps.length + 1) c8)) M #[.slice (some ⟨gl, ol, none⟩) L.length cl, .slice (some ⟨gn, 0, none⟩) L.length cn, .slice (some ⟨g5, 0, none⟩) (ts.length + 1) c5, .slice (some ⟨g8, 0, none⟩) (ps.length + 1) c8] 68 := R8.set 3 _
    have hFp8 : ∀ b, (Fp' b ∨ W7.heap.size ≤ b) → B ≤ b := fun b hb => hb.elim (HF6.out.p b) (fun h => Nat.le_trans (Nat.le_trans hB6 N67.size) h)
    have Qp9 : Pl (W8.setCell ⟨M, 3, none⟩ (.slice (some ⟨g8, 0, none⟩) (ps.length + 1) c8)) (fun b => Fp' b ∨ W7.heap.size ≤ b) 9 1 (.slice (some ⟨g8, 0, none⟩) (ps.length + 1) c8) (ps.map txC ++ [txC (p0.1.take n)]) := Q8.of (fun b hb _ => Below.heap_setCell _ _ _ _ (by have := hFp8 b hb; show b ≠ M; omega)) (fun _ h _ => h)
    have Qt9 : Pl (W8.setCell ⟨M, 3, none⟩ (.slice (some ⟨g8, 0, none⟩) (ps.length + 1) c8)) (fun b => Ft' b ∧ b < W6.heap.size) 55 20 (.slice (some ⟨g5, 0, none⟩) (ts.length + 1) c5) (ts.map ndC ++ [ndC nd0]) := by
      refine (HQ6.out.mono (G := fun b => Ft' b ∧ b < W6.heap.size) (fun b hb hlt => ⟨hb, hlt⟩)).of (fun b hb hlt => ?_) (fun _ h _ => h)
      have h1 := HF6.out.t b hb.1
      rw [Below.heap_setCell _ _ _ _ (by show b ≠ M; omega), G8.block b (Nat.lt_of_lt_of_le hlt N67.size) (fun e => HF6.out.d b hb.1 (HQp6.out.foot b e.symm)), N67.block b hlt]
    have T9 : Thru B M w (W8.setCell ⟨M, 3, none⟩ (.slice (some ⟨g8, 0, none⟩) (ps.length + 1) c8)) := T6.trans (((Thru.new N67 hB6).trans (Thru.grown G8 (Nat.le_trans hB6 N67.size) (fun k hk => hown k hk.symm))).trans (Thru.setM _ _ _))
    have HF9 : Hid (Apart B (fun b => Ft' b ∧ b < W6.heap.size) (fun b => Fp' b ∨ W7.heap.size ≤ b)) := ⟨fun b hb => HF6.out.t b hb.1, hFp8, fun b hb h => h.elim (fun h1 => HF6.out.d b hb.1 h1) (fun h1 => by have := hb.2; have := N67.size; omega)⟩
    have HR9 : Hid (Row _ M #[.slice (some ⟨gl, ol, none⟩) L.length cl, .slice (some ⟨gn, 0, none⟩) L.length cn, .slice (some ⟨g5, 0, none⟩) (ts.length + 1) c5, .slice (some ⟨g8, 0, none⟩) (ps.length + 1) c8] 68) := R9
    have HQt9 : Hid (Pl _ (fun b => Ft' b ∧ b < W6.heap.size) 55 20 (.slice (some ⟨g5, 0, none⟩) (ts.length + 1) c5) (ts.map ndC ++ [ndC nd0])) := Qt9
    have HQp9 : Hid (Pl _ (fun b => Fp' b ∨ W7.heap.size ≤ b) 9 1 (.slice (some ⟨g8, 0, none⟩) (ps.length + 1) c8) (ps.map txC ++ [txC (p0.1.take n)])) := Qp9
    have hB9 : B ≤ (W8.setCell ⟨M, 3, none⟩ (.slice (some ⟨g8, 0, none⟩) (ps.length + 1) c8)).heap.size := Nat.le_trans hBw T9.size
    clear hS hS7 hS8 hb1 R7 Qp7 N67 hap Q8 hown R8 R9 hFp8 Qp9 Qt9 T6 HF6 HR6 HQ6 HQp6 hex hsz hB6 NW0 N7 hM7
    generalize (fun b => Ft' b ∧ b < W6.heap.size) = Ft9 at HF9 HQt9
    generalize (fun b => Fp' b ∨ W7.heap.size ≤ b) = Fp9 at HF9 HQp9
    by_cases he1 : e = i + 1
    · subst he1
      go_wp2_with fail
      clear G8 f3 c3
      generalize W8.setCell ⟨M, 3, none⟩ (.slice (some ⟨g8, 0, none⟩) (ps.length + 1) c8) = W9 at *
      have hrd9 := HRD.out.thru T9 hg i p0 HP0.out
      have hS : HasL [(M, 2, .slice (some ⟨g5, 0, none⟩) (ts.length + 1) c5), (M, 1, .slice (some ⟨gn, 0, none⟩) L.length cn), (gn, i, .string (bs p0.1)), (M, 0, .slice (some ⟨gl, ol, none⟩) L.length cl), (gl, ol + i * 2 + 1, .string (bs p0.2))] W9.drew := HasL.of fun x hx => by
        simp only [List.mem_cons, List.not_mem_nil, or_false] at hx
        rcases hx with rfl | rfl | rfl | rfl | rfl
        · exact HR9.out.has 2 rfl
        · exact HR9.out.has 1 rfl
        · exact hrd9.1
        · exact HR9.out.has 0 rfl
        · exact hrd9.2
      have hsz : n ≤ (bs p0.1).size := by rw [bs_size]; exact hp16.1
      have hex := bs_drop p0.1 n
      have hbl := built49_leaf (bs (p0.1.drop n)) (bs p0.2)
      have hin : i < L.length := by omega
      refine region_take [0, 1, 2, 3, 4, 5, 6, 7, 8, 9, 10, 11, 12, 13, 14, 15, 16, 17, 18, 19, 20, 21, 22, 23] [] 24 (HasL [(M, 2, .slice (some ⟨g5, 0, none⟩) (ts.length + 1) c5), (M, 1, .slice (some ⟨gn, 0, none⟩) L.length cn), (gn, i, .string (bs p0.1)), (M, 0, .slice (some ⟨gl, ol, none⟩) L.length cl), (gl, ol + i * 2 + 1, .string (bs p0.2))]) hS (by kernel_rfl) (by kernel_rfl) (fun d _ _ _ _ h => by cases d <;> exact h) ?_
      simp only [pick, List.getElem?_cons_succ, List.getElem?_cons_zero, Option.toList_some, List.cons_append, List.nil_append]
      have hne : Nonempty (CsW [(M, 2, .slice (some ⟨g5, 0, none⟩) (ts.length + 1) c5), (M, 1, .slice (some ⟨gn, 0, none⟩) L.length cn), (gn, i, .string (bs p0.1)), (M, 0, .slice (some ⟨gl, ol, none⟩) L.length cl), (gl, ol + i * 2 + 1, .string (bs p0.2))]) := ⟨hS.choose⟩
      have q0 : ∀ q : CsW [(M, 2, .slice (some ⟨g5, 0, none⟩) (ts.length + 1) c5), (M, 1, .slice (some ⟨gn, 0, none⟩) L.length cn), (gn, i, .string (bs p0.1)), (M, 0, .slice (some ⟨gl, ol, none⟩) L.length cl), (gl, ol + i * 2 + 1, .string (bs p0.2))], q.v.cell? ⟨M, 2, none⟩ = some (.slice (some ⟨g5, 0, none⟩) (ts.length + 1) c5) := fun q => q.h (M, 2, .slice (some ⟨g5, 0, none⟩) (ts.length + 1) c5) (by simp)
      have q1 : ∀ q : CsW [(M, 2, .slice (some ⟨g5, 0, none⟩) (ts.length + 1) c5), (M, 1, .slice (some ⟨gn, 0, none⟩) L.length cn), (gn, i, .string (bs p0.1)), (M, 0, .slice (some ⟨gl, ol, none⟩) L.length cl), (gl, ol + i * 2 + 1, .string (bs p0.2))], q.v.cell? ⟨M, 1, none⟩ = some (.slice (some ⟨gn, 0, none⟩) L.length cn) := fun q => q.h (M, 1, .slice (some ⟨gn, 0, none⟩) L.length cn) (by simp)
      have q2 : ∀ q : CsW [(M, 2, .slice (some ⟨g5, 0, none⟩) (ts.length + 1) c5), (M, 1, .slice (some ⟨gn, 0, none⟩) L.length cn), (gn, i, .string (bs p0.1)), (M, 0, .slice (some ⟨gl, ol, none⟩) L.length cl), (gl, ol + i * 2 + 1, .string (bs p0.2))], q.v.cell? ⟨gn, i, none⟩ = some (.string (bs p0.1)) := fun q => q.h (gn, i, .string (bs p0.1)) (by simp)
      have q3 : ∀ q : CsW [(M, 2, .slice (some ⟨g5, 0, none⟩) (ts.length + 1) c5), (M, 1, .slice (some ⟨gn, 0, none⟩) L.length cn), (gn, i, .string (bs p0.1)), (M, 0, .slice (some ⟨gl, ol, none⟩) L.length cl), (gl, ol + i * 2 + 1, .string (bs p0.2))], q.v.cell? ⟨M, 0, none⟩ = some (.slice (some ⟨gl, ol, none⟩) L.length cl) := fun q => q.h (M, 0, .slice (some ⟨gl, ol, none⟩) L.length cl) (by simp)
      have q4 : ∀ q : CsW [(M, 2, .slice (some ⟨g5, 0, none⟩) (ts.length + 1) c5), (M, 1, .slice (some ⟨gn, 0, none⟩) L.length cn), (gn, i, .string (bs p0.1)), (M, 0, .slice (some ⟨gl, ol, none⟩) L.length cl), (gl, ol + i * 2 + 1, .string (bs p0.2))], q.v.cell? ⟨gl, ol + i * 2 + 1, none⟩ = some (.string (bs p0.2)) := fun q => q.h (gl, ol + i * 2 + 1, .string (bs p0.2)) (by simp)
      unfold HasL
      repeat (go_big_quiet_step (fail))
      refine wpQuiet_nil ?_
      refine wpPre_nil ?_
      clear hne q0 q1 q2 q3 q4 hS
      have QD := HQt9.out.after (New.drew W9)
      have hbb : (ts.map ndC ++ [ndC nd0]).length = ts.length + 1 := by rw [List.length_append, hmt]; rfl
      refine wpList_store_pl (by rfl) 55 _ _ (by rfl) Ft9 55 20 g5 (ts.length + 1) c5 ts.length (ts.map ndC ++ [ndC nd0]) (ndC (leafN (p0.1.drop n) p0.2)) QD (by omega) (by rfl) (by rfl) rfl (by rw [i49]; rfl) (ndC_one _) ?_
      intro W10 Q10 B10
      have hset : (ts.map ndC ++ [ndC nd0]).set ts.length (ndC (leafN (p0.1.drop n) p0.2)) = (ts ++ [leafN (p0.1.drop n) p0.2]).map ndC := by
        rw [List.map_append, ← hmt, List.set_append_right _ _ (Nat.le_refl _), Nat.sub_self]; rfl
      rw [hset] at Q10
      have HG : Hid (grow (f + 1) (seg L i (i + 1)) n ts.length = [(leafN (p0.1.drop n) p0.2, p0.1.take n)]) := grow_leaf (seg_one HP0.out)
      have hg5F := HF9.out.t g5 (QD.foot g5 rfl)
      have hFg5 : Ft9 g5 := QD.foot g5 rfl
      have RD := (HR9.out.after (New.drew W9)).of (B10.block M (by omega))
      have QpD := (HQp9.out.after (New.drew W9)).of (F := Fp9) (fun b hb _ => B10.block b (fun e => HF9.out.d g5 hFg5 (e ▸ hb))) (fun _ h _ => h)
      have T10 : Thru B M w W10 := T9.trans ((Thru.new (New.drew W9) hB9).trans (Thru.but B10 hg5F))
      clear hset hbb QD hex hbl
      go_wp2_with fail
      go_ret
      refine ⟨rfl, ⟨hMB, Nat.le_trans hBw T10.size, _, _, Ft9, Fp9, RD, ?_, ?_, HF9.out.t, HF9.out.p, HF9.out.d⟩, T10⟩
      · rw [HG.out]; exact Q10
      · rw [HG.out, List.map_append]; exact QpD
    · obtain ⟨m, rfl⟩ : ∃ m, e = m + 1 := ⟨e - 1, by omega⟩
      rw [show ((m + 1 : Nat) : Int) = (m : Int) + 1 by omega]
      obtain ⟨p1, hp1⟩ : ∃ p, L[m]? = some p := ⟨L[m]'(by omega), List.getElem?_eq_getElem _⟩
      have hp16' := HFIT.out.len p1 (seg_mem (i := i) (by omega) (by omega) hp1)
      have hS2 : 2 ≤ (seg L i (m + 1)).length := by rw [seg_len heL]; omega
      have HS2 : Hid (2 ≤ (seg L i (m + 1)).length) := hS2
      have hhd := head_seg hie HP0.out
      have hls := last_seg (i := i) (e := m) (by omega) hp1
      have hcom := fun W => refCommon_any (bs (p0.1.drop n)) (bs (p1.1.drop n)) (by rw [bs_size, List.length_drop]; omega) (by rw [bs_size, List.length_drop]; omega) W
      obtain ⟨C, hC⟩ : ∃ C, comG (seg L i (m + 1)) n = C := ⟨_, rfl⟩
      have hCC : comN (Go.Proofs.YtjpjcojabjkaaaaDoor.L (bs (p0.1.drop n))) (Go.Proofs.YtjpjcojabjkaaaaDoor.L (bs (p1.1.drop n))) = C := by
        rw [L_bs, L_bs, ← hC]
        unfold comG
        rw [hhd.1, hls]
      simp only [hCC] at hcom
      have hCle : n + C ≤ 16 := by
        have := (HFIT.out.com (by intro h; rw [h] at hS2; simp at hS2)).2
        rw [hC, hhd.1] at this
        omega
      have hCl : n + C ≤ p0.1.length := by
        have := (HFIT.out.com (by intro h; rw [h] at hS2; simp at hS2)).2
        rwa [hC, hhd.1] at this
      have HCO : Hid (comG (seg L i (m + 1)) n = C) := hC
      have HHD : Hid (headK (seg L i (m + 1)) = p0.1 ∧ headVal (seg L i (m + 1)) = p0.2) := hhd
      have hne1 : decide (m = i) = false := decide_eq_false (by omega)
      have hne2 : ((m : Int) + 1 == (i : Int) + 1) = false := by rw [beq_eq_false_iff_ne]; omega
      have HP1 : Hid (L[m]? = some p1) := hp1
      have hmL : m < L.length := by omega
      have hiL : i < L.length := by omega
      have hsz : n ≤ (bs p0.1).size := by rw [bs_size]; exact hp16.1
      have hsz1 : n ≤ (bs p1.1).size := by rw [bs_size]; exact hp16'.1
      have hex := bs_drop p0.1 n
      have hex1 := bs_drop p1.1 n
      have hmi : ¬ m = i := by omega
      clear hS2 hhd hls hC hCC hp1 he1
      go_wp2_with fail
      clear G8 f3 c3
      generalize W8.setCell ⟨M, 3, none⟩ (.slice (some ⟨g8, 0, none⟩) (ps.length + 1) c8) = W9 at *
      have hrd9 := HRD.out.thru T9 hg
      have q1 := NewW.cell (HR9.out.has 1 (v := .slice (some ⟨gn, 0, none⟩) L.length cn) rfl)
      have q2 := NewW.cell (hrd9 i p0 HP0.out).1
      have q3 := NewW.cell (hrd9 m p1 HP1.out).1
      have hne := NewW.ne W9
      clear hrd9
      refine region_new W9 (New.refl W9) (by kernel_rfl) (by kernel_rfl) ?_
      repeat (go_big_quiet_step (first | (go_at_call 45; exact Calls.neww (hcom _))))
      refine wpQuiet_nil ?_
      rintro Wa ⟨⟨_, ka⟩, rfl⟩
      clear q1 q2 q3 hne hcom hex1 hex hsz1
      have HRa : Hid (Row Wa M _ 68) := HR9.out.after ka
      have HQta : Hid (Pl Wa Ft9 55 20 (.slice (some ⟨g5, 0, none⟩) (ts.length + 1) c5) (ts.map ndC ++ [ndC nd0])) := HQt9.out.after ka
      have HQpa : Hid (Pl Wa Fp9 9 1 (.slice (some ⟨g8, 0, none⟩) (ps.length + 1) c8) (ps.map txC ++ [txC (p0.1.take n)])) := HQp9.out.after ka
      have Ta : Thru B M w Wa := T9.trans (Thru.new ka hB9)
      have hBa : B ≤ Wa.heap.size := Nat.le_trans hBw Ta.size
      clear HR9 HQt9 HQp9 T9 hB9 ka
      by_cases hc0 : C = 0
      · subst hc0
        try simp only [Int.natCast_zero]
        have F : Fork (seg L i (m + 1)) n := ⟨HFIT.out, HS2.out, HCO.out⟩
        have HFK : Hid (Fork (seg L i (m + 1)) n) := F
        have hrs := rest_seg (n := n) hie HP0.out
        have hg5F : Ft9 g5 := HQta.out.foot g5 rfl
        have hg5B := HF9.out.t g5 hg5F
        have hm2 := HRa.out.has 2 (v := .slice (some ⟨g5, 0, none⟩) (ts.length + 1) c5) rfl
        have hm1 := HRa.out.has 1 (v := .slice (some ⟨gn, 0, none⟩) L.length cn) rfl
        have hkn := (HRD.out.thru Ta hg i p0 HP0.out).1
        have e0 : (ts.map ndC ++ [ndC nd0])[ts.length]? = some (ndC nd0) := by rw [← hmt, List.getElem?_append_right (Nat.le_refl _), Nat.sub_self]; rfl
        obtain ⟨cck, ffk⟩ := HQta.out.cellAt e0 (j := 0) (u := .int .i64 0) rfl
        have Q3 := HQta.out.setCell e0 (j := 0) (by decide) (.int .i64 3)
        have hset : (ts.map ndC ++ [ndC nd0]).set ts.length ((ndC nd0).set 0 (.int .i64 3)) = ts.map ndC ++ [ndC (brN false [] no16)] := by
          rw [← hmt, List.set_append_right _ _ (Nat.le_refl _), Nat.sub_self]; rfl
        rw [hset] at Q3
        rw [Nat.add_zero] at cck ffk Q3
        have hx1 : ¬ M = g5 := by omega
        have hx2 : ¬ gn = g5 := by omega
        have hx3 : ¬ g5 = M := by omega
        have hx4 : ¬ g5 = gn := by omega
        have R3 := HRa.out.of (w' := Wa.setCell ⟨g5, ts.length * 20, none⟩ (.int .i64 3)) (Below.heap_setCell _ _ _ _ (by show M ≠ g5; omega))
        have Qp3 := HQpa.out.of (w' := Wa.setCell ⟨g5, ts.length * 20, none⟩ (.int .i64 3)) (G := Fp9) (fun b hb _ => Below.heap_setCell _ _ _ _ (fun (e : b = g5) => HF9.out.d g5 hg5F (e ▸ hb))) (fun _ h _ => h)
        have T3 : Thru B M w (Wa.setCell ⟨g5, ts.length * 20, none⟩ (.int .i64 3)) := Ta.trans (Thru.setCell (a := ⟨g5, ts.length * 20, none⟩) Wa hg5B _)
        have HR3 : Hid (Row _ M _ 68) := R3
        have HQ3 : Hid (Pl _ Ft9 55 20 (.slice (some ⟨g5, 0, none⟩) (ts.length + 1) c5) (ts.map ndC ++ [ndC (brN false [] no16)])) := Q3
        have HQp3 : Hid (Pl _ Fp9 9 1 (.slice (some ⟨g8, 0, none⟩) (ps.length + 1) c8) (ps.map txC ++ [txC (p0.1.take n)])) := Qp3
        have hszn := bs_size p0.1
        clear hset e0 R3 Q3 Qp3 F
        by_cases hend : p0.1.length = n
        rw [if_pos hend] at hrs
        have hE : (bs p0.1).size = n := by rw [hszn]; exact hend
        have HI : Hid (restL (seg L i (m + 1)) n = seg L (i + 1) (m + 1) ∧ endsB (seg L i (m + 1)) n = true ∧ headV (seg L i (m + 1)) n = p0.2) := ⟨hrs, by rw [seg_cons hie HP0.out]; exact decide_eq_true hend, by rw [seg_cons hie HP0.out]; unfold headV; rw [show endsB (p0 :: seg L (i + 1) (m + 1)) n = true from decide_eq_true hend]; rfl⟩
        clear hrs hszn hend
        go_wp2_with fail
        clear cck ffk hm1 hm2 hkn
        generalize Wa.setCell ⟨g5, ts.length * 20, none⟩ (.int .i64 3) = W3 at *
        have hS : HasL [(M, 2, .slice (some ⟨g5, 0, none⟩) (ts.length + 1) c5), (M, 0, .slice (some ⟨gl, ol, none⟩) L.length cl), (gl, ol + i * 2 + 1, .string (bs p0.2))] W3.drew := HasL.of fun x hx => by
          have hv := (HRD.out.thru T3 hg i p0 HP0.out).2
          simp only [List.mem_cons, List.not_mem_nil, or_false] at hx
          rcases hx with rfl | rfl | rfl
          · exact HR3.out.has 2 rfl
          · exact HR3.out.has 0 rfl
          · exact hv
        refine region_take [0, 1, 2, 3, 4, 5, 6, 7, 8, 9, 10, 11, 12, 13, 14, 15, 16, 17, 18, 19] [20, 21, 22] 23 (HasL [(M, 2, .slice (some ⟨g5, 0, none⟩) (ts.length + 1) c5), (M, 0, .slice (some ⟨gl, ol, none⟩) L.length cl), (gl, ol + i * 2 + 1, .string (bs p0.2))]) hS (by kernel_rfl) (by kernel_rfl) (fun d _ _ _ _ h => by cases d <;> exact h) ?_
        simp only [pick, List.getElem?_cons_succ, List.getElem?_cons_zero, Option.toList_some, List.cons_append, List.nil_append]
        have hne : Nonempty (CsW [(M, 2, .slice (some ⟨g5, 0, none⟩) (ts.length + 1) c5), (M, 0, .slice (some ⟨gl, ol, none⟩) L.length cl), (gl, ol + i * 2 + 1, .string (bs p0.2))]) := ⟨hS.choose⟩
        have q0 : ∀ q : CsW [(M, 2, .slice (some ⟨g5, 0, none⟩) (ts.length + 1) c5), (M, 0, .slice (some ⟨gl, ol, none⟩) L.length cl), (gl, ol + i * 2 + 1, .string (bs p0.2))], q.v.cell? ⟨M, 2, none⟩ = some (.slice (some ⟨g5, 0, none⟩) (ts.length + 1) c5) := fun q => q.h (M, 2, .slice (some ⟨g5, 0, none⟩) (ts.length + 1) c5) (by simp)
        have q1 : ∀ q : CsW [(M, 2, .slice (some ⟨g5, 0, none⟩) (ts.length + 1) c5), (M, 0, .slice (some ⟨gl, ol, none⟩) L.length cl), (gl, ol + i * 2 + 1, .string (bs p0.2))], q.v.cell? ⟨M, 0, none⟩ = some (.slice (some ⟨gl, ol, none⟩) L.length cl) := fun q => q.h (M, 0, .slice (some ⟨gl, ol, none⟩) L.length cl) (by simp)
        have q2 : ∀ q : CsW [(M, 2, .slice (some ⟨g5, 0, none⟩) (ts.length + 1) c5), (M, 0, .slice (some ⟨gl, ol, none⟩) L.length cl), (gl, ol + i * 2 + 1, .string (bs p0.2))], q.v.cell? ⟨gl, ol + i * 2 + 1, none⟩ = some (.string (bs p0.2)) := fun q => q.h (gl, ol + i * 2 + 1, .string (bs p0.2)) (by simp)
        unfold HasL
        repeat (go_big_quiet_step (fail))
        refine wpQuiet_nil ?_
        clear hne q0 q1 q2
        have hbd : ¬ ((ts.length : Int) + 1 ≤ (ts.length : Int)) := by omega
        have QD := HQ3.out.after (New.drew W3)
        have e1 : (ts.map ndC ++ [ndC (brN false [] no16)])[ts.length]? = some (ndC (brN false [] no16)) := by rw [← hmt, List.getElem?_append_right (Nat.le_refl _), Nat.sub_self]; rfl
        obtain ⟨c2, f2⟩ := QD.cellAt e1 (j := 2) (u := .bool false) rfl
        have Q4 := QD.setCell e1 (j := 2) (by decide) (.bool true)
        have hS4 := hS.set (a := ⟨g5, ts.length * 20 + 2, none⟩) (.bool true) (fun x hx => by
          simp only [List.mem_cons, List.not_mem_nil, or_false] at hx
          rcases hx with rfl | rfl | rfl
          · exact hx1
          · exact hx1
          · show gl ≠ g5; omega)
        refine wpPre_skip none (W3.drew.setCell ⟨g5, ts.length * 20 + 2, none⟩ (.bool true)) (by rfl) (by rfl) (by rfl) (exec_store_bool (u := .bool false) (by rfl) (by rfl) (by rfl) c2 f2) hS4 ?_
        simp only [Act.put]
        refine wpPre_run (some 171) (.pointer (some ⟨g5, ts.length * 20, none⟩)) _ (by rfl) (by rfl) (by rfl) (by go_simp) hS4 ?_
        simp only [Act.put, List.setIfInBounds_toArray, List.set_cons_zero, List.set_cons_succ]
        refine wpPre_run (some 172) (.pointer (some ⟨g5, ts.length * 20 + 3, none⟩)) _ (by rfl) (by rfl) (by rfl) (by go_simp) hS4 ?_
        simp only [Act.put, List.setIfInBounds_toArray, List.set_cons_zero, List.set_cons_succ]
        refine wpPre_nil ?_
        have hset4 : (ts.map ndC ++ [ndC (brN false [] no16)]).set ts.length ((ndC (brN false [] no16)).set 2 (.bool true)) = ts.map ndC ++ [ndC (brN true [] no16)] := by
          rw [← hmt, List.set_append_right _ _ (Nat.le_refl _), Nat.sub_self]; rfl
        rw [hset4] at Q4
        have e2 : (ts.map ndC ++ [ndC (brN true [] no16)])[ts.length]? = some (ndC (brN true [] no16)) := by rw [← hmt, List.getElem?_append_right (Nat.le_refl _), Nat.sub_self]; rfl
        obtain ⟨c3, f3⟩ := Q4.cellAt e2 (j := 3) (u := .string (bs [])) rfl
        have Q5 := Q4.setCell e2 (j := 3) (by decide) (.string (bs p0.2))
        have hset5 : (ts.map ndC ++ [ndC (brN true [] no16)]).set ts.length ((ndC (brN true [] no16)).set 3 (.string (bs p0.2))) = (ts ++ [brN true p0.2 no16]).map ndC := by
          rw [List.map_append, ← hmt, List.set_append_right _ _ (Nat.le_refl _), Nat.sub_self]; rfl
        rw [hset5] at Q5
        have T4a : Thru B M w (W3.drew.setCell ⟨g5, ts.length * 20 + 2, none⟩ (.bool true)) := T3.trans ((Thru.new (New.drew W3) (Nat.le_trans hBw T3.size)).trans (Thru.setCell (a := ⟨g5, ts.length * 20 + 2, none⟩) _ hg5B _))
        have R4 := (HR3.out.after (New.drew W3)).of (w' := W3.drew.setCell ⟨g5, ts.length * 20 + 2, none⟩ (.bool true)) (Below.heap_setCell _ _ _ _ (by show M ≠ g5; omega))
        have Qp4 := (HQp3.out.after (New.drew W3)).of (w' := W3.drew.setCell ⟨g5, ts.length * 20 + 2, none⟩ (.bool true)) (G := Fp9) (fun b hb _ => Below.heap_setCell _ _ _ _ (fun (e : b = g5) => HF9.out.d g5 hg5F (e ▸ hb))) (fun _ h _ => h)
        clear hset4 hset5 e1 e2 Q4 QD c2 f2 hS hS4
        generalize W3.drew.setCell ⟨g5, ts.length * 20 + 2, none⟩ (.bool true) = W4a at *
        have T4 : Thru B M w (W4a.setCell ⟨g5, ts.length * 20 + 3, none⟩ (.string (bs p0.2))) := T4a.trans (Thru.setCell (a := ⟨g5, ts.length * 20 + 3, none⟩) _ hg5B _)
        have R4' := R4.of (w' := W4a.setCell ⟨g5, ts.length * 20 + 3, none⟩ (.string (bs p0.2))) (Below.heap_setCell _ _ _ _ (by show M ≠ g5; omega))
        have Qp4' := Qp4.of (w' := W4a.setCell ⟨g5, ts.length * 20 + 3, none⟩ (.string (bs p0.2))) (G := Fp9) (fun b hb _ => Below.heap_setCell _ _ _ _ (fun (e : b = g5) => HF9.out.d g5 hg5F (e ▸ hb))) (fun _ h _ => h)
        have HM4 : Hid (Mk B M (.slice (some ⟨gl, ol, none⟩) L.length cl) (.slice (some ⟨gn, 0, none⟩) L.length cn) (ts ++ [brN true p0.2 no16]) (ps ++ [p0.1.take n]) (W4a.setCell ⟨g5, ts.length * 20 + 3, none⟩ (.string (bs p0.2)))) :=
          ⟨hMB, Nat.le_trans hBw T4.size, _, _, Ft9, Fp9, R4', Q5, by rw [List.map_append]; exact Qp4', HF9.out.t, HF9.out.p, HF9.out.d⟩
        clear R4 R4' Qp4 Qp4' Q5 T4a T3 HR3 HQ3 HQp3
        go_wp2_with fail
        clear c3 f3
        generalize W4a.setCell ⟨g5, ts.length * 20 + 3, none⟩ (.string (bs p0.2)) = W4 at *
        obtain ⟨V, hVV⟩ : ∃ z, p0.2 = z := ⟨_, rfl⟩
        rw [hVV] at HM4 HI
        obtain ⟨i0, hi0⟩ : ∃ z, i + 1 = z := ⟨_, rfl⟩
        rw [hi0] at HI
        have HV0 : Hid (Value.int .i64 ((i : Int) + 1) = .int .i64 (i0 : Int)) := by show _ = _; rw [← hi0]; rfl
        have hi0e : i ≤ i0 ∧ i0 ≤ i + 1 := by omega
        obtain ⟨E, hEE⟩ : ∃ z, true = z := ⟨_, rfl⟩
        rw [hEE] at HM4 HI
        clear hVV hi0 hE hbd hEE
        rotate_left
        rw [if_neg hend] at hrs
        have hE : ¬ (bs p0.1).size = n := by rw [hszn]; exact hend
        have hE2 : ((p0.1.length : Int) == (n : Int)) = false := by rw [beq_eq_false_iff_ne]; omega
        have HI : Hid (restL (seg L i (m + 1)) n = seg L i (m + 1) ∧ endsB (seg L i (m + 1)) n = false ∧ headV (seg L i (m + 1)) n = []) := ⟨hrs, by rw [seg_cons hie HP0.out]; exact decide_eq_false hend, by rw [seg_cons hie HP0.out]; unfold headV; rw [show endsB (p0 :: seg L (i + 1) (m + 1)) n = false from decide_eq_false hend]; rfl⟩
        have HM4 : Hid (Mk B M (.slice (some ⟨gl, ol, none⟩) L.length cl) (.slice (some ⟨gn, 0, none⟩) L.length cn) (ts ++ [brN false [] no16]) (ps ++ [p0.1.take n]) (Wa.setCell ⟨g5, ts.length * 20, none⟩ (.int .i64 3))) :=
          ⟨hMB, Nat.le_trans hBw T3.size, _, _, Ft9, Fp9, HR3.out, by rw [List.map_append]; exact HQ3.out, by rw [List.map_append]; exact HQp3.out, HF9.out.t, HF9.out.p, HF9.out.d⟩
        have T4 := T3
        clear hrs hszn hend HR3 HQ3 HQp3 T3
        go_wp2_with fail
        simp only [hE2]
        clear cck ffk hm1 hm2 hkn
        generalize Wa.setCell ⟨g5, ts.length * 20, none⟩ (.int .i64 3) = W4 at *
        obtain ⟨V, hVV⟩ : ∃ z : Bt, [] = z := ⟨_, rfl⟩
        rw [hVV] at HM4 HI
        obtain ⟨i0, hi0⟩ : ∃ z, i = z := ⟨_, rfl⟩
        have HI' : Hid (restL (seg L i (m + 1)) n = seg L i0 (m + 1) ∧ endsB (seg L i (m + 1)) n = false ∧ headV (seg L i (m + 1)) n = V) := by rw [← hi0]; exact HI
        clear HI
        have HI := HI'
        have HV0 : Hid (Value.int .i64 (i : Int) = .int .i64 (i0 : Int)) := by show _ = _; rw [← hi0]
        have hi0e : i ≤ i0 ∧ i0 ≤ i + 1 := by omega
        obtain ⟨E, hEE⟩ : ∃ z, false = z := ⟨_, rfl⟩
        rw [hEE] at HM4 HI
        clear hVV hi0 hE hE2 HI' hEE
        all_goals
          clear HRa HQta HQpa Ta hBa
          have HI0 : Hid (endsB (seg L i (m + 1)) n = E ∧ headV (seg L i (m + 1)) n = V ∧ restL (seg L i (m + 1)) n = seg L i0 (m + 1)) := ⟨HI.out.2.1, HI.out.2.2, HI.out.1⟩
          have HSO : Hid (Sofar L i0 (m + 1) n 0 i0) := Sofar.start HFK.out HI.out.1 (by omega)
          clear HI
          go_loopw [1] (fun fr wr => ∃ (x h : Nat) (ks : List Int) (ns : List NP), fr = .int .i64 (x : Int) ∧ Hid (Sofar L i0 (m + 1) n h x) ∧ i0 ≤ x ∧ x ≤ m + 1 ∧
            Hid (kidsW (fun g => grow f g (n + 1)) (fun c => grp (seg L i0 (m + 1)) n c) (ts.length + 1) h = (ks, ns)) ∧ ks.length = 16 ∧ ns.length ≤ 3 * (x - i0) ∧
            Hid (Mk B M (.slice (some ⟨gl, ol, none⟩) L.length cl) (.slice (some ⟨gn, 0, none⟩) L.length cn) (ts ++ [brN E V ks] ++ nds ns) (ps ++ [p0.1.take n] ++ pths ns) wr) ∧ Hid (Thru B M w wr)) (fun fr _ => m + 1 - (intOf fr).toNat)
          case atStart => exact ⟨i0, 0, no16, [], HV0.out, HSO.out, Nat.le_refl _, by omega, rfl, rfl, Nat.zero_le _, by rw [show nds [] = [] from rfl, show pths [] = [] from rfl, List.append_nil, List.append_nil]; exact HM4.out, T4⟩
          case round =>
            clear HM4 T4 HSO
            obtain ⟨x, h, ks, ns, rfl, hso, hx0, hxe, hkw, hks, hns, hmk, hT⟩ := hrel
            by_cases hxm : x < m + 1
            · have hxm' : ((x : Int) < (m : Int) + 1) := by omega
              have hdx : decide ((x : Int) < (m : Int) + 1) = true := decide_eq_true hxm'
              go_wp2_with fail
              obtain ⟨p, hp⟩ : ∃ p, L[x]? = some p := ⟨L[x]'(by omega), List.getElem?_eq_getElem _⟩
              have hpl : n < p.1.length := HFK.out.long p (by rw [HI0.out.2.2]; exact seg_mem hx0 (by omega) hp)
              have hpx16 := HFIT.out.len p (seg_mem (by omega) (by omega) hp)
              obtain ⟨nb, hnb⟩ : ∃ z, nib p n = z := ⟨_, rfl⟩
              have HPX : Hid (L[x]? = some p ∧ nib p n = nb) := ⟨hp, hnb⟩
              have hszp : n < (bs p.1).size := by rw [bs_size]; exact hpl
              have hidp : ((bs p.1)[n]'hszp).toNat = nb := by
                rw [← hnb]; unfold nib
                rw [List.getD_eq_getElem?_getD, List.getElem?_eq_getElem hpl]; rfl
              have hBr := hmk.out.2.1
              have hLx : x < L.length := by omega
              clear hp hnb
              go_loopw [12] (fun en wz => ∃ y : Nat, x ≤ y ∧ y ≤ m + 1 ∧ en = .int .i64 (y : Int) ∧ Hid (∀ z q, x ≤ z → z < y → L[z]? = some q → nib q n = nb) ∧ New wr wz) (fun en _ => m + 1 - (intOf en).toNat)
              case atStart => exact ⟨x, Nat.le_refl _, by omega, rfl, fun z q h1 h2 => by omega, New.refl _⟩
              case round =>
                obtain ⟨y, hxy, hye, rfl, hrun, hz⟩ := hrel
                have hmy := hmk.out.new hz
                have hTy := hT.out.trans (Thru.new hz hBr)
                have c1 := hmy.row.1
                have cx := (HRD.out.thru hTy hg x p HPX.out.1).1
                have HMY : Hid (Mk B M (.slice (some ⟨gl, ol, none⟩) L.length cl) (.slice (some ⟨gn, 0, none⟩) L.length cn) (ts ++ [brN E V ks] ++ nds ns) (ps ++ [p0.1.take n] ++ pths ns) wr) := hmy
                have HTY : Hid (Thru B M w wr) := hTy
                clear hmk hmy hTy
                by_cases hym : y < m + 1
                obtain ⟨q, hq⟩ : ∃ q, L[y]? = some q := ⟨L[y]'(by omega), List.getElem?_eq_getElem _⟩
                have hql : n < q.1.length := HFK.out.long q (by rw [HI0.out.2.2]; exact seg_mem (by omega) (by omega) hq)
                have cy := (HRD.out.thru HTY.out hg y q hq).1
                have hszq : n < (bs q.1).size := by rw [bs_size]; exact hql
                obtain ⟨nq, hnq⟩ : ∃ z, nib q n = z := ⟨_, rfl⟩
                have hidq : ((bs q.1)[n]'hszq).toNat = nq := by
                  rw [← hnq]; unfold nib
                  rw [List.getD_eq_getElem?_getD, List.getElem?_eq_getElem hql]; rfl
                have HQY : Hid (L[y]? = some q ∧ nib q n = nq) := ⟨hq, hnq⟩
                have hym' : ((y : Int) < (m : Int) + 1) := by omega
                have hdy : decide ((y : Int) < (m : Int) + 1) = true := decide_eq_true hym'
                have hLy : y < L.length := by omega
                have q1 := NewW.cell c1
                have q2 := NewW.cell cx
                have q3 := NewW.cell cy
                have hne := NewW.ne wr
                clear c1 cx cy hq hnq hql
                by_cases hnn : nq = nb
                subst hnn
                go_wp2_with fail
                refine region_new wr (New.refl wr) (by kernel_rfl) (by kernel_rfl) ?_
                repeat (go_big_quiet_step (fail))
                refine wpQuiet_nil ?_
                rintro Wn ⟨⟨_, k3⟩, rfl⟩
                clear q1 q2 q3 hne
                go_wp2_with fail
                refine ⟨⟨y + 1, by omega, by omega, by go_num, fun z q' z1 z2 hq' => ?_, hz.trans k3⟩, by simp [intOf]; omega⟩
                by_cases hzy : z = y
                · subst hzy
                  have := HQY.out.1
                  rw [hq'] at this
                  obtain rfl := Option.some.inj this
                  exact HQY.out.2
                · exact hrun.out z q' z1 (by omega) hq'
                have hnn' : ((nq : Int) == (nb : Int)) = false := by rw [beq_eq_false_iff_ne]; omega
                go_wp2_with fail
                refine region_new wr (New.refl wr) (by kernel_rfl) (by kernel_rfl) ?_
                repeat (go_big_quiet_step (fail))
                refine wpQuiet_nil ?_
                rintro Wn ⟨⟨_, k3⟩, rfl⟩
                have hstop : Hid (y < m + 1 → ∀ q', L[y]? = some q' → nib q' n ≠ nb) := fun _ q' hq' => by
                  have := HQY.out.1
                  rw [hq'] at this
                  obtain rfl := Option.some.inj this
                  rw [HQY.out.2]; exact hnn
                clear q1 q2 q3 hne hidq hdy hym' hnn' HQY hnn
                rotate_left
                have hdy : decide ((y : Int) < (m : Int) + 1) = false := decide_eq_false (by omega)
                have hym' : ¬ ((y : Int) < (m : Int) + 1) := by omega
                have hne := NewW.ne wr
                clear c1 cx
                go_wp2_with fail
                refine region_new wr (New.refl wr) (by kernel_rfl) (by kernel_rfl) ?_
                repeat (go_big_quiet_step (fail))
                refine wpQuiet_nil ?_
                rintro Wn ⟨⟨_, k3⟩, rfl⟩
                have hstop : Hid (y < m + 1 → ∀ q', L[y]? = some q' → nib q' n ≠ nb) := fun h => absurd h hym
                clear hne hdy hym'
                all_goals
                  have hxy' : x < y := by
                    rcases Nat.lt_or_ge x y with h | h
                    · exact h
                    · exact absurd HPX.out.2 (hstop.out (by omega) p (by rw [show y = x by omega]; exact HPX.out.1))
                  obtain ⟨hso', hh, h16, hgrp, hkw'⟩ := hso.out.next HPX.out.1 hxy' hye (fun z q z1 z2 hq' => by rw [HPX.out.2]; exact hrun.out z q z1 z2 hq') (fun h q hq' => by rw [HPX.out.2]; exact hstop.out h q hq') heL (fun g => grow f g (n + 1)) (ts.length + 1)
                  rw [HPX.out.2] at hso' hh h16 hgrp hkw'
                  rw [hkw.out] at hkw'
                  have hfy := HFK.out.group nb
                  rw [HI0.out.2.2, hgrp] at hfy
                  have hne' : seg L x y ≠ [] := List.ne_nil_of_mem (seg_mem (Nat.le_refl _) hxy' HPX.out.1)
                  have hfew := (grow_blk f (seg L x y) (n + 1) (ts.length + 1 + ns.length) (by omega) hfy hne').few
                  rw [seg_len (by omega)] at hfew
                  have HSO' : Hid (Sofar L i0 (m + 1) n (nb + 1) y) := hso'
                  have HKW' : Hid (kidsW (fun g => grow f g (n + 1)) (fun c => grp (seg L i0 (m + 1)) n c) (ts.length + 1) (nb + 1) = (ks.set nb ((ts.length + 1 + ns.length : Nat) : Int), ns ++ grow f (seg L x y) (n + 1) (ts.length + 1 + ns.length))) := hkw'
                  have hlen : (ts ++ [brN E V ks] ++ nds ns).length = ts.length + 1 + ns.length := by simp [nds]; omega
                  have hih := HIH.out (i := x) (e := y) (n := n + 1) (by omega) (by omega) hxy' (by omega) hL3 hfy (by rw [hlen]; omega) (by rw [hlen]; have := HPS.out; simp [pths]; omega) hcl hcn hg (HMY.out.new k3) (HRD.out.thru (HTY.out.trans (Thru.new k3 HMY.out.2.1)) hg)
                  rw [hlen, show ((n + 1 : Nat) : Int) = (n : Int) + 1 by omega] at hih
                  have hT2 : Hid (Thru B M w _) := HTY.out.trans (Thru.new k3 HMY.out.2.1)
                  obtain ⟨K, hK⟩ : ∃ K, ts.length + 1 + ns.length = K := ⟨_, rfl⟩
                  rw [hK] at hih HKW' hfew
                  have HK : Hid (ts.length + 1 + ns.length = K) := hK
                  have h16i : ¬ (16 ≤ (nb : Int)) := by omega
                  clear hso' hh hgrp hkw' hfy hne' hlen hK hso hkw hrun hstop HMY HTY k3 hz hT hBr
                  try go_wp2_with fail
                  refine Calls.mono hih ?_
                  rintro _ Wc ⟨rfl, hmkc, Tc⟩
                  clear hih
                  generalize grow f (seg L x y) (n + 1) K = G at hmkc HKW' hfew
                  obtain ⟨_, hBc, vt, vp, Ftc, Fpc, Rc, Qc, Qpc, h1, h2, h3⟩ := hmkc
                  have ek : ((ts ++ [brN E V ks] ++ nds ns ++ nds G).map ndC)[ts.length]? = some (ndC (brN E V ks)) := by rw [List.getElem?_map, get_mid']; rfl
                  have hkl := (List.getElem?_eq_some_iff.1 ek).1
                  obtain ⟨gc, kc, rfl, hFc, hgc, hcc⟩ := Qc.full (by omega)
                  obtain ⟨z, hz'⟩ : ∃ z, ks[nb]? = some z := ⟨ks[nb]'(by omega), List.getElem?_eq_getElem _⟩
                  have Qc' := Qc.after (New.drew Wc)
                  obtain ⟨cck, ffk⟩ := Qc'.cellAt ek (get_kid hz')
                  have Qd := Qc'.setCell ek (j := 4 + nb) (by omega) (.int .i64 (K : Int))
                  have hset : ((ts ++ [brN E V ks] ++ nds ns ++ nds G).map ndC).set ts.length ((ndC (brN E V ks)).set (4 + nb) (.int .i64 (K : Int))) = (ts ++ [brN E V (ks.set nb (K : Int))] ++ nds (ns ++ G)).map ndC := by
                    rw [set_kid _, ← List.map_set, set_mid', show nds ns ++ nds G = nds (ns ++ G) by unfold nds; rw [List.map_append]]
                  rw [hset] at Qd
                  rw [← Nat.add_assoc] at cck ffk Qd
                  obtain ⟨KK, hKK⟩ : ∃ K, ((ts ++ [brN E V ks] ++ nds ns ++ nds G).map ndC).length = K := ⟨_, rfl⟩
                  rw [hKK] at Rc Qd hkl hcc
                  have hgB := h1 gc hFc
                  have hTc := hT2.out.trans Tc
                  have hcn1 := (HRD.out.thru hTc hg x p HPX.out.1).1
                  have hS : HasL [(M, 2, .slice (some ⟨gc, 0, none⟩) KK kc), (M, 1, .slice (some ⟨gn, 0, none⟩) L.length cn), (gn, x, .string (bs p.1))] Wc.drew := HasL.of fun x' hx => by
                    simp only [List.mem_cons, List.not_mem_nil, or_false] at hx
                    rcases hx with rfl | rfl | rfl
                    · exact Rc.has 2 rfl
                    · exact Rc.has 1 rfl
                    · exact hcn1
                  have Rd_ := (Rc.after (New.drew Wc)).of (w' := Wc.drew.setCell ⟨gc, ts.length * 20 + 4 + nb, none⟩ (.int .i64 (K : Int))) (Below.heap_setCell _ _ _ _ (by show M ≠ gc; omega))
                  have Qpd := (Qpc.after (New.drew Wc)).of (w' := Wc.drew.setCell ⟨gc, ts.length * 20 + 4 + nb, none⟩ (.int .i64 (K : Int))) (G := Fpc) (fun b hb _ => Below.heap_setCell _ _ _ _ (fun (e : b = gc) => h3 gc hFc (e ▸ hb))) (fun _ h _ => h)
                  have Td : Thru B M w (Wc.drew.setCell ⟨gc, ts.length * 20 + 4 + nb, none⟩ (.int .i64 (K : Int))) := hTc.trans ((Thru.new (New.drew Wc) hBc).trans (Thru.setCell (a := ⟨gc, ts.length * 20 + 4 + nb, none⟩) _ hgB _))
                  have HMD : Hid (Mk B M (.slice (some ⟨gl, ol, none⟩) L.length cl) (.slice (some ⟨gn, 0, none⟩) L.length cn) (ts ++ [brN E V (ks.set nb (K : Int))] ++ nds (ns ++ G)) (ps ++ [p0.1.take n] ++ pths (ns ++ G)) (Wc.drew.setCell ⟨gc, ts.length * 20 + 4 + nb, none⟩ (.int .i64 (K : Int)))) :=
                    ⟨hMB, Nat.le_trans hBw Td.size, _, _, Ftc, Fpc, Rd_, Qd, by rw [show pths (ns ++ G) = pths ns ++ pths G by unfold pths; rw [List.map_append], ← List.append_assoc]; exact Qpd, h1, h2, h3⟩
                  have HTD : Hid (Thru B M w (Wc.drew.setCell ⟨gc, ts.length * 20 + 4 + nb, none⟩ (.int .i64 (K : Int)))) := Td
                  clear hset ek Qc Qc' Qd Qpc Qpd Rc Rd_ hKK hcn1 hTc Td Tc hT2 hz'
                  go_wp2_with fail
                  refine region_held 18 (HasL [(M, 2, .slice (some ⟨gc, 0, none⟩) KK kc), (M, 1, .slice (some ⟨gn, 0, none⟩) L.length cn), (gn, x, .string (bs p.1))]) [0, 1, 2, 3, 4, 5, 6, 7, 8, 9, 10, 11, 12] 6 hS (by kernel_rfl) (by kernel_rfl) (fun d _ _ _ _ h => by cases d <;> exact h) ?_
                  simp only [pick, List.getElem?_cons_succ, List.getElem?_cons_zero, Option.toList_some, List.cons_append, List.nil_append]
                  have hne : Nonempty (CsW [(M, 2, .slice (some ⟨gc, 0, none⟩) KK kc), (M, 1, .slice (some ⟨gn, 0, none⟩) L.length cn), (gn, x, .string (bs p.1))]) := ⟨hS.choose⟩
                  have q0 : ∀ q : CsW [(M, 2, .slice (some ⟨gc, 0, none⟩) KK kc), (M, 1, .slice (some ⟨gn, 0, none⟩) L.length cn), (gn, x, .string (bs p.1))], q.v.cell? ⟨M, 2, none⟩ = some (.slice (some ⟨gc, 0, none⟩) KK kc) := fun q => q.h (M, 2, .slice (some ⟨gc, 0, none⟩) KK kc) (by simp)
                  have q1 : ∀ q : CsW [(M, 2, .slice (some ⟨gc, 0, none⟩) KK kc), (M, 1, .slice (some ⟨gn, 0, none⟩) L.length cn), (gn, x, .string (bs p.1))], q.v.cell? ⟨M, 1, none⟩ = some (.slice (some ⟨gn, 0, none⟩) L.length cn) := fun q => q.h (M, 1, .slice (some ⟨gn, 0, none⟩) L.length cn) (by simp)
                  have q2 : ∀ q : CsW [(M, 2, .slice (some ⟨gc, 0, none⟩) KK kc), (M, 1, .slice (some ⟨gn, 0, none⟩) L.length cn), (gn, x, .string (bs p.1))], q.v.cell? ⟨gn, x, none⟩ = some (.string (bs p.1)) := fun q => q.h (gn, x, .string (bs p.1)) (by simp)
                  unfold HasL
                  repeat (go_big_quiet_step (fail))
                  refine wpQuiet_nil ?_
                  clear hne q0 q1 q2
                  refine wpH.plain (i := 13) (v := .int .u8 (nb : Int)) (some 224) (by rfl) (by kernel_rfl) (by intro _ _ _ h; exact h) (by rfl) (by rfl) hS (fun w => by go_simp) ?_
                  simp only [Act.put, List.setIfInBounds_toArray, List.set_cons_zero, List.set_cons_succ]
                  refine wpH.plain (i := 14) (v := .int .i64 (K : Int)) (some 225) (by rfl) (by kernel_rfl) (by intro _ _ _ h; exact h) (by rfl) (by rfl) hS (fun w => by go_simp) ?_
                  simp only [Act.put, List.setIfInBounds_toArray, List.set_cons_zero, List.set_cons_succ]
                  refine wpH.plain (i := 15) (v := .pointer (some ⟨gc, ts.length * 20, none⟩)) (some 226) (by rfl) (by kernel_rfl) (by intro _ _ _ h; exact h) (by rfl) (by rfl) hS (fun w => by go_simp) ?_
                  simp only [Act.put, List.setIfInBounds_toArray, List.set_cons_zero, List.set_cons_succ]
                  refine wpH.plain (i := 16) (v := .pointer (some ⟨gc, ts.length * 20 + 4, none⟩)) (some 227) (by rfl) (by kernel_rfl) (by intro _ _ _ h; exact h) (by rfl) (by rfl) hS (fun w => by go_simp) ?_
                  simp only [Act.put, List.setIfInBounds_toArray, List.set_cons_zero, List.set_cons_succ]
                  refine wpH.plain (i := 17) (v := .pointer (some ⟨gc, ts.length * 20 + 4 + nb, none⟩)) (some 228) (by rfl) (by kernel_rfl) (by intro _ _ _ h; exact h) (by rfl) (by rfl) hS (fun w => by go_simp) ?_
                  simp only [Act.put, List.setIfInBounds_toArray, List.set_cons_zero, List.set_cons_succ]
                  refine wpH.tail [18] _ _ _ (by kernel_rfl) (by kernel_rfl) (.inr rfl) ?_
                  simp only [pick, List.getElem?_cons_succ, List.getElem?_cons_zero, Option.toList_some, List.cons_append, List.nil_append]
                  go_wp2_with fail
                  exact ⟨⟨y, nb + 1, ks.set nb (K : Int), ns ++ G, rfl, HSO'.out, by omega, hye, HKW'.out, by rw [List.length_set]; exact hks, by rw [List.length_append]; omega, HMD.out, HTD.out⟩, by simp [intOf]; omega⟩
            · obtain rfl : x = m + 1 := by omega
              have hdx : decide (((m : Int) + 1) < (m : Int) + 1) = false := decide_eq_false (by omega)
              have hdone := hso.out.done (fun g => grow f g (n + 1)) (ts.length + 1)
              rw [hkw.out] at hdone
              have HG : Hid (grow (f + 1) (seg L i (m + 1)) n ts.length = (brN E V ks, p0.1.take n) :: ns) := by
                show _ = _
                rw [grow_fork HS2.out HCO.out, show forkW (fun g => grow f g (n + 1)) (seg L i (m + 1)) n ts.length = (brN (endsB (seg L i (m + 1)) n) (headV (seg L i (m + 1)) n) (kidsW (fun g => grow f g (n + 1)) (fun h => grp (restL (seg L i (m + 1)) n) n h) (ts.length + 1) 16).1, headP (seg L i (m + 1)) n) :: (kidsW (fun g => grow f g (n + 1)) (fun h => grp (restL (seg L i (m + 1)) n) n h) (ts.length + 1) 16).2 from rfl, HI0.out.1, HI0.out.2.1, HI0.out.2.2, hdone, headP_eq, HHD.out.1]
              clear hdone
              go_wp2_with fail
              go_ret
              refine ⟨rfl, ?_, hT.out⟩
              rw [HG.out, show ts ++ nds ((brN E V ks, p0.1.take n) :: ns) = ts ++ [brN E V ks] ++ nds ns by rw [List.append_assoc]; rfl, show ps ++ pths ((brN E V ks, p0.1.take n) :: ns) = ps ++ [p0.1.take n] ++ pths ns by rw [List.append_assoc]; rfl]
              exact hmk.out
      · have hC1 : 0 < C := by omega
        go_wp2_with fail
        have hrda := HRD.out.thru Ta hg i p0 HP0.out
        have hS : HasL [(M, 2, .slice (some ⟨g5, 0, none⟩) (ts.length + 1) c5), (M, 1, .slice (some ⟨gn, 0, none⟩) L.length cn), (gn, i, .string (bs p0.1))] Wa.drew := HasL.of fun x hx => by
          simp only [List.mem_cons, List.not_mem_nil, or_false] at hx
          rcases hx with rfl | rfl | rfl
          · exact HRa.out.has 2 rfl
          · exact HRa.out.has 1 rfl
          · exact hrda.1
        have hsz2 : n + C ≤ (bs p0.1).size := by rw [bs_size]; exact hCl
        have hex2 : (bs p0.1).extract n (n + C) = bs ((p0.1.drop n).take C) := eq_of_L (by
          rw [L_extract, L_bs, L_bs, List.drop_take, Nat.add_sub_cancel_left])
        have hbl := built49_x ((p0.1.drop n).take C)
        refine region_take [0, 1, 2, 3, 4, 5, 6, 7, 8, 9, 10, 11, 12, 13, 14, 15, 16, 17, 18] [] 19 (HasL [(M, 2, .slice (some ⟨g5, 0, none⟩) (ts.length + 1) c5), (M, 1, .slice (some ⟨gn, 0, none⟩) L.length cn), (gn, i, .string (bs p0.1))]) hS (by kernel_rfl) (by kernel_rfl) (fun d _ _ _ _ h => by cases d <;> exact h) ?_
        simp only [pick, List.getElem?_cons_succ, List.getElem?_cons_zero, Option.toList_some, List.cons_append, List.nil_append]
        have hne : Nonempty (CsW [(M, 2, .slice (some ⟨g5, 0, none⟩) (ts.length + 1) c5), (M, 1, .slice (some ⟨gn, 0, none⟩) L.length cn), (gn, i, .string (bs p0.1))]) := ⟨hS.choose⟩
        have q0 : ∀ q : CsW [(M, 2, .slice (some ⟨g5, 0, none⟩) (ts.length + 1) c5), (M, 1, .slice (some ⟨gn, 0, none⟩) L.length cn), (gn, i, .string (bs p0.1))], q.v.cell? ⟨M, 2, none⟩ = some (.slice (some ⟨g5, 0, none⟩) (ts.length + 1) c5) := fun q => q.h (M, 2, .slice (some ⟨g5, 0, none⟩) (ts.length + 1) c5) (by simp)
        have q1 : ∀ q : CsW [(M, 2, .slice (some ⟨g5, 0, none⟩) (ts.length + 1) c5), (M, 1, .slice (some ⟨gn, 0, none⟩) L.length cn), (gn, i, .string (bs p0.1))], q.v.cell? ⟨M, 1, none⟩ = some (.slice (some ⟨gn, 0, none⟩) L.length cn) := fun q => q.h (M, 1, .slice (some ⟨gn, 0, none⟩) L.length cn) (by simp)
        have q2 : ∀ q : CsW [(M, 2, .slice (some ⟨g5, 0, none⟩) (ts.length + 1) c5), (M, 1, .slice (some ⟨gn, 0, none⟩) L.length cn), (gn, i, .string (bs p0.1))], q.v.cell? ⟨gn, i, none⟩ = some (.string (bs p0.1)) := fun q => q.h (gn, i, .string (bs p0.1)) (by simp)
        unfold HasL
        repeat (go_big_quiet_step (fail))
        refine wpQuiet_nil ?_
        refine wpPre_nil ?_
        clear hne q0 q1 q2 hS
        have QD := HQta.out.after (New.drew Wa)
        have hbb : (ts.map ndC ++ [ndC nd0]).length = ts.length + 1 := by rw [List.length_append, hmt]; rfl
        refine wpList_store_pl (by rfl) 55 _ _ (by rfl) Ft9 55 20 g5 (ts.length + 1) c5 ts.length (ts.map ndC ++ [ndC nd0]) (ndC ⟨2, (p0.1.drop n).take C, false, [], no16⟩) QD (by omega) (by rfl) (by rfl) rfl (by rw [i49]; rfl) (ndC_one _) ?_
        intro Wb Qb Bb
        obtain ⟨x2, hx2⟩ : ∃ x : Nd, ⟨2, (p0.1.drop n).take C, false, [], no16⟩ = x := ⟨_, rfl⟩
        rw [hx2] at Qb
        have hset : (ts.map ndC ++ [ndC nd0]).set ts.length (ndC x2) = (ts ++ [x2]).map ndC := by
          rw [List.map_append, ← hmt, List.set_append_right _ _ (Nat.le_refl _), Nat.sub_self]; rfl
        rw [hset] at Qb
        have hFg5 : Ft9 g5 := QD.foot g5 rfl
        have hg5F := HF9.out.t g5 hFg5
        have RD := (HRa.out.after (New.drew Wa)).of (Bb.block M (by omega))
        have QpD := (HQpa.out.after (New.drew Wa)).of (F := Fp9) (fun b hb _ => Bb.block b (fun e => HF9.out.d g5 hFg5 (e ▸ hb))) (fun _ h _ => h)
        have Tb : Thru B M w Wb := Ta.trans ((Thru.new (New.drew Wa) hBa).trans (Thru.but Bb hg5F))
        have hlen : (ts ++ [x2]).length = ts.length + 1 := by rw [List.length_append]; rfl
        have hmkb : Mk B M (.slice (some ⟨gl, ol, none⟩) L.length cl) (.slice (some ⟨gn, 0, none⟩) L.length cn) (ts ++ [x2]) (ps ++ [p0.1.take n]) Wb :=
          ⟨hMB, Nat.le_trans hBw Tb.size, _, _, Ft9, Fp9, RD, Qb, by rw [List.map_append]; exact QpD, HF9.out.t, HF9.out.p, HF9.out.d⟩
        have hfc := (HFIT.out.com (by intro h; have := HS2.out; rw [h] at this; simp at this)).1
        rw [HCO.out] at hfc
        have hih := HIH.out (i := i) (e := m + 1) (n := n + C) (by omega) hCle hie heL hL3 hfc (by rw [hlen]; omega) (by rw [hlen, List.length_append, HPS.out]; rfl) hcl hcn hg hmkb (HRD.out.thru Tb hg)
        rw [hlen, show ((n + C : Nat) : Int) = (n : Int) + (C : Int) by omega, show ((m + 1 : Nat) : Int) = (m : Int) + 1 by omega, show ((ts.length + 1 : Nat) : Int) = (ts.length : Int) + 1 by omega] at hih
        have HX2 : Hid (⟨2, (p0.1.drop n).take C, false, [], no16⟩ = x2) := hx2
        clear hset hbb QD hex2 hbl RD QpD Qb Bb hmkb hfc hx2 hlen hsz2 hFg5 hg5F HRa HQta HQpa HF9
        go_wp2_with fail
        refine Calls.mono hih ?_
        rintro _ Wc ⟨rfl, hmkc, Tc⟩
        clear hih
        have HGX : Hid (grow (f + 1) (seg L i (m + 1)) n ts.length = (extN ((p0.1.drop n).take C) ((ts.length + 1 : Nat) : Int), p0.1.take n) :: grow f (seg L i (m + 1)) (n + C) (ts.length + 1)) := by
          show _ = _
          rw [grow_ext hn HFIT.out HS2.out (by rw [HCO.out]; exact hc0), HCO.out, HHD.out.1]
        generalize grow f (seg L i (m + 1)) (n + C) (ts.length + 1) = G at hmkc HGX
        obtain ⟨_, hBc, vt, vp, Ftc, Fpc, Rc, Qc, Qpc, h1, h2, h3⟩ := hmkc
        have ek : ((ts ++ [x2] ++ nds G).map ndC)[ts.length]? = some (ndC x2) := by rw [List.getElem?_map, get_mid]; rfl
        have hkl := (List.getElem?_eq_some_iff.1 ek).1
        obtain ⟨gc, kc, rfl, hFc, hgc, hcc⟩ := Qc.full (by omega)
        obtain ⟨cck, ffk⟩ := Qc.cellAt ek (j := 4) (u := .int .i64 0) (by rw [← HX2.out]; rfl)
        have Qd := Qc.setCell ek (j := 4) (by decide) (.int .i64 ((ts.length : Int) + 1))
        have hset2 : ((ts ++ [x2] ++ nds G).map ndC).set ts.length ((ndC x2).set 4 (.int .i64 ((ts.length : Int) + 1))) = (ts ++ nds (grow (f + 1) (seg L i (m + 1)) n ts.length)).map ndC := by
          rw [HGX.out, ← HX2.out, List.map_append, List.map_append, ← hmt, show ([(⟨2, (p0.1.drop n).take C, false, [], no16⟩ : Nd)].map ndC) = [ndC ⟨2, (p0.1.drop n).take C, false, [], no16⟩] from rfl, set_mid, List.map_append]
          rfl
        rw [hset2] at Qd
        obtain ⟨K, hK⟩ : ∃ K, ((ts ++ [x2] ++ nds G).map ndC).length = K := ⟨_, rfl⟩
        rw [hK] at Rc Qd hkl hcc
        have m2 := Rc.has 2 (v := .slice (some ⟨gc, 0, none⟩) K kc) rfl
        have hgB := h1 gc hFc
        have Rd_ := Rc.of (w' := Wc.setCell ⟨gc, ts.length * 20 + 4, none⟩ (.int .i64 ((ts.length : Int) + 1))) (Below.heap_setCell _ _ _ _ (by show M ≠ gc; omega))
        have Qpd := Qpc.of (w' := Wc.setCell ⟨gc, ts.length * 20 + 4, none⟩ (.int .i64 ((ts.length : Int) + 1))) (G := Fpc) (fun b hb _ => Below.heap_setCell _ _ _ _ (fun (e : b = gc) => h3 gc hFc (e ▸ hb))) (fun _ h _ => h)
        have Td : Thru B M w (Wc.setCell ⟨gc, ts.length * 20 + 4, none⟩ (.int .i64 ((ts.length : Int) + 1))) := (Tb.trans Tc).trans (Thru.setCell (a := ⟨gc, ts.length * 20 + 4, none⟩) Wc hgB _)
        have HMK : Hid (Mk B M (.slice (some ⟨gl, ol, none⟩) L.length cl) (.slice (some ⟨gn, 0, none⟩) L.length cn) (ts ++ nds (grow (f + 1) (seg L i (m + 1)) n ts.length)) (ps ++ pths (grow (f + 1) (seg L i (m + 1)) n ts.length)) (Wc.setCell ⟨gc, ts.length * 20 + 4, none⟩ (.int .i64 ((ts.length : Int) + 1)))) :=
          ⟨hMB, Nat.le_trans hBw Td.size, _, _, Ftc, Fpc, Rd_, Qd, by
            rw [HGX.out, show ps ++ pths ((extN ((p0.1.drop n).take C) ((ts.length + 1 : Nat) : Int), p0.1.take n) :: G) = ps ++ [p0.1.take n] ++ pths G by rw [List.append_assoc]; rfl]
            exact Qpd, h1, h2, h3⟩
        clear hset2 ek Qc Qd Qpc Qpd Rc Rd_ hK
        go_wp2_with fail
        go_ret
        exact ⟨rfl, HMK.out, Td⟩

end Go.Proofs.YtjpjcojabjkaaaaDoor
