/-
  The document's own Build: pairs that may be, their nibbles, their nodes.
-/
import Derived.Test.YtjpjcojabjkaaaaDoorGao
namespace Go.Proofs.YtjpjcojabjkaaaaDoor
open Go.RowKit
set_option maxRecDepth 20000

theorem info32 : (Tryd.prog.info? 43).map (fun i => (i.zero, i.size, i.bytes)) = some (some (.agg #[.slice none 0 0, .slice none 0 0, .bool false]), 3, 56) := by kernel_rfl
theorem i32 : (Tryd.prog.info? 43).map (·.size) = some 3 := by kernel_rfl
theorem built32_0 : Tryd.prog.built 43 [] = some #[.slice none 0 0, .slice none 0 0, .bool false] := by kernel_rfl
theorem built32_1 (a b : Option Addr) (n c m d : Nat) : Tryd.prog.built 43 [(0, .slice a n c), (1, .slice b m d), (2, .bool true)] = some #[.slice a n c, .slice b m d, .bool true] := by kernel_rfl
theorem built61_1 (a : Option Addr) (n c : Nat) : Tryd.prog.built 68 [(0, .slice a n c)] = some #[.slice a n c, .slice none 0 0, .slice none 0 0, .slice none 0 0] := by kernel_rfl
theorem both_one (a b : Option Addr) (n c m d : Nat) (x : Bool) : (#[.slice a n c, .slice b m d, .bool x] : Array Value).all (·.oneCell') = true := by simp [Value.oneCell']
/-- What the document's own Build says of pairs. -/
def RBuild (l : List Pr) (w : World) (e : Ending) (w' : World) : Prop := New w w' ∧
  ((mayB l = false ∧ e = .returned (.agg #[.slice none 0 0, .slice none 0 0, .bool false])) ∨
   (mayB l = true ∧ ∃ vt vp, e = .returned (.agg #[vt, vp, .bool true]) ∧ Pl w' (Fresh w) 55 20 vt ((buildN l).map ndC) ∧ Pl w' (Fresh w) 9 1 vp (((trieL l).map (·.2)).map txC)))

set_option maxHeartbeats 4000000 in
theorem rbuild_any {w : World} {v : Value} {l : List Pr} (P : Ls w 2 v (l.map prC)) (hl : l.length ≤ 10000) (hk : ∀ p ∈ l, p.1.length ≤ 4000 ∧ p.2.length ≤ 4000) :
    Calls Tryd.prog 19 #[v] w (RBuild l w) := by
  have hmay := fun {w1 : World} (n : New w w1) => refMay_any (P.after n) hl hk
  obtain ⟨mb, hmb⟩ : ∃ b, mayB l = b := ⟨_, rfl⟩
  have HMB : Hid (mayB l = mb) := hmb
  rw [hmb] at hmay
  have HKL : Hid (∀ p ∈ l, p.1.length ≤ 4000 ∧ p.2.length ≤ 4000) := hk
  obtain ⟨a, c, rfl, hc, HA⟩ := P.open ([], [])
  clear hmb hk P
  cases mb
  case false =>
    go_enter Tryd.func19, Tryd.ntmps19
    go_wp2_with (first
      | (refine wpList_alloc_at (by rfl) 2 (by rfl) 43 (by rfl) _ _ _ info32 ?_; intro W1 R1 N1))
    refine Calls.mono (hmay N1) ?_
    rintro _ W2 ⟨rfl, N2⟩
    have R2 := R1.after N2
    clear hmay
    go_wp2_with (first
      | refine wpList_build0 (by rfl) 43 (by rfl) _ built32_0 ?_
      | (refine wpList_store_new (by rfl) 43 _ _ (by rfl) w.heap.size #[.slice none 0 0, .slice none 0 0, .bool false] (by rfl) (by rfl) 43 _ R2 i32 rfl (both_one _ _ _ _ _ _ _) ?_; intro W3 R3 B3))
    exact bodyPost_ret (v := .agg #[.slice none 0 0, .slice none 0 0, .bool false]) (results_cell (by rfl) _ _ w.heap.size 43 _ (0, 0) _ (by rfl) R3 Tryd.underlying43 rfl i32) rfl ⟨B3.new (N1.trans N2) (Nat.le_refl _), .inl ⟨HMB.out, rfl⟩⟩
  have hl0 : l.length ≤ 10000 := hl
  go_enter Tryd.func19, Tryd.ntmps19
  go_wp2_with (first
    | (refine wpList_alloc_at (by rfl) 2 (by rfl) 43 (by rfl) _ _ _ info32 ?_; intro W1 R1 N1))
  refine Calls.mono (hmay N1) ?_
  rintro _ W2 ⟨rfl, N2⟩
  have R2 := R1.after N2
  have N2' := N1.trans N2
  clear hmay
  go_wp2_with (first
    | refine wpList_build1 (by rfl) 68 _ (by rfl) _ (by rfl) _ (built61_1 _ _ _) ?_
    | (refine wpList_box_at (by rfl) 11 (by rfl) 68 _ (by rfl) _ (by rfl) ?_; intro W3 R3 N3))
  have hRB : w.heap.size < W2.heap.size := R2.lt
  have R2' := R2.after N3
  have N3' := N2'.trans N3
  have HR3 : Hid (Row W3 W2.heap.size #[.slice a l.length c, .slice none 0 0, .slice none 0 0, .slice none 0 0] 68) := R3
  have HRB : Hid (Row W3 w.heap.size #[.slice none 0 0, .slice none 0 0, .bool false] 43) := R2'
  have hw2 : w.heap.size ≤ W2.heap.size := N2'.size
  clear R1 R2 R2' R3 N1 N2 N2' N3
  generalize W2.heap.size = M at *
  go_loopw [4] (fun i wr => ∃ (k : Nat) (vn : Value), k ≤ l.length ∧ i = .int .i64 (k : Int) ∧ Hid (Row wr M #[.slice a l.length c, vn, .slice none 0 0, .slice none 0 0] 68) ∧ Hid (Row wr w.heap.size #[.slice none 0 0, .slice none 0 0, .bool false] 43) ∧
    Hid (Pl wr (fun b => M < b) 9 1 vn (((l.take k).map fun p => ofL p.1).map txC)) ∧ New w wr) (fun i _ => l.length - (intOf i).toNat)
  case atStart => exact ⟨0, _, by omega, rfl, HR3.out, HRB.out, Pl.nil _ _ _ _, N3'⟩
  case round =>
    clear HR3 HRB N3'
    obtain ⟨k, vn, hk, rfl, hR, hB, hq, N⟩ := hrel
    by_cases hlt : k < l.length
    · obtain ⟨g, o, rfl, hg, hr⟩ := HA.out (by omega)
      obtain ⟨p, hp⟩ : ∃ p, l.getD k ([], []) = p := ⟨_, rfl⟩
      have c0 : wr.cell? ⟨g, o + k * 2, none⟩ = some (.string (bs p.1)) := by
        have := hr wr N k hlt
        rw [hp] at this
        exact this 0 _ rfl
      have hpl := HKL.out p (by rw [← hp]; exact getD_mem hlt)
      have HPP : Hid (l.getD k ([], []) = p) := hp
      obtain ⟨an, cn, rfl, hcn⟩ := hq.out.form
      have hql : (((l.take k).map fun p => ofL p.1).map txC).length = k := by rw [List.length_map, List.length_map, List.length_take]; omega
      rw [hql] at hR hq hcn
      have HRR : Hid (Row wr M #[.slice (some ⟨g, o, none⟩) l.length c, .slice an k cn, .slice none 0 0, .slice none 0 0] 68) := hR.out
      have HQ : Hid (Pl wr (fun b => M < b) 9 1 (.slice an k cn) (((l.take k).map fun p => ofL p.1).map txC)) := hq.out
      have hMlt : M < wr.heap.size := HRR.out.lt
      have hof := fun W => refOf_any (bs p.1) (by rw [bs_size]; omega) W
      rw [L_bs] at hof
      have hS : HasL [(M, 1, .slice an k cn), (g, o + k * 2, .string (bs p.1))] wr.drew := HasL.of fun x hx => by
        simp only [List.mem_cons, List.not_mem_nil, or_false] at hx
        rcases hx with rfl | rfl
        · exact HRR.out.has 1 rfl
        · exact c0
      clear hr hp c0 hR hq
      go_wp2_with fail
      refine region_take [0, 1, 2, 3, 4, 5, 6, 7, 8, 9] [10, 11, 12, 13, 14] 15 (HasL [(M, 1, .slice an k cn), (g, o + k * 2, .string (bs p.1))]) hS (by kernel_rfl) (by kernel_rfl) (fun d _ _ _ _ h => by cases d <;> exact h) ?_
      simp only [pick, List.getElem?_cons_succ, List.getElem?_cons_zero, Option.toList_some, List.cons_append, List.nil_append]
      have hne : Nonempty (CsW [(M, 1, .slice an k cn), (g, o + k * 2, .string (bs p.1))]) := ⟨hS.choose⟩
      have q0 : ∀ q : CsW [(M, 1, .slice an k cn), (g, o + k * 2, .string (bs p.1))], q.v.cell? ⟨M, 1, none⟩ = some (.slice an k cn) := fun q => q.h (M, 1, .slice an k cn) (by simp)
      have q1 : ∀ q : CsW [(M, 1, .slice an k cn), (g, o + k * 2, .string (bs p.1))], q.v.cell? ⟨g, o + k * 2, none⟩ = some (.string (bs p.1)) := fun q => q.h (g, o + k * 2, .string (bs p.1)) (by simp)
      unfold HasL
      repeat (go_big_quiet_step (fail))
      refine wpQuiet_nil ?_
      clear hne q0 q1
      refine wpPre_call (some 28) 30 #[.string (bs p.1)] (by rfl) (by rfl) (by rfl) (by go_simp) ?_
      refine Calls.mono (hof _) ?_
      rintro _ W4 ⟨rfl, N4⟩
      have N4' : New wr W4 := (New.drew wr).trans N4
      have hS4 := hS.new N4
      refine ⟨_, rfl, hS4, ?_⟩
      simp only [Act.put, List.setIfInBounds_toArray, List.set_cons_zero, List.set_cons_succ]
      have hb1 : (Instr.buildSlice 41 1 #[(0, .string (bs (ofL p.1)))]).run Tryd.prog W4 = .ok (.slice (some ⟨W4.heap.size, 0, none⟩) 1 1) (W4.alloc (.cells #[.string (bs (ofL p.1))] 9)) := run_buildCell (P := Tryd.prog) W4 41 9 (.string (bs (ofL p.1))) _ _ Tryd.underlying41 info9 rfl
      have R7 : Row (W4.alloc (.cells #[.string (bs (ofL p.1))] 9)) W4.heap.size #[.string (bs (ofL p.1))] 9 := Row.new W4 _ 9
      have N7 : New W4 (W4.alloc (.cells #[.string (bs (ofL p.1))] 9)) := (New.refl _).alloc _
      generalize W4.alloc (.cells #[.string (bs (ofL p.1))] 9) = W7 at hb1 R7 N7
      have hS7 := hS4.new N7
      refine wpPre_run (some 29) (.slice (some ⟨W4.heap.size, 0, none⟩) 1 1) W7 (by rfl) (by rfl) (by rfl) (exec_buildSlice (by rfl) (by rfl) hb1) hS7 ?_
      simp only [Act.put, List.setIfInBounds_toArray, List.set_cons_zero, List.set_cons_succ]
      have N7' := N4'.trans N7
      have Q7 := HQ.out.after N7'
      obtain ⟨g8, c8, W8, hap, Q8, G8⟩ := run_append_pl Q7 41 41 Tryd.underlying41 _ _ info9 rfl (by decide) W4.heap.size (txC (ofL p.1)) 9 R7 rfl (txC_one _) (by rw [hql]; omega) (by decide)
      rw [hql] at hap Q8
      have hown : ∀ b, some b = (Value.slice an k cn).ownBlock → M < b := fun b hb => HQ.out.foot b hb.symm
      have hgM : g < M := by omega
      have hS8 : HasL [(M, 1, .slice an k cn), (g, o + k * 2, .string (bs p.1))] W8 := hS7.grown G8 fun x hx e => by
        have := hown _ e
        simp only [List.mem_cons, List.not_mem_nil, or_false] at hx
        rcases hx with rfl | rfl
        · exact absurd this (by show ¬ M < M; omega)
        · exact absurd this (by show ¬ M < g; omega)
      refine wpPre_run (some 30) _ W8 (by rfl) (by rfl) (by rfl) (exec_append (by rfl) (by rfl) (by rfl) hap) hS8 ?_
      simp only [Act.put, List.setIfInBounds_toArray, List.set_cons_zero, List.set_cons_succ]
      refine wpPre_run (some 31) (.pointer (some ⟨M, 0, none⟩)) W8 (by rfl) (by rfl) (by rfl) (by go_simp) hS8 ?_
      simp only [Act.put, List.setIfInBounds_toArray, List.set_cons_zero, List.set_cons_succ]
      refine wpPre_run (some 32) (.pointer (some ⟨M, 1, none⟩)) W8 (by rfl) (by rfl) (by rfl) (by go_simp) hS8 ?_
      simp only [Act.put, List.setIfInBounds_toArray, List.set_cons_zero, List.set_cons_succ]
      refine wpPre_nil ?_
      have R8 := (HRR.out.after N7').of (G8.block M (Nat.lt_of_lt_of_le hMlt N7'.size) (fun e => by have := hown _ e; omega))
      have RB8 := (hB.out.after N7').of (G8.block w.heap.size (Nat.lt_of_lt_of_le (Nat.lt_trans hRB hMlt) N7'.size) (fun e => by have := hown _ e; omega))
      have f1 := R8.frozen 1
      have c1 := R8.has 1 (v := .slice an k cn) rfl
      have N9 : New w (W8.setCell ⟨M, 1, none⟩ (.slice (some ⟨g8, 0, none⟩) (k + 1) c8)) := ((N.trans N7').grown G8 (fun b hb => by have := hown _ hb.symm; omega)).setCell (a := ⟨M, 1, none⟩) hw2 _
      have R9 : Hid (Row (W8.setCell ⟨M, 1, none⟩ (.slice (some ⟨g8, 0, none⟩) (k + 1) c8)) M #[.slice (some ⟨g, o, none⟩) l.length c, .slice (some ⟨g8, 0, none⟩) (k + 1) c8, .slice none 0 0, .slice none 0 0] 68) := R8.set 1 _
      have RB9 : Hid (Row (W8.setCell ⟨M, 1, none⟩ (.slice (some ⟨g8, 0, none⟩) (k + 1) c8)) w.heap.size #[.slice none 0 0, .slice none 0 0, .bool false] 43) := RB8.of (Below.heap_setCell _ _ _ _ (by show w.heap.size ≠ M; omega))
      have Q9 : Hid (Pl (W8.setCell ⟨M, 1, none⟩ (.slice (some ⟨g8, 0, none⟩) (k + 1) c8)) (fun b => M < b) 9 1 (.slice (some ⟨g8, 0, none⟩) (k + 1) c8) (((l.take (k + 1)).map fun p => ofL p.1).map txC)) := by
        show Pl _ _ _ _ _ _
        rw [take_more hlt HPP.out, List.map_append, List.map_append]
        have hM7 : M < W7.heap.size := Nat.lt_of_lt_of_le hMlt N7'.size
        exact Q8.of (fun b hb _ => Below.heap_setCell _ _ _ _ (by show b ≠ M; rcases hb with hb | hb <;> omega)) (fun b hb _ => hb.elim id (fun h => Nat.lt_of_lt_of_le hM7 h))
      clear hb1 R7 N7 hap Q8 G8 Q7 R8 RB8 hS hS4 hS7 hS8 N4 N4' hof hown
      go_wp2_with fail
      exact ⟨⟨k + 1, _, by omega, by go_num, R9.out, RB9.out, Q9.out, N9⟩, by simp [intOf]; omega⟩
    · obtain rfl : k = l.length := by omega
      rw [List.take_length] at hq
      have hBM : M < wr.heap.size := hR.out.lt
      by_cases hl1 : 0 < l.length
      obtain ⟨g, o, rfl, hg, hr⟩ := HA.out hl1
      obtain ⟨gn, cn, rfl, hMn, hgn, hcn⟩ := hq.out.full (by rw [List.length_map, List.length_map]; exact hl1)
      rw [List.length_map, List.length_map] at hR hq hcn
      have hR0 := hR.out
      have hq0 := hq.out
      have hmL : (l.map halfP).length = l.length := List.length_map _
      have hmk : Mk wr.heap.size M (.slice (some ⟨g, o, none⟩) (l.map halfP).length c) (.slice (some ⟨gn, 0, none⟩) (l.map halfP).length cn) [] [] wr := by
        rw [hmL]
        exact ⟨hBM, Nat.le_refl _, .slice none 0 0, .slice none 0 0, (fun _ => False), (fun _ => False), hR0, Pl.nil _ _ _ _, Pl.nil _ _ _ _, fun _ h => h.elim, fun _ h => h.elim, fun _ h => h.elim⟩
      have hrd : Rd g o gn (l.map halfP) wr := fun i q hq' => by
        rw [List.getElem?_map] at hq'
        obtain ⟨p, hp, rfl⟩ := Option.map_eq_some_iff.1 hq'
        have hi := (List.getElem?_eq_some_iff.1 hp).1
        have h1 := (hq0.cellAt (i := i) (j := 0) (e := txC (ofL p.1)) (u := .string (bs (ofL p.1))) (by rw [List.getElem?_map, List.getElem?_map, hp]; rfl) rfl).1
        rw [Nat.mul_one, Nat.add_zero] at h1
        have h2 := hr wr N i hi 1 (.string (bs p.2)) (by rw [List.getD_eq_getElem?_getD, hp]; rfl)
        exact ⟨h1, h2⟩
      have hih := add_any 17 (i := 0) (e := (l.map halfP).length) (n := 0) (by omega) (by omega) (by rw [hmL]; exact hl1) (Nat.le_refl _) (by rw [hmL]; exact hl0) (by rw [seg_all]; exact may_fit HMB.out) (by rw [hmL]; simp; omega) rfl (by rw [hmL]; exact hc) (by rw [hmL]; exact hcn) ⟨by omega, by omega, hgn, by have : M < gn := hMn; omega⟩ hmk hrd
      rw [seg_all, hmL] at hih
      have hih : Calls Tryd.prog 31 #[.pointer (some ⟨M, 0, none⟩), .int .i64 0, .int .i64 (l.length : Int), .int .i64 0] wr fun x w' => x = .returned (.int .i64 0) ∧
        Mk wr.heap.size M (.slice (some ⟨g, o, none⟩) l.length c) (.slice (some ⟨gn, 0, none⟩) l.length cn) (buildN l) ((trieL l).map (·.2)) w' ∧ Thru wr.heap.size M wr w' := hih
      have hd1 : decide ((0 : Int) < (l.length : Int)) = true := decide_eq_true (by omega)
      have HN : Hid (New w wr) := N
      clear hmk hrd hr hq0 hR0
      go_wp2_with fail
      refine Calls.mono hih ?_
      rintro _ Wc ⟨rfl, hmkc, Tc⟩
      clear hih
      obtain ⟨_, hBc, vt, vp, Ftc, Fpc, Rc, Qc, Qpc, h1, h2, h3⟩ := hmkc
      have HNc : Hid (New w Wc) := Tc.toNew HN.out (by omega) hw2
      have HBc : Hid (Row Wc w.heap.size #[.slice none 0 0, .slice none 0 0, .bool false] 43) := hB.out.of (Tc.block _ (by omega) (by omega))
      have Qc' := Qc.mono (G := fun b => w.heap.size < b) (fun b hb _ => Nat.lt_of_lt_of_le (by omega) (h1 b hb))
      have Qpc' := Qpc.mono (G := fun b => w.heap.size < b) (fun b hb _ => Nat.lt_of_lt_of_le (by omega) (h2 b hb))
      obtain ⟨at_, ct, rfl, _⟩ := Qc.form
      obtain ⟨ap, cp, rfl, _⟩ := Qpc.form
      clear Qc Qpc h1 h2 h3 hB hR hq HN N Tc
      generalize ((buildN l).map ndC).length = nt at Rc Qc'
      generalize (((trieL l).map (·.2)).map txC).length = np at Rc Qpc'
      have HQc : Hid (Pl Wc (fun b => w.heap.size < b) 55 20 (.slice at_ nt ct) ((buildN l).map ndC)) := Qc'
      have HQpc : Hid (Pl Wc (fun b => w.heap.size < b) 9 1 (.slice ap np cp) (((trieL l).map (·.2)).map txC)) := Qpc'
      have HRc : Hid (∃ x y, Row Wc M #[x, y, .slice at_ nt ct, .slice ap np cp] 68) := ⟨_, _, Rc⟩
      clear Rc Qc' Qpc'
      rotate_left
      have hE : l = [] := List.eq_nil_of_length_eq_zero (by omega)
      have HQc0 : Hid (Pl wr (fun b => w.heap.size < b) 55 20 (.slice none 0 0) ((buildN l).map ndC)) := by rw [hE]; unfold buildN; rw [trie_nil]; exact Pl.nil _ _ _ _
      have HQpc0 : Hid (Pl wr (fun b => w.heap.size < b) 9 1 (.slice none 0 0) (((trieL l).map (·.2)).map txC)) := by rw [hE, trie_nil]; exact Pl.nil _ _ _ _
      have hd1 : decide ((0 : Int) < (l.length : Int)) = false := decide_eq_false (by omega)
      have hll : l.length = 0 := by omega
      have HRc0 : Hid (∃ x y, Row wr M #[x, y, .slice none 0 0, .slice none 0 0] 68) := ⟨_, _, hR.out⟩
      obtain ⟨Wc, hWc⟩ : ∃ z, wr = z := ⟨_, rfl⟩
      obtain ⟨at_, nt, ct, hat⟩ : ∃ (a : Option Addr) (n c : Nat), Value.slice none 0 0 = .slice a n c := ⟨_, _, _, rfl⟩
      obtain ⟨ap, np, cp, hap⟩ : ∃ (a : Option Addr) (n c : Nat), Value.slice none 0 0 = .slice a n c := ⟨_, _, _, rfl⟩
      have HQc : Hid (Pl Wc (fun b => w.heap.size < b) 55 20 (.slice at_ nt ct) ((buildN l).map ndC)) := by rw [← hWc, ← hat]; exact HQc0.out
      have HQpc : Hid (Pl Wc (fun b => w.heap.size < b) 9 1 (.slice ap np cp) (((trieL l).map (·.2)).map txC)) := by rw [← hWc, ← hap]; exact HQpc0.out
      have HRc : Hid (∃ x y, Row Wc M #[x, y, .slice at_ nt ct, .slice ap np cp] 68) := by rw [← hWc, ← hat, ← hap]; exact HRc0.out
      have HNc : Hid (New w Wc) := by rw [← hWc]; exact N
      have HBc : Hid (Row Wc w.heap.size #[.slice none 0 0, .slice none 0 0, .bool false] 43) := by rw [← hWc]; exact hB.out
      clear HQc0 HQpc0 HRc0 hat hap hR hB hq N hE
      rw [hWc]
      rw [hWc] at hBM
      clear hWc
      go_wp2_with fail
      all_goals
        have hS : HasL [(M, 2, .slice at_ nt ct), (M, 3, .slice ap np cp)] Wc.drew := HasL.of fun x hx => by
          obtain ⟨_, _, R⟩ := HRc.out
          simp only [List.mem_cons, List.not_mem_nil, or_false] at hx
          rcases hx with rfl | rfl
          · exact R.has 2 rfl
          · exact R.has 3 rfl
        have hbl := built32_1 at_ ap nt ct np cp
        try go_wp2_with fail
        refine region_take [0, 1, 2, 3, 4, 5, 6, 7, 8] [] 9 (HasL [(M, 2, .slice at_ nt ct), (M, 3, .slice ap np cp)]) hS (by kernel_rfl) (by kernel_rfl) (fun d _ _ _ _ h => by cases d <;> exact h) ?_
        simp only [pick, List.getElem?_cons_succ, List.getElem?_cons_zero, Option.toList_some, List.cons_append, List.nil_append]
        have hne : Nonempty (CsW [(M, 2, .slice at_ nt ct), (M, 3, .slice ap np cp)]) := ⟨hS.choose⟩
        have q0 : ∀ q : CsW [(M, 2, .slice at_ nt ct), (M, 3, .slice ap np cp)], q.v.cell? ⟨M, 2, none⟩ = some (.slice at_ nt ct) := fun q => q.h (M, 2, .slice at_ nt ct) (by simp)
        have q1 : ∀ q : CsW [(M, 2, .slice at_ nt ct), (M, 3, .slice ap np cp)], q.v.cell? ⟨M, 3, none⟩ = some (.slice ap np cp) := fun q => q.h (M, 3, .slice ap np cp) (by simp)
        unfold HasL
        repeat (go_big_quiet_step (fail))
        refine wpQuiet_nil ?_
        refine wpPre_nil ?_
        clear hne q0 q1 hS hbl
        have RBd := HBc.out.after (New.drew Wc)
        refine wpList_store_new (by rfl) 43 _ _ (by rfl) w.heap.size #[.slice at_ nt ct, .slice ap np cp, .bool true] (by rfl) (by rfl) 43 _ RBd i32 rfl (both_one _ _ _ _ _ _ _) ?_
        intro Wd R5 B5
        go_wp2_with fail
        exact bodyPost_ret (v := .agg #[.slice at_ nt ct, .slice ap np cp, .bool true]) (results_cell (by rfl) _ _ w.heap.size 43 _ (0, 0) _ (by rfl) R5 Tryd.underlying43 rfl i32) rfl ⟨B5.new (HNc.out.trans (New.drew Wc)) (Nat.le_refl _), .inr ⟨HMB.out, _, _, rfl,
          (((HQc.out.after (New.drew Wc)).but B5 (by omega)).mono (fun b hb _ => Nat.le_of_lt hb)), (((HQpc.out.after (New.drew Wc)).but B5 (by omega)).mono (fun b hb _ => Nat.le_of_lt hb))⟩⟩
end Go.Proofs.YtjpjcojabjkaaaaDoor
