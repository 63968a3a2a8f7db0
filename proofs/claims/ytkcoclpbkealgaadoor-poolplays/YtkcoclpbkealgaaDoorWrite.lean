/-
  What Read and Write tell, and what they leave.
-/
import Derived.Test.YtkcoclpbkealgaaDoorLast
import Derived.Test.YtkcoclpbkealgaaDoorTake
namespace Go.Proofs.YtkcoclpbkealgaaDoor
open Go.RowKit
set_option maxRecDepth 20000

theorem Pl.refoot {w : World} {F G : Nat → Prop} {t : TypeId} {k : Nat} {v : Value} {es : List (List Value)} (h : Pl w F t k v es) (hG : ∀ g, v.ownBlock = some g → G g) : Pl w G t k v es := ⟨h.each, h.own, hG⟩
/-- What was the disk's, and what is new. -/
def Wide (F : Nat → Prop) (w w' : World) : Nat → Prop := fun b => (F b ∨ w.heap.size ≤ b) ∧ b < w'.heap.size
theorem Disk.build {w w' : World} {F G1 G2 : Nat → Prop} {p : Nat} {S : St} {v1 v2 : Value} (hp : F p) (hok : Ok S) (R : Row w' p #[.int .i64 (S.lim : Int), v1, v2, .int .i64 S.fuse, .bool S.down] 81)
    (P1 : Pl w' G1 85 256 v1 (S.ps.map cellsL)) (P2 : Pl w' G2 113 257 v2 (S.ws.map waitL)) (h1 : ∀ g, v1.ownBlock = some g → (F g ∨ w.heap.size ≤ g) ∧ g ≠ p) (h2 : ∀ g, v2.ownBlock = some g → (F g ∨ w.heap.size ≤ g) ∧ g ≠ p ∧ v1.ownBlock ≠ some g) :
    Disk w' (Wide F w w') p S :=
  ⟨hok, ⟨.inl hp, R.lt⟩, fun _ hb => hb.2, v1, v2, R, P1.refoot fun g hg => ⟨⟨(h1 g hg).1, P1.lt hg⟩, (h1 g hg).2⟩, P2.refoot fun g hg => ⟨⟨(h2 g hg).1, P2.lt hg⟩, (h2 g hg).2⟩⟩
theorem Step.widen {F F' : Nat → Prop} {w w' : World} (h : Step F F' w w') : Step F (Wide F w w') w w' := h.wide fun _ hk => hk.1

theorem wpQuiet_build80 {ops : Array Oper} {Q : Act → Prop} {a : Act} {o : Oper} {rest : List Oper} {C : World → Prop} (hw : Region.wanted o (yielded ops a.tmps) = true) (x y : Operand) (ho : o.op = .build 113 #[(0, x), (1, y)]) (n : Nat) (l : List UInt8) (hl : l.length = 256) (hx : a.eval x = .int .i64 (n : Int)) (hy : a.eval y = .agg (cellsL l).toArray)
    (h : wpQuiet Tryd.prog ops C Q rest (a.put o.dst (.agg (waitL (n, l)).toArray))) : wpQuiet Tryd.prog ops C Q (o :: rest) a := by
  refine wpQuiet_run hw _ (fun w _ => ?_) h
  have hb := built80 (n : Int) (cellsL l).toArray (by rw [cellsL_size, hl])
  unfold execOp
  simp only [ho, List.map_toArray, List.map_cons, List.map_nil, hx, hy, Sem.run_bind, run_build w 113 #[(0, .int .i64 (n : Int)), (1, .agg (cellsL l).toArray)] _ hb, Result.andThen_ok, Sem.run_pure]
  rfl

set_option maxHeartbeats 1000000 in
theorem read_any {w : World} {F : Nat → Prop} {p : Nat} {S : St} (D : Disk w F p S) (at_ : Int) :
    Calls Tryd.prog 37 #[.pointer (some ⟨p, 0, none⟩), .int .i64 at_] w fun e w' => e = .returned (.tuple #[.string (bs (S.read at_).2), .int .i64 (S.read at_).1]) ∧ New w w' := by
  have hr := ready_any D
  have hh := has_any D at_
  have HD : Hid (Disk w F p S) := D
  clear D
  have HR : Hid (S.read at_ = if S.down then (2, []) else if ¬ (0 ≤ at_ ∧ at_ < S.ps.length) then (4, []) else (0, (latest S.ps S.ws).getD at_.toNat [])) := rfl
  generalize S.read at_ = r at HR ⊢
  cases hd : S.down
  · rw [hd] at hr
    rw [hd, if_neg (by simp)] at HR
    by_cases hin : 0 ≤ at_ ∧ at_ < S.ps.length
    · rw [if_neg (by simpa using hin)] at HR
      rw [decide_eq_true hin] at hh
      obtain ⟨n, rfl⟩ : ∃ n : Nat, at_ = (n : Int) := ⟨at_.toNat, by omega⟩
      have hl := last_any HD.out n (by omega)
      rw [Int.toNat_natCast] at HR
      have hpl : ((latest S.ps S.ws).getD n []).length = 256 := by
        have hlt : n < (latest S.ps S.ws).length := by rw [latest_length]; omega
        rw [List.getD_eq_getElem?_getD, List.getElem?_eq_getElem hlt]
        exact HD.out.ok.latest _ (Nat.le_refl _) _ (List.getElem_mem hlt)
      generalize (latest S.ps S.ws).getD n [] = d at HR hl hpl
      have ht := text_any d hpl
      go_enter Tryd.func37, Tryd.ntmps37
      go_wp2_with fail
      refine hr.mono ?_
      rintro _ w1 ⟨rfl, rfl⟩
      go_wp2_with fail
      refine hh.mono ?_
      rintro _ w2 ⟨rfl, rfl⟩
      go_wp2_with fail
      refine hl.mono ?_
      rintro _ w3 ⟨rfl, N3⟩
      go_wp2_with fail
      refine (ht _).mono ?_
      rintro _ w4 ⟨rfl, N4⟩
      go_wp2_with fail
      go_ret2
      exact ⟨by rw [HR.out]; rfl, N3.trans N4⟩
    · rw [if_pos (by simpa using hin)] at HR
      rw [decide_eq_false hin] at hh
      clear hin
      go_enter Tryd.func37, Tryd.ntmps37
      go_wp2_with fail
      refine hr.mono ?_
      rintro _ w1 ⟨rfl, rfl⟩
      go_wp2_with fail
      refine hh.mono ?_
      rintro _ w2 ⟨rfl, rfl⟩
      go_wp2_with fail
      go_ret2
      exact ⟨by rw [HR.out]; rfl, New.refl _⟩
  · rw [hd] at hr
    rw [hd, if_pos rfl] at HR
    go_enter Tryd.func37, Tryd.ntmps37
    go_wp2_with fail
    refine hr.mono ?_
    rintro _ w1 ⟨rfl, rfl⟩
    go_wp2_with fail
    go_ret2
    exact ⟨by rw [HR.out]; rfl, New.refl _⟩
theorem read_nil (at_ : Int) (w : World) : Calls Tryd.prog 37 #[.pointer none, .int .i64 at_] w fun e w' => e = .returned (.tuple #[.string ⟨#[]⟩, .int .i64 1]) ∧ w' = w := by
  go_enter Tryd.func37, Tryd.ntmps37
  go_wp2_with fail
  refine (ready_nil _).mono ?_
  rintro _ w1 ⟨rfl, rfl⟩
  go_wp2_with fail
  go_ret2
  exact ⟨rfl, rfl⟩

/-- What stands behind a call of a disk: the same disk, in another state. -/
def Left (F : Nat → Prop) (p : Nat) (w : World) (S : St) (w' : World) : Prop := ∃ F', Disk w' F' p S ∧ Step F F' w w'
theorem Left.refl {w : World} {F : Nat → Prop} {p : Nat} {S : St} (D : Disk w F p S) : Left F p w S w := ⟨F, D, Step.refl F w⟩

theorem Disk.addWait {w0 w W2 W3 : World} {F : Nat → Prop} {p : Nat} {S : St} {a1 a2 : Option Addr} {c1 c2 g3 m cap3 : Nat} {n : Nat} {l : List UInt8} (S0 : Step F F w0 w) (D : Disk w F p S)
    (R : Row w p #[.int .i64 (S.lim : Int), .slice a1 S.ps.length c1, .slice a2 S.ws.length c2, .int .i64 S.fuse, .bool S.down] 81)
    (P1 : Pl w (fun g => F g ∧ g ≠ p) 85 256 (.slice a1 S.ps.length c1) (S.ps.map cellsL)) (P2 : Pl w (fun g => F g ∧ g ≠ p ∧ (Value.slice a1 S.ps.length c1).ownBlock ≠ some g) 113 257 (.slice a2 S.ws.length c2) (S.ws.map waitL))
    (M2 : New w W2) (G3 : W2.grownBy W3 (Value.slice a2 S.ws.length c2).ownBlock) (Q3 : Pl W3 (fun b => (F b ∧ b ≠ p ∧ (Value.slice a1 S.ps.length c1).ownBlock ≠ some b) ∨ W2.heap.size ≤ b) 113 257 (.slice (some ⟨g3, 0, none⟩) m cap3) (S.ws.map waitL ++ [waitL (n, l)]))
    (hn : n < S.ps.length) (hl : l.length = 256) (hfew : S.ws.length < 1000) : Left F p w0 { S with ws := S.ws ++ [(n, l)] } (W3.setCell ⟨p, 2, none⟩ (.slice (some ⟨g3, 0, none⟩) m cap3)) := by
  have hpl := D.lt
  have hsz := M2.size
  have hR3 : Row W3 p _ 81 := (R.after M2).of (G3.block p (Nat.lt_of_lt_of_le hpl hsz) (fun e => (P2.foot p e.symm).2.1 rfl))
  have hg3 : g3 ≠ p ∧ (Value.slice a1 S.ps.length c1).ownBlock ≠ some g3 ∧ (F g3 ∨ w.heap.size ≤ g3) := by
    rcases Q3.foot g3 rfl with ⟨h1, h2, h3⟩ | h
    · exact ⟨h2, h3, .inl h1⟩
    · refine ⟨by omega, fun e => ?_, .inr (by omega)⟩
      have := P1.lt e
      omega
  have e : ∀ b, b ≠ p → (W3.setCell ⟨p, 2, none⟩ (.slice (some ⟨g3, 0, none⟩) m cap3)).heap[b]? = W3.heap[b]? := fun b hb => Below.heap_setCell _ _ _ _ hb
  refine ⟨Wide F w0 (W3.setCell ⟨p, 2, none⟩ (.slice (some ⟨g3, 0, none⟩) m cap3)), Disk.build (F := F) (w := w0) (v1 := .slice a1 S.ps.length c1) (v2 := .slice (some ⟨g3, 0, none⟩) m cap3) (G1 := fun g => (Value.slice a1 S.ps.length c1).ownBlock = some g) (G2 := fun g => g = g3) D.base ⟨D.ok.page, ?_, D.ok.lim, D.ok.len, ?_, D.ok.lo, D.ok.hi⟩ (hR3.set 2 _) ?_ ?_ ?_ ?_, ?_⟩
  · intro x hx
    rcases List.mem_append.1 hx with h | h
    · exact D.ok.wait x h
    · obtain rfl : x = (n, l) := by simpa using h
      exact ⟨hn, hl⟩
  · show (S.ws ++ [(n, l)]).length ≤ 1000
    rw [List.length_append, List.length_singleton]; omega
  · exact ((P1.refoot (G := fun g => (Value.slice a1 S.ps.length c1).ownBlock = some g) fun _ h => h).after M2).of (fun b hb hlt => (e b (P1.foot b hb).2).trans (G3.block b hlt fun h => (P2.foot b h.symm).2.2 hb)) (fun _ h _ => h)
  · show Pl _ _ 113 257 _ ((S.ws ++ [(n, l)]).map waitL)
    rw [List.map_append]
    exact (Q3.refoot (G := fun g => g = g3) fun g hg => by cases hg; rfl).of (fun b hb _ => e b (hb ▸ hg3.1)) (fun _ h _ => h)
  · exact fun g hg => ⟨.inl (P1.foot g hg).1, (P1.foot g hg).2⟩
  · intro g hg
    obtain rfl : g3 = g := by cases hg; rfl
    exact ⟨hg3.2.2.imp id fun h => Nat.le_trans S0.size h, hg3.1, hg3.2.1⟩
  · exact (((S0.trans (Step.new M2)).trans (Step.grown G3 fun k hk => (P2.foot k hk).1)).trans (Step.setCell W3 D.base _)).widen

theorem write_nil (at_ : Int) (s : ByteArray) (w : World) : Calls Tryd.prog 71 #[.pointer none, .int .i64 at_, .string s] w fun e w' => e = .returned (.int .i64 1) ∧ w' = w := by
  go_enter Tryd.func71, Tryd.ntmps71
  go_wp2_with fail
  refine (ready_nil _).mono ?_
  rintro _ w1 ⟨rfl, rfl⟩
  go_wp2_with fail
  go_ret
  exact ⟨rfl, rfl⟩

set_option maxRecDepth 20000 in
set_option maxHeartbeats 2000000 in
theorem write_any {w : World} {F : Nat → Prop} {p : Nat} {S : St} (D : Disk w F p S) (at_ : Int) (s : ByteArray) (hfew : S.ws.length < 1000) :
    Calls Tryd.prog 71 #[.pointer (some ⟨p, 0, none⟩), .int .i64 at_, .string s] w fun e w' => e = .returned (.int .i64 (S.write at_ (L s)).1) ∧ Left F p w (S.write at_ (L s)).2 w' := by
  have hr := ready_any D
  have hh := has_any D at_
  have hac := act_any D
  have HD : Hid (Disk w F p S) := D
  clear D
  have HR : Hid (S.write at_ (L s) = if S.down then (2, S) else if (L s).length ≠ 256 then (1, S) else if ¬ (0 ≤ at_ ∧ at_ < S.ps.length) then (4, S) else if S.fuse = 0 then (2, S.dead) else (0, { S.burn with ws := S.ws ++ [(at_.toNat, L s)] })) := rfl
  generalize S.write at_ (L s) = r at HR ⊢
  cases hd : S.down
  · rw [hd] at hr
    rw [hd, if_neg (by simp)] at HR
    by_cases hs : s.size = 256
    · rw [if_neg (by rw [L_size]; simpa using hs)] at HR
      by_cases hin : 0 ≤ at_ ∧ at_ < S.ps.length
      · rw [if_neg (by simpa using hin)] at HR
        rw [decide_eq_true hin] at hh
        obtain ⟨n, rfl⟩ : ∃ n : Nat, at_ = (n : Int) := ⟨at_.toNat, by omega⟩
        rw [Int.toNat_natCast] at HR
        have hL : (L s).length = 256 := by rw [L_size]; exact hs
        have hn : n < S.ps.length := by omega
        clear hin
        by_cases hz : S.fuse = 0
        · rw [if_pos hz] at HR
          simp only [if_pos hz] at hac
          go_enter Tryd.func71, Tryd.ntmps71
          go_wp2_with fail
          refine hr.mono ?_
          rintro _ w1 ⟨rfl, rfl⟩
          go_wp2_with fail
          refine hh.mono ?_
          rintro _ w2 ⟨rfl, rfl⟩
          go_wp2_with fail
          refine hac.mono ?_
          rintro _ w3 ⟨rfl, D3, S3⟩
          go_wp2_with fail
          go_ret
          exact ⟨by rw [HR.out]; rfl, by rw [HR.out]; exact ⟨F, D3, S3⟩⟩
        · rw [if_neg hz] at HR
          simp only [if_neg hz] at hac
          go_enter Tryd.func71, Tryd.ntmps71
          go_wp2_with fail
          refine hr.mono ?_
          rintro _ w1 ⟨rfl, rfl⟩
          go_wp2_with fail
          refine hh.mono ?_
          rintro _ w2 ⟨rfl, rfl⟩
          go_wp2_with fail
          refine hac.mono ?_
          rintro _ w3 ⟨rfl, D3, S3⟩
          obtain ⟨a1, c1, a2, c2, _, _, h2, _, _, hf, R, P1, P2⟩ := D3.open
          have hpl := D3.lt
          go_wp2_with fail
          have hfw : S.burn.ws.length ≤ 1000 := Nat.le_of_lt hfew
          have hS : HasCell ⟨p, 2, none⟩ (.slice a2 S.burn.ws.length c2) w3.drew := HasCell.of h2
          refine region_take [0, 1, 2, 3, 4, 5, 6] [7, 8, 9, 10, 11, 12] 13 (HasCell ⟨p, 2, none⟩ (.slice a2 S.burn.ws.length c2)) hS (by kernel_rfl) (by kernel_rfl) (fun d _ _ _ _ h => by cases d <;> exact h) ?_
          simp only [pick, List.getElem?_cons_succ, List.getElem?_cons_zero, Option.toList_some, List.cons_append, List.nil_append]
          have hne : Nonempty (CellW ⟨p, 2, none⟩ (.slice a2 S.burn.ws.length c2)) := ⟨⟨w3, h2⟩⟩
          have hq2 : ∀ q : CellW ⟨p, 2, none⟩ (.slice a2 S.burn.ws.length c2), q.v.cell? ⟨p, 2, none⟩ = some (.slice a2 S.burn.ws.length c2) := fun q => q.h
          unfold HasCell
          repeat (go_big_quiet_step (fail))
          refine wpQuiet_nil ?_
          have NW0 : New w3 w3.drew := New.drew w3
          clear hq2 hne hS
          refine wpPre_call (some 33) 38 #[.string s] (by rfl) (by rfl) (by rfl) (by go_simp) ?_
          refine (pageOf_any s hs _).mono ?_
          rintro _ W1 ⟨rfl, N1⟩
          have M1 : New w3 W1 := NW0.trans N1
          refine ⟨_, rfl, HasCell.of ((M1.cell hpl).trans h2), ?_⟩
          simp only [Act.put, List.setIfInBounds_toArray, List.set_cons_zero, List.set_cons_succ]
          refine wpPre_run (some 34) (.agg (waitL (n, L s)).toArray) W1 (by rfl) (by rfl) (by rfl) (exec_build2 (by rfl) (by rfl) (by rfl) (run_build W1 113 _ _ (built80 (n : Int) (cellsL (L s)).toArray (by rw [cellsL_size, hL])))) (HasCell.of ((M1.cell hpl).trans h2)) ?_
          simp only [Act.put, List.setIfInBounds_toArray, List.set_cons_zero, List.set_cons_succ]
          have hb1 := run_buildOne W1 79 113 (waitL (n, L s)).toArray _ _ _ Tryd.underlying79 info80 (by rw [List.size_toArray, waitL_length (x := (n, L s)) hL]) (by decide) (by decide)
          have R2 := Row.new W1 (waitL (n, L s)).toArray 113
          have M2 : New w3 (W1.alloc (.cells (waitL (n, L s)).toArray 113)) := M1.alloc _
          generalize W1.alloc (.cells (waitL (n, L s)).toArray 113) = W2 at hb1 R2 M2
          refine wpPre_run (some 35) _ W2 (by rfl) (by rfl) (by rfl) (exec_buildSlice (by rfl) (by rfl) hb1) (HasCell.of ((M2.cell hpl).trans h2)) ?_
          simp only [Act.put, List.setIfInBounds_toArray, List.set_cons_zero, List.set_cons_succ]
          obtain ⟨g3, cap3, W3, hb2, Q3, G3⟩ := run_append_pl (P2.after M2) 79 79 Tryd.underlying79 _ _ info80 info80_size (by decide) W1.heap.size (waitL (n, L s)) 113 R2 (waitL_length (x := (n, L s)) hL) (waitL_one _) (by rw [List.length_map]; omega) (by decide)
          have R3 : Row W3 p _ 81 := (R.after M2).of (G3.block p (Nat.lt_of_lt_of_le hpl M2.size) (fun e => (P2.foot p e.symm).2.1 rfl))
          have hs3 : W3.cell? ⟨p, 2, none⟩ = some (.slice a2 S.burn.ws.length c2) := R3.cell 2
          have hf3 := R3.frozen 2
          refine wpPre_run (some 36) _ W3 (by rfl) (by rfl) (by rfl) (exec_append (by rfl) (by rfl) (by rfl) hb2) (HasCell.of hs3) ?_
          simp only [Act.put, List.setIfInBounds_toArray, List.set_cons_zero, List.set_cons_succ]
          refine wpPre_run (some 37) (.pointer (some ⟨p, 0, none⟩)) W3 (by rfl) (by rfl) (by rfl) (by go_simp) (HasCell.of hs3) ?_
          simp only [Act.put, List.setIfInBounds_toArray, List.set_cons_zero, List.set_cons_succ]
          refine wpPre_run (some 38) (.pointer (some ⟨p, 2, none⟩)) W3 (by rfl) (by rfl) (by rfl) (by go_simp) (HasCell.of hs3) ?_
          simp only [Act.put, List.setIfInBounds_toArray, List.set_cons_zero, List.set_cons_succ]
          refine wpPre_nil ?_
          clear hb1 hb2 h2 hf
          go_wp2_with fail
          go_ret
          refine ⟨by rw [HR.out]; rfl, ?_⟩
          rw [HR.out]
          have hlen : (S.burn.ws.map waitL).length + 1 = S.burn.ws.length + 1 := by rw [List.length_map]
          rw [hlen] at Q3
          exact Disk.addWait S3 D3 R P1 P2 M2 G3 Q3 hn hL hfew
      · rw [if_pos (by simpa using hin)] at HR
        rw [decide_eq_false hin] at hh
        clear hin hac
        go_enter Tryd.func71, Tryd.ntmps71
        go_wp2_with fail
        refine hr.mono ?_
        rintro _ w1 ⟨rfl, rfl⟩
        go_wp2_with fail
        refine hh.mono ?_
        rintro _ w2 ⟨rfl, rfl⟩
        go_wp2_with fail
        go_ret
        exact ⟨by rw [HR.out]; rfl, by rw [HR.out]; exact Left.refl HD.out⟩
    · rw [if_pos (by rw [L_size]; simpa using hs)] at HR
      have hs' : ¬ (s.size : Int) = 256 := by omega
      clear hac hh
      go_enter Tryd.func71, Tryd.ntmps71
      go_wp2_with fail
      refine hr.mono ?_
      rintro _ w1 ⟨rfl, rfl⟩
      go_wp2_with fail
      go_ret
      exact ⟨by rw [HR.out]; rfl, by rw [HR.out]; exact Left.refl HD.out⟩
  · rw [hd] at hr
    rw [hd, if_pos rfl] at HR
    clear hac hh
    go_enter Tryd.func71, Tryd.ntmps71
    go_wp2_with fail
    refine hr.mono ?_
    rintro _ w1 ⟨rfl, rfl⟩
    go_wp2_with fail
    go_ret
    exact ⟨by rw [HR.out]; rfl, by rw [HR.out]; exact Left.refl HD.out⟩

end Go.Proofs.YtkcoclpbkealgaaDoor
