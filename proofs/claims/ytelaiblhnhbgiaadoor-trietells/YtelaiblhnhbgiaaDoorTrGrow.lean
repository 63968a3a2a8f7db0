/-
  grow: the nodes of pairs laid behind others, by induction on how deep it may go; Build.
-/
import Derived.Test.YtelaiblhnhbgiaaDoorTrFork
namespace Go.Proofs.YtelaiblhnhbgiaaDoor
open Go.RowKit
set_option maxRecDepth 20000

theorem grow_none (f n b : Nat) : grow f [] n b = [] := by
  cases f with
  | zero => rfl
  | succ f => unfold grow; rw [if_pos (by rfl)]
theorem bs_drop (l : Bt) (n : Nat) : (bs l).extract n (bs l).size = bs (l.drop n) := eq_of_L (by
  rw [L_extract, L_bs, L_bs, bs_size, List.take_length])
theorem bs_take (l : Bt) (n : Nat) : (bs l).extract 0 n = bs (l.take n) := eq_of_L (by
  rw [L_extract, L_bs, L_bs, List.drop_zero])

set_option maxHeartbeats 2000000 in
theorem grow_empty (f : Nat) {w : World} {F A : Nat → Prop} {v pv : Value} {ts : List (List Value)} {n : Nat} (Q : Pl w F 49 20 v ts) (P : LsA w A 2 pv (([] : List Pr).map prC)) :
    Calls Tryd.prog 23 #[v, pv, .int .i64 (n : Int)] w fun e w' => ∃ v' F', e = .returned v' ∧ Pl w' F' 49 20 v' (ts ++ cellsN (grow f [] n ts.length)) ∧ Step F F' w w' := by
  obtain ⟨a, c, rfl, _⟩ := P.open ([], [])
  obtain ⟨av, cv, rfl, hcv⟩ := Q.form
  have HQ : Hid (Pl w F 49 20 (.slice av ts.length cv) ts) := Q
  clear Q P
  go_enter Tryd.func23, Tryd.ntmps23
  go_wp2_with fail
  go_ret
  refine ⟨_, F, rfl, ?_, Step.refl F w⟩
  rw [grow_none]; simpa [cellsN] using HQ.out

set_option maxHeartbeats 2000000 in
theorem grow_any (f : Nat) : GrowOk f := by
  induction f with
  | zero =>
    intro w F A v pv ts l n hn hfit hn16 Q P hA hl hv hb
    by_cases h0 : l.length = 0
    · obtain rfl : l = [] := List.eq_nil_of_length_eq_zero h0
      exact grow_empty 0 Q P
    · omega
  | succ f ih =>
    intro w F A v pv ts l n hn hfit hn16 Q P hA hl hv hb
    by_cases h0 : l.length = 0
    · obtain rfl : l = [] := List.eq_nil_of_length_eq_zero h0
      exact grow_empty (f + 1) Q P
    · obtain ⟨a, c, rfl, hc, HS⟩ := P.open ([], [])
      obtain ⟨g, o, rfl, hg, hAg, hr⟩ := HS.out (by omega)
      obtain ⟨p0, hp0⟩ : ∃ p, l.getD 0 ([], []) = p := ⟨_, rfl⟩
      have hm0 : p0 ∈ l := by rw [← hp0]; exact getD_mem (by omega)
      have r0 := hr w (New.refl w) 0 (by omega)
      rw [hp0] at r0
      have k0 : w.cell? ⟨g, o, none⟩ = some (.string (bs p0.1)) := by simpa using r0 0 _ rfl
      have k1 : w.cell? ⟨g, o + 1, none⟩ = some (.string (bs p0.2)) := by simpa using r0 1 _ rfl
      have hlen0 := hfit.len p0 hm0
      have hsz : n ≤ (bs p0.1).size := by rw [bs_size]; exact hlen0.1
      have hex := bs_drop p0.1 n
      have hhk : headK l = p0.1 := by
        rw [← hp0]
        cases l with
        | nil => exact absurd rfl h0
        | cons p r => rfl
      have hhv : headVal l = p0.2 := by
        rw [← hp0]
        cases l with
        | nil => exact absurd rfl h0
        | cons p r => rfl
      obtain ⟨av, cv, rfl, hcv⟩ := Q.form
      have HQ : Hid (Pl w F 49 20 (.slice av ts.length cv) ts) := Q
      have HB : Hid (ts.length + 3 * l.length + 2 * (f + 1) ≤ 40000) := hb
      have htl : ts.length ≤ 40000 := by omega
      have hcl := fun W => clone_any p0.2 (hv p0 hm0) W
      by_cases h1 : l.length = 1
      · have HG : Hid (grow (f + 1) l n ts.length = [(leafN (p0.1.drop n) p0.2, p0.1.take n)]) := by
          show _ = _
          unfold grow; rw [if_neg h0, if_pos h1, hhk, hhv]
        rw [h1] at hc ⊢
        clear hb hv hfit hhk hhv h0 h1 Q P HS hr ih hlen0 hp0 hm0 r0 hn hA
        go_enter Tryd.func23, Tryd.ntmps23
        go_wp2_with (first
          | (go_at_call 28; refine (hcl _).mono ?_; rintro _ W6 ⟨rfl, N6⟩; have Q6 := HQ.out.after N6)
          | refine wpList_build4 (by rfl) 49 _ _ _ _ (by rfl) _ _ _ _ (by rfl) (by rfl) (by rfl) (by rfl) _ (built49_leaf _ _) ?_
          | (refine wpList_build_one (by rfl) 24 _ (by rfl) Tryd.underlying24 _ _ info49 (ndA (leafN (p0.1.drop n) p0.2)) (by rfl) rfl (by decide) (by decide) ?_; intro W4 R4 N4; have Q4 := Q6.after N4)
          | (refine wpList_append_pl Q4 (by rfl) _ _ 24 (by rfl) Tryd.underlying24 _ _ info49 rfl (by decide) W6.heap.size (ndC (leafN (p0.1.drop n) p0.2)) 49 R4 rfl (ndC_one _) (by omega) (by decide) (by rfl) (by rfl) ?_; intro g5 c5 W5 Q5 G5))
        go_ret
        refine ⟨_, (fun b => F b ∨ W4.heap.size ≤ b), rfl, ?_, ((Step.new (N6.trans N4)).trans (Step.grown G5 (fun k hk => HQ.out.foot k hk))).wide (fun k hk => hk.imp id (fun h => Nat.le_trans (N6.trans N4).size h))⟩
        rw [HG.out]; exact Q5
      · obtain ⟨m, hm⟩ : ∃ m, l.length = m + 1 := ⟨l.length - 1, by omega⟩
        have hml : (l.length : Int) - 1 = (m : Int) := by omega
        have hmlt : m < l.length := by omega
        obtain ⟨p1, hp1⟩ : ∃ p, l.getD m ([], []) = p := ⟨_, rfl⟩
        have hm1 : p1 ∈ l := by rw [← hp1]; exact getD_mem hmlt
        have r1 := hr w (New.refl w) m hmlt
        rw [hp1] at r1
        have k2 : w.cell? ⟨g, o + m * 2, none⟩ = some (.string (bs p1.1)) := by simpa using r1 0 _ rfl
        have hlen1 := hfit.len p1 hm1
        have hsz1 : n ≤ (bs p1.1).size := by rw [bs_size]; exact hlen1.1
        have hex1 := bs_drop p1.1 n
        have hll : lastL l = p1.1 := by
          unfold lastL
          have e : l.getLast? = some p1 := by
            rw [List.getLast?_eq_getElem?, show l.length - 1 = m by omega, ← hp1, List.getD_eq_getElem?_getD, List.getElem?_eq_getElem hmlt]; rfl
          rw [e]
        obtain ⟨C, hC⟩ : ∃ C, comG l n = C := ⟨_, rfl⟩
        have hcom : ∀ W, Calls Tryd.prog 32 #[.string (bs (p0.1.drop n)), .string (bs (p1.1.drop n))] W fun e w' => e = .returned (.int .i64 (C : Int)) ∧ New W w' := fun W => by
          have := common_any (bs (p0.1.drop n)) (bs (p1.1.drop n)) (by rw [bs_size, List.length_drop]; omega) (by rw [bs_size, List.length_drop]; omega) W
          rw [L_bs, L_bs] at this
          rw [← hC]; unfold comG; rw [hhk, hll]; exact this
        have hF := hfit.fork (by omega)
        have hCl : C ≤ (p0.1.drop n).length := by rw [← hC, ← hhk]; exact (comN_le _ _).1
        have hCsz : C ≤ (bs (p0.1.drop n)).size := by rw [bs_size]; exact hCl
        rw [hC] at hF
        obtain ⟨N, hN⟩ : ∃ N, n + C = N := ⟨_, rfl⟩
        have hNi : (n : Int) + (C : Int) = (N : Int) := by omega
        rw [List.length_drop] at hCl
        have hNle : N ≤ 16 := by omega
        by_cases hC0 : C = 0
        · have hd : decide ((0 : Int) < (C : Int)) = false := decide_eq_false (by omega)
          have hd' : decide (0 < C) = false := decide_eq_false (by omega)
          have HG : Hid (grow (f + 1) l n ts.length = forkW (fun g => grow f g (N + 1)) l N ts.length) := by
            show _ = _
            unfold grow; rw [if_neg h0, if_neg h1, hC, if_pos hC0, show N = n by omega]
          rw [hN] at hF
          have hfork := fun {w1 : World} (N1 : New w w1) => fork_any f ih (by omega) hF (Q.after N1) (P.after N1) (fun g hg => ⟨Nat.lt_of_lt_of_le (hA g hg).1 N1.size, (hA g hg).2⟩) hl hv (by omega)
          have hd1 : decide ((l.length : Int) = 1) = false := decide_eq_false (by omega)
          clear hb hv hfit hhk hhv Q P HS hr ih hlen0 hlen1 hp0 hm0 r0 r1 hn hA hll hF hC0 hC hCl hN hm1 hp1 hm hcl
          go_enter Tryd.func23, Tryd.ntmps23
          go_wp2_with (first
            | (go_at_call 32; refine (hcom _).mono ?_; rintro _ W6 ⟨rfl, N6⟩))
          refine Calls.mono (hfork N6) ?_
          rintro _ W9 ⟨v9, F9, rfl, Q9, S9⟩
          have HQ9 : Hid (Pl W9 F9 49 20 v9 (ts ++ cellsN (forkW (fun g => grow f g (N + 1)) l N ts.length))) := Q9
          clear Q9 hfork
          go_wp2_with fail
          go_ret
          refine ⟨v9, F9, rfl, ?_, (Step.new N6).trans S9⟩
          rw [HG.out]; exact HQ9.out
        · have hd : decide ((0 : Int) < (C : Int)) = true := decide_eq_true (by omega)
          have hd' : decide (0 < C) = true := decide_eq_true (by omega)
          have HG : Hid (grow (f + 1) l n ts.length = (extN ((p0.1.drop n).take C) ((ts.length + 1 : Nat) : Int), p0.1.take n) :: forkW (fun g => grow f g (N + 1)) l N (ts.length + 1)) := by
            show _ = _
            unfold grow; rw [if_neg h0, if_neg h1, hC, if_neg hC0, hhk, hN]
          rw [hN] at hF
          have hext := bs_take (p0.1.drop n) C
          have hfork := fun {w1 : World} {F1 : Nat → Prop} {v1 : Value} {ts1 : List (List Value)} (S1 : Step F F1 w w1) (Q1 : Pl w1 F1 49 20 v1 ts1) (ht : ts1.length = ts.length + 1) => fork_any f ih (by omega) hF Q1 (P.step S1 (fun g hg => (hA g hg).2)) (stay hA S1) hl hv (by rw [ht]; omega)
          have hd1 : decide ((l.length : Int) = 1) = false := decide_eq_false (by omega)
          clear hb hv hfit hhk hhv Q P HS hr ih hlen0 hlen1 hp0 hm0 r0 r1 hn hA hll hF hC0 hC hCl hN hm1 hp1 hm hcl
          go_enter Tryd.func23, Tryd.ntmps23
          go_wp2_with (first
            | (go_at_call 32; refine (hcom _).mono ?_; rintro _ W6 ⟨rfl, N6⟩; have Q6 := HQ.out.after N6)
            | refine wpList_build1 (by rfl) 47 _ (by rfl) _ (by rfl) _ (built47_one _) ?_
            | refine wpList_build3x (by rfl) 49 _ _ _ (by rfl) _ _ _ (by rfl) (by rfl) (by rfl) _ (built49_ext _ _) ?_
            | (refine wpList_build_one (by rfl) 24 _ (by rfl) Tryd.underlying24 _ _ info49 (ndA (extN ((p0.1.drop n).take C) ((ts.length + 1 : Nat) : Int))) (by rfl) rfl (by decide) (by decide) ?_; intro W4 R4 N4; have Q4 := Q6.after N4)
            | (refine wpList_append_pl Q4 (by rfl) _ _ 24 (by rfl) Tryd.underlying24 _ _ info49 rfl (by decide) W6.heap.size (ndC (extN ((p0.1.drop n).take C) ((ts.length + 1 : Nat) : Int))) 49 R4 rfl (ndC_one _) (by omega) (by decide) (by rfl) (by rfl) ?_; intro g5 c5 W5 Q5 G5))
          have hst : Step F (fun b => F b ∨ W4.heap.size ≤ b) w W5 := ((Step.new (N6.trans N4)).trans (Step.grown G5 (fun k hk => HQ.out.foot k hk))).wide (fun k hk => hk.imp id (fun h => Nat.le_trans (N6.trans N4).size h))
          have hle : (ts ++ [ndC (extN ((p0.1.drop n).take C) ((ts.length + 1 : Nat) : Int))]).length = ts.length + 1 := by rw [List.length_append]; rfl
          have hcall := hfork hst Q5 hle
          rw [hle] at hcall
          have HS : Hid (Step F (fun b => F b ∨ W4.heap.size ≤ b) w W5) := hst
          clear hst hle hfork Q5 G5 Q4 Q6
          refine Calls.mono hcall ?_
          rintro _ W9 ⟨v9, F9, rfl, Q9, S9⟩
          have HQ9 : Hid (Pl W9 F9 49 20 v9 ((ts ++ [ndC (extN ((p0.1.drop n).take C) ((ts.length + 1 : Nat) : Int))]) ++ cellsN (forkW (fun g => grow f g (N + 1)) l N (ts.length + 1)))) := Q9
          clear Q9 hcall
          go_wp2_with fail
          go_ret
          refine ⟨v9, F9, rfl, ?_, HS.out.trans S9⟩
          rw [HG.out]
          have := HQ9.out
          rw [List.append_assoc] at this
          exact this

/-- Build's nodes. -/
def buildN (l : List Pr) : List Nd := (trieL l).map (·.1)
theorem cellsN_trie (l : List Pr) : cellsN (trieL l) = (buildN l).map ndC := by unfold cellsN buildN; rw [List.map_map]; rfl

set_option maxHeartbeats 1000000 in
theorem build_no {w : World} {v : Value} {l : List Pr} (P : Ls w 2 v (l.map prC)) (hl : l.length ≤ 10000) (hk : ∀ p ∈ l, p.1.length ≤ 4000 ∧ p.2.length ≤ 4000) (hm : mayB l = false) :
    Calls Tryd.prog 11 #[v] w fun e w' => e = .returned (.tuple #[.slice none 0 0, .bool false]) ∧ New w w' := by
  have hmay := mayBe_any P hl hk
  rw [hm] at hmay
  obtain ⟨a, c, hac⟩ := P.size
  rw [List.length_map] at hac
  subst hac
  clear P hm hk
  go_enter Tryd.func11, Tryd.ntmps11
  go_wp2_with fail
  refine Calls.mono hmay ?_
  rintro _ W1 ⟨rfl, N1⟩
  go_wp2_with fail
  go_ret2
  exact ⟨rfl, N1⟩

set_option maxHeartbeats 1000000 in
theorem build_yes {w : World} {v : Value} {l : List Pr} (P : Ls w 2 v (l.map prC)) (hl : l.length ≤ 10000) (hk : ∀ p ∈ l, p.1.length ≤ 4000 ∧ p.2.length ≤ 4000) (hm : mayB l = true) :
    Calls Tryd.prog 11 #[v] w fun e w' => ∃ v', e = .returned (.tuple #[v', .bool true]) ∧ Pl w' (Fresh w) 49 20 v' ((buildN l).map ndC) ∧ New w w' := by
  have hmay := mayBe_any P hl hk
  rw [hm] at hmay
  have hnib := fun {w1 : World} (N : New w w1) => byNibbles_any (P.after N) hl hk
  have hfit := may_fit hm
  have hlm : (l.map halfP).length = l.length := List.length_map _
  have hvm : ∀ p ∈ l.map halfP, p.2.length ≤ 4000 := fun p hp => by
    obtain ⟨q, hq, rfl⟩ := List.mem_map.1 hp
    exact (hk q hq).2
  have hgrow := fun {w2 : World} {v2 : Value} {B : Nat → Prop} (Q : Pl w2 B 52 2 v2 ((l.map halfP).map prC)) => grow_any 17 w2 (fun _ => False) (fun g => B g ∧ g < w2.heap.size) (.slice none 0 0) v2 [] (l.map halfP) 0 (by omega) hfit (by omega) (Pl.nil _ _ _ _) Q.lsA (fun g hg => ⟨hg.2, fun h => h⟩) (by omega) hvm (by rw [hlm, List.length_nil]; omega)
  obtain ⟨a, c, hac⟩ := P.size
  rw [List.length_map] at hac
  subst hac
  clear P hm hk hfit hvm
  go_enter Tryd.func11, Tryd.ntmps11
  go_wp2_with fail
  refine Calls.mono hmay ?_
  rintro _ W1 ⟨rfl, N1⟩
  go_wp2_with fail
  refine Calls.mono (hnib N1) ?_
  rintro _ W2 ⟨v2, rfl, Q2, N2⟩
  have HQ2 : Hid (Pl W2 (Fresh W1) 52 2 v2 ((l.map halfP).map prC)) := Q2
  clear Q2
  go_wp2_with fail
  refine Calls.mono (hgrow HQ2.out) ?_
  rintro _ W3 ⟨v3, F3, rfl, Q3, S3⟩
  have HQ3 : Hid (Pl W3 F3 49 20 v3 (cellsN (trieL l))) := Q3
  clear Q3
  go_wp2_with fail
  go_ret2
  have hsz : w.heap.size ≤ W2.heap.size := (N1.trans N2).size
  have N3 : New W2 W3 := ⟨S3.os, S3.tape, S3.output, S3.size, fun k hk => S3.block k hk (fun h => h)⟩
  refine ⟨v3, rfl, ?_, (N1.trans N2).trans N3⟩
  have := HQ3.out
  rw [cellsN_trie] at this
  exact this.mono fun b hb _ => by
    rcases S3.foot b hb with h | h
    · exact h.elim
    · exact Nat.le_trans hsz h

end Go.Proofs.YtelaiblhnhbgiaaDoor
