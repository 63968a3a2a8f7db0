/-
  TrieTells: whatever pairs and two lists of nodes, the call returns true and leaves its arguments as they were: the nodes that pairs have, the pairs and the paths of nodes, whether they are a trie and whether two are alike are all as the document's own answer has them. Its condition: the table of upper halves holds what its initialiser lays (tied).
-/
import Derived.Test.YtelaiblhnhbgiaaDoorAskN
import Derived.Test.YtelaiblhnhbgiaaDoorRpA
import Derived.Test.YtelaiblhnhbgiaaDoorRefG
namespace Go.Proofs.YtelaiblhnhbgiaaDoor
open Go.RowKit
set_option maxRecDepth 20000
/-- A slice copied behind nothing, an empty one too. -/
theorem run_copy_all {w : World} (T t ty : TypeId) (k : Nat) (z : Value) (bytes : Nat) (hT : Tryd.prog.underlying T = some (.slice t)) (hi : (Tryd.prog.info? t).map (fun i => (i.zero, i.size, i.bytes)) = some (some z, k, bytes)) (hz : z.cells.size = k) (hk : 0 < k) (hb : bytes ≤ 1000)
    {v : Value} {es : List (List Value)} (P : Ls w k v es) (he : ∀ e ∈ es, e.length = k) (hone : ∀ e ∈ es, ∀ u ∈ e, u.oneCell' = true) (hn : es.length ≤ 1000000) :
    ∃ v' w', (Builtin.append_ #[T, T] ty #[.slice (some ⟨w.heap.size, 0, none⟩) 0 0, v]).run Tryd.prog (w.alloc (.cells #[] t)) = .ok v' w' ∧ Pl w' (Fresh w) t k v' es ∧ New w w' := by
  have N : New w (w.alloc (.cells #[] t)) := (New.refl w).alloc _
  by_cases h0 : 0 < es.length
  · obtain ⟨v', w', h1, h2, h3, _⟩ := run_copy_ls T t ty k z bytes hT hi hz hk hb P he hone h0 hn (Row.new w #[] t) N (Nat.le_refl _)
    exact ⟨v', w', h1, h2, h3⟩
  · obtain ⟨i0, hi0, hz0, hz1, hz2⟩ := info_parts hi
    obtain rfl : es = [] := List.eq_nil_of_length_eq_zero (by omega)
    obtain ⟨a, c, rfl, _⟩ := P
    refine ⟨.slice (some ⟨w.heap.size, 0, none⟩) 0 0, w.alloc (.cells #[] t), ?_, ⟨(fun e he => by cases he), ⟨by simp, .inr ⟨w.heap.size, 0, #[], rfl, Nat.zero_le _, Row.new w #[] t, Nat.le_refl _, by unfold maxLen; omega, by simp, by simp⟩⟩, (fun g hg => by cases hg; exact Nat.le_refl _)⟩, N⟩
    cases a with
    | none => simp [Builtin.append_, run_underlying hT, sizeOf, typeInfo, hi0, Builtin.lenOf, Builtin.firstCells, storeCells]
    | some x =>
      have hld := run_loadCells_list (P := Tryd.prog) (w.alloc (.cells #[] t)) x [] (fun j v hv => by simp at hv)
      rw [List.length_nil] at hld
      simp [Builtin.append_, run_underlying hT, sizeOf, typeInfo, hi0, Builtin.lenOf, Builtin.firstCells, storeCells, hld]

theorem field_paths (a : Option Addr) (n c : Nat) (b : Option Addr) (m d : Nat) (x : Bool) (w : World) : (Instr.field 32 (.agg #[.slice a n c, .slice b m d, .bool x]) 1).run Tryd.prog w = .ok (.slice b m d) w := by
  simp [Instr.field, run_underlying Tryd.underlying32, asAgg, part, Tryd.isAgg30, Tryd.sizeOf30]
def bX (l : List Pr) : List Nd := if mayB l then buildN l else []
def pX (l : List Pr) : List Bt := if mayB l then (trieL l).map (·.2) else []
def rL (t : List Nd) : List Pr := match readF t with | none => [] | some s => s.1
def rP (t : List Nd) : List Bt := match readF t with | none => [] | some s => s.2
theorem Ls.nil (w : World) (k : Nat) : Ls w k (.slice none 0 0) [] := ⟨none, 0, rfl, Nat.le_refl _, fun h => absurd rfl h⟩
theorem t_build {w : World} {v : Value} {l : List Pr} (P : Ls w 2 v (l.map prC)) (hl : l.length ≤ 10000) (hk : ∀ p ∈ l, p.1.length ≤ 4000 ∧ p.2.length ≤ 4000) :
    Calls Tryd.prog 11 #[v] w fun e w' => ∃ va, e = .returned (.tuple #[va, .bool (mayB l)]) ∧ Ls w' 20 va ((bX l).map ndC) ∧ New w w' := by
  cases h : mayB l
  · refine (build_no P hl hk h).mono ?_
    rintro e w' ⟨rfl, n⟩
    exact ⟨_, rfl, by unfold bX; rw [h]; exact Ls.nil _ _, n⟩
  · refine (build_yes P hl hk h).mono ?_
    rintro e w' ⟨va, rfl, Q, n⟩
    exact ⟨_, rfl, by unfold bX; rw [h]; exact Q.ls, n⟩
theorem r_build {w : World} {v : Value} {l : List Pr} (P : Ls w 2 v (l.map prC)) (hl : l.length ≤ 10000) (hk : ∀ p ∈ l, p.1.length ≤ 4000 ∧ p.2.length ≤ 4000) :
    Calls Tryd.prog 12 #[v] w fun e w' => ∃ (a : Option Addr) (n c : Nat) (b : Option Addr) (m d : Nat), e = .returned (.agg #[.slice a n c, .slice b m d, .bool (mayB l)]) ∧ Ls w' 20 (.slice a n c) ((bX l).map ndC) ∧ Ls w' 1 (.slice b m d) ((pX l).map txC) ∧ New w w' := by
  refine (rbuild_any P hl hk).mono ?_
  rintro e w' ⟨n, ⟨h, rfl⟩ | ⟨h, vt, vp, rfl, Q1, Q2⟩⟩
  · exact ⟨_, _, _, _, _, _, by rw [h], by unfold bX; rw [h]; exact Ls.nil _ _, by unfold pX; rw [h]; exact Ls.nil _ _, n⟩
  · obtain ⟨a, c, rfl, _⟩ := Q1.form
    obtain ⟨b, d, rfl, _⟩ := Q2.form
    exact ⟨_, _, _, _, _, _, by rw [h], by unfold bX; rw [h]; exact Q1.ls, by unfold pX; rw [h]; exact Q2.ls, n⟩
theorem t_pairs {w : World} {v : Value} {t : List Nd} (P : Ls w 20 v (t.map ndC)) (K : TOk t) (hT : Tab w) :
    Calls Tryd.prog 13 #[v] w fun e w' => ∃ va, e = .returned (.tuple #[va, .bool (readF t).isSome]) ∧ Ls w' 2 va ((rL t).map prC) ∧ New w w' := by
  refine (pairs_any P K hT).mono ?_
  rintro e w' ⟨n, ⟨h, rfl⟩ | ⟨s, va, h, rfl, Q⟩⟩
  · exact ⟨_, by rw [h]; rfl, by unfold rL; rw [h]; exact Ls.nil _ _, n⟩
  · exact ⟨_, by rw [h]; rfl, by unfold rL; rw [h]; exact Q.ls, n⟩
theorem t_paths {w : World} {v : Value} {t : List Nd} (P : Ls w 20 v (t.map ndC)) (K : TOk t) (hT : Tab w) :
    Calls Tryd.prog 15 #[v] w fun e w' => ∃ va, e = .returned (.tuple #[va, .bool (readF t).isSome]) ∧ Ls w' 1 va ((rP t).map txC) ∧ New w w' := by
  refine (paths_any P K hT).mono ?_
  rintro e w' ⟨n, ⟨h, rfl⟩ | ⟨s, va, h, rfl, Q⟩⟩
  · exact ⟨_, by rw [h]; rfl, by unfold rP; rw [h]; exact Ls.nil _ _, n⟩
  · exact ⟨_, by rw [h]; rfl, by unfold rP; rw [h]; exact Q.ls, n⟩
theorem r_pairs {w : World} {v : Value} {t : List Nd} (P : Ls w 20 v (t.map ndC)) (K : TOk t) :
    Calls Tryd.prog 14 #[v] w fun e w' => ∃ (a : Option Addr) (n c : Nat), e = .returned (.agg #[.slice a n c, .bool (readF t).isSome]) ∧ Ls w' 2 (.slice a n c) ((rL t).map prC) ∧ New w w' := by
  refine (rpairs_any P K).mono ?_
  rintro e w' ⟨n, ⟨h, rfl⟩ | ⟨s, va, h, rfl, Q⟩⟩
  · exact ⟨_, _, _, by rw [h]; rfl, by unfold rL; rw [h]; exact Ls.nil _ _, n⟩
  · obtain ⟨a, c, rfl, _⟩ := Q.form
    exact ⟨_, _, _, by rw [h]; rfl, by unfold rL; rw [h]; exact Q.ls, n⟩
theorem bX_ok (l : List Pr) : (∀ x ∈ bX l, x.kids.length = 16) ∧ (bX l).length ≤ 3 * l.length := by
  unfold bX
  cases h : mayB l
  · exact ⟨fun x hx => by simp at hx, by simp⟩
  · exact ⟨build_k16 h, build_few h⟩
theorem rL_ok {t : List Nd} (K : TOk t) : (rL t).length ≤ 10000 ∧ (∀ p ∈ rL t, p.1.length ≤ 4000 ∧ p.2.length ≤ 4000) ∧ (rP t).length ≤ 30000 ∧ (readF t ≠ none → pX (rL t) = rP t) ∧ (readF t = none → rP t = []) := by
  unfold rL rP
  cases h : readF t with
  | none => exact ⟨by simp, fun p hp => by simp at hp, by simp, fun h => absurd rfl h, fun _ => rfl⟩
  | some s =>
    obtain ⟨h1, h2, h3⟩ := readF_ok h
    have hf := readF_few K h
    refine ⟨hf, fun p hp => ?_, ?_, fun _ => ?_, fun h => by cases h⟩
    · have := okP_key p ((mayB_rise _ h1).2 p hp); omega
    · show s.2.length ≤ 30000
      rw [h3, List.length_map]
      have := build_few h1
      unfold buildN at this
      rw [List.length_map] at this
      omega
    · show pX s.1 = s.2
      unfold pX; rw [h1, h3]; rfl

set_option maxHeartbeats 8000000 in
theorem tells_any {w : World} {v1 v2 v3 : Value} {l : List Pr} {t u : List Nd} (P1 : Ls w 2 v1 (l.map prC)) (P2 : Ls w 20 v2 (t.map ndC)) (P3 : Ls w 20 v3 (u.map ndC)) (k2 : ∀ x ∈ t, x.kids.length = 16) (k3 : ∀ x ∈ u, x.kids.length = 16)
    (h1 : l.length ≤ maxLen) (h2 : t.length ≤ maxLen) (h3 : u.length ≤ maxLen) (hT : Tab w) : Calls Tryd.prog 3 #[v1, v2, v3] w fun e w' => e = .returned (.bool true) ∧ New w w' := by
  unfold maxLen at h1 h2 h3
  have c1 := fun {w1 : World} (n : New w w1) => longPairs_any (P1.after n) (by omega)
  have c2 := fun {w1 : World} (n : New w w1) => longTrie_any (P2.after n) (by omega)
  have c3 := fun {w1 : World} (n : New w w1) => longTrie_any (P3.after n) (by omega)
  have HT : Hid (Tab w) := hT
  have HP1 : Hid (Ls w 2 v1 (l.map prC)) := P1
  have HP2 : Hid (Ls w 20 v2 (t.map ndC)) := P2
  have HP3 : Hid (Ls w 20 v3 (u.map ndC)) := P3
  have HK2 : Hid (∀ x ∈ t, x.kids.length = 16) := k2
  have HK3 : Hid (∀ x ∈ u, x.kids.length = 16) := k3
  obtain ⟨b1, hb1⟩ : ∃ b, longB lenP 3000 ([], []) l = b := ⟨_, rfl⟩
  obtain ⟨b2, hb2⟩ : ∃ b, longB lenN 4000 noNd t = b := ⟨_, rfl⟩
  obtain ⟨b3, hb3⟩ : ∃ b, longB lenN 4000 noNd u = b := ⟨_, rfl⟩
  rw [hb1] at c1
  rw [hb2] at c2
  rw [hb3] at c3
  have HB1 : Hid (longB lenP 3000 ([], []) l = b1) := hb1
  have HB2 : Hid (longB lenN 4000 noNd t = b2) := hb2
  have HB3 : Hid (longB lenN 4000 noNd u = b3) := hb3
  have hwk := fun {W : World} (n : New w W) => wakes_any W (HT.out.kept n)
  clear hb1 hb2 hb3 P1 P2 P3 k2 k3 hT
  cases b1
  case true =>
    go_enter Tryd.func3, Tryd.ntmps3
    go_wp2_with fail
    refine Calls.mono (c1 (New.refl _)) ?_
    rintro _ W1 ⟨rfl, N1⟩
    clear c1 c2 c3
    go_wp2_with fail
    refine Calls.mono (hwk N1) ?_
    rintro _ W2 ⟨rfl, N2⟩
    go_wp2_with fail
    go_ret
    exact ⟨rfl, N1.trans N2⟩
  cases b2
  case true =>
    go_enter Tryd.func3, Tryd.ntmps3
    go_wp2_with fail
    refine Calls.mono (c1 (New.refl _)) ?_
    rintro _ W1 ⟨rfl, N1⟩
    clear c1
    go_wp2_with fail
    refine Calls.mono (c2 N1) ?_
    rintro _ W2 ⟨rfl, N2⟩
    clear c2 c3
    go_wp2_with fail
    refine Calls.mono (hwk (N1.trans N2)) ?_
    rintro _ W3 ⟨rfl, N3⟩
    go_wp2_with fail
    go_ret
    exact ⟨rfl, (N1.trans N2).trans N3⟩
  cases b3
  case true =>
    go_enter Tryd.func3, Tryd.ntmps3
    go_wp2_with fail
    refine Calls.mono (c1 (New.refl _)) ?_
    rintro _ W1 ⟨rfl, N1⟩
    clear c1
    go_wp2_with fail
    refine Calls.mono (c2 N1) ?_
    rintro _ W2 ⟨rfl, N2⟩
    clear c2
    go_wp2_with fail
    refine Calls.mono (c3 (N1.trans N2)) ?_
    rintro _ W3 ⟨rfl, N3⟩
    clear c3
    go_wp2_with fail
    refine Calls.mono (hwk ((N1.trans N2).trans N3)) ?_
    rintro _ W4 ⟨rfl, N4⟩
    go_wp2_with fail
    go_ret
    exact ⟨rfl, ((N1.trans N2).trans N3).trans N4⟩
  obtain ⟨hl3, hls⟩ := prs_of HB1.out
  have HLS : Hid (∀ p ∈ l, p.1.length ≤ 4000 ∧ p.2.length ≤ 4000) := hls
  have HKT : Hid (TOk t) := tok_of HK2.out HB2.out
  have HKU : Hid (TOk u) := tok_of HK3.out HB3.out
  clear hls
  go_enter Tryd.func3, Tryd.ntmps3
  go_wp2_with fail
  refine Calls.mono (c1 (New.refl _)) ?_
  rintro _ W1 ⟨rfl, N1⟩
  clear c1
  go_wp2_with fail
  refine Calls.mono (c2 N1) ?_
  rintro _ W2 ⟨rfl, N2⟩
  clear c2
  go_wp2_with fail
  refine Calls.mono (c3 (N1.trans N2)) ?_
  rintro _ W3 ⟨rfl, N3⟩
  clear c3
  have M3 := (N1.trans N2).trans N3
  clear N1 N2 N3
  obtain ⟨v7, W4, ha4, Q4, N4⟩ := run_copy_all (w := W3) 22 52 22 2 _ _ Tryd.underlying22 info52 rfl (by decide) (by decide) (HP1.out.after M3) (fun e he => by obtain ⟨p, _, rfl⟩ := List.mem_map.1 he; rfl) (fun e he => by obtain ⟨p, _, rfl⟩ := List.mem_map.1 he; exact prC_one p) (by rw [List.length_map]; omega)
  have M4 := M3.trans N4
  obtain ⟨v8, W5, ha5, Q5, N5⟩ := run_copy_all (w := W4) 24 49 24 20 _ _ Tryd.underlying24 info49 rfl (by decide) (by decide) (HP2.out.after M4) (fun e he => by obtain ⟨p, hp, rfl⟩ := List.mem_map.1 he; exact ndC_len (HK2.out p hp)) (fun e he => by obtain ⟨p, _, rfl⟩ := List.mem_map.1 he; exact ndC_one p) (by rw [List.length_map]; have := HKT.out.few; omega)
  have M5 := M4.trans N5
  have HQ7 : Hid (Ls W5 2 v7 (l.map prC)) := Q4.ls.after N5
  have HQ8 : Hid (Ls W5 20 v8 (t.map ndC)) := Q5.ls
  have bu1 := t_build (Q4.ls.after N5) (by omega) HLS.out
  clear Q4 Q5 N4 N5 M3 M4
  go_wp2_with (first
    | refine wpList_run (by rfl) _ _ (exec_buildNone (by rfl) (run_buildNone _ 22 52 _ _ _ Tryd.underlying22 info52)) ?_
    | refine wpList_appends (by rfl) _ _ 22 22 _ _ _ _ (by rfl) (by rfl) (by rfl) (by rfl) ha4 ?_
    | refine wpList_run (by rfl) _ _ (exec_buildNone (by rfl) (run_buildNone _ 24 49 _ _ _ Tryd.underlying24 info49)) ?_
    | refine wpList_appends (by rfl) _ _ 24 24 _ _ _ _ (by rfl) (by rfl) (by rfl) (by rfl) ha5 ?_)
  clear ha4 ha5
  obtain ⟨mb, hmb⟩ : ∃ b, mayB l = b := ⟨_, rfl⟩
  obtain ⟨ok, hok⟩ : ∃ b, (readF t).isSome = b := ⟨_, rfl⟩
  have HOK : Hid ((readF t).isSome = ok) := hok
  have bu2 := fun {W : World} (n : New w W) => r_build (HP1.out.after n) (by omega) HLS.out
  have bp := fun {W : World} (n : New W5 W) => t_pairs (HQ8.out.after n) HKT.out (HT.out.kept (M5.trans n))
  have bq := fun {W : World} (n : New w W) => r_pairs (HP2.out.after n) HKT.out
  have bs_ := fun {W : World} (n : New W5 W) => t_paths (HQ8.out.after n) HKT.out (HT.out.kept (M5.trans n))
  rw [hmb] at bu1 bu2
  rw [hok] at bp bq bs_
  clear hmb hok
  refine Calls.mono bu1 ?_
  rintro _ W6 ⟨v9, rfl, L9, N6⟩
  have M6 := M5.trans N6
  clear bu1
  go_wp2_with fail
  refine Calls.mono (bu2 M6) ?_
  rintro _ W7 ⟨a1, n1, d1, a2, n2, d2, rfl, L1, L2, N7⟩
  have N57 := N6.trans N7
  clear bu2 L2
  go_wp2_with (first
    | (refine wpList_alloc_at (by rfl) 11 (by rfl) 32 (by rfl) _ _ _ info32 ?_; intro Wa Ra Na)
    | (refine wpList_store_new (by rfl) 32 _ _ (by rfl) W7.heap.size #[.slice a1 n1 d1, .slice a2 n2 d2, .bool mb] (by rfl) (by rfl) 32 _ Ra i32 rfl (both_one _ _ _ _ _ _ _) ?_; intro W8 R8 B8; have N8 : New W7 W8 := B8.new Na (Nat.le_refl _)))
  have N58 := N57.trans N8
  have HL9 : Hid (Ls W8 20 v9 ((bX l).map ndC)) := L9.after (N7.trans N8)
  have HL1 : Hid (Ls W8 20 (.slice a1 n1 d1) ((bX l).map ndC)) := L1.after N8
  have HR8 : Hid (Row W8 W7.heap.size #[.slice a1 n1 d1, .slice a2 n2 d2, .bool mb] 32) := R8
  generalize W7.heap.size = KB at *
  clear L9 L1 R8 Ra Na B8 N8 N6 N7 N57
  refine Calls.mono (bp N58) ?_
  rintro _ W9 ⟨v12, rfl, L12, N9⟩
  have N59 := N58.trans N9
  clear bp
  go_wp2_with fail
  refine Calls.mono (bq (M5.trans N59)) ?_
  rintro _ W10 ⟨a3, n3, d3, rfl, L3, N10⟩
  clear bq
  go_wp2_with (first
    | (refine wpList_alloc_at (by rfl) 14 (by rfl) 37 (by rfl) _ _ _ info37 ?_; intro Wb Rb Nb)
    | (refine wpList_store_new (by rfl) 37 _ _ (by rfl) W10.heap.size #[.slice a3 n3 d3, .bool ok] (by rfl) (by rfl) 37 _ Rb i37 rfl (got_one _ _ _ _) ?_; intro W11 R11 B11; have N11 : New W10 W11 := B11.new Nb (Nat.le_refl _)))
  have N511 := (N59.trans N10).trans N11
  have N811 := (N9.trans N10).trans N11
  refine Calls.mono (bs_ N511) ?_
  rintro _ W12 ⟨v15, rfl, L15, N12⟩
  have N12w : New W5 W12 := N511.trans N12
  have M12 := M5.trans N12w
  have N812 := N811.trans N12
  have HL9' : Hid (Ls W12 20 v9 ((bX l).map ndC)) := HL9.out.after N812
  have HL1' : Hid (Ls W12 20 (.slice a1 n1 d1) ((bX l).map ndC)) := HL1.out.after N812
  have HR8' : Hid (Row W12 KB #[.slice a1 n1 d1, .slice a2 n2 d2, .bool mb] 32) := HR8.out.after N812
  have HL12 : Hid (Ls W12 2 v12 ((rL t).map prC)) := L12.after ((N10.trans N11).trans N12)
  have HL3 : Hid (Ls W12 2 (.slice a3 n3 d3) ((rL t).map prC)) := L3.after (N11.trans N12)
  have HL15 : Hid (Ls W12 1 v15 ((rP t).map txC)) := L15
  have HR11 : Hid (Row W12 W10.heap.size #[.slice a3 n3 d3, .bool ok] 37) := R11.after N12
  have y1 := HR11.out.has 1 (v := .bool ok) rfl
  generalize W10.heap.size = KQ at *
  clear bs_ L12 L3 L15 R11 Rb Nb B11 N9 N10 N11 N12 N511 N811 N812 N58 N59 HL9 HL1 HR8
  have HRL := rL_ok HKT.out
  have HRO : Hid ((rL t).length ≤ 10000 ∧ (∀ p ∈ rL t, p.1.length ≤ 4000 ∧ p.2.length ≤ 4000) ∧ (rP t).length ≤ 30000 ∧ (readF t ≠ none → pX (rL t) = rP t) ∧ (readF t = none → rP t = [])) := HRL
  clear HRL
  cases ok
  · have HW : Hid (Ls W12 1 (.slice none 0 0) ((rP t).map txC)) := by
      have hn : readF t = none := by have := HOK.out; cases hr : readF t <;> simp_all
      show Ls _ _ _ _
      rw [HRO.out.2.2.2.2 hn]; exact Ls.nil _ _
    go_wp2_with fail
    have hL9 := HL9'.out
    have hL1 := HL1'.out
    have hR8 := HR8'.out
    have hL12 := HL12.out
    have hL3 := HL3.out
    have hL15 := HL15.out
    have hR11 := HR11.out
    have hN5 := N12w
    have hM := M12
    have kt1 : ∀ p : NewW W12, Calls Tryd.prog 16 #[v9, .slice a1 n1 d1] p.v fun e w' => e = .returned (.bool true) ∧ New p.v w' := fun p => by
      have := keepTrie_any (hL9.after p.h) (hL1.after p.h) (bX_ok l).1 (bX_ok l).1 (by have := (bX_ok l).2; omega) (by have := (bX_ok l).2; omega)
      rw [decide_eq_true rfl] at this; exact this
    have kp1 : ∀ p : NewW W12, Calls Tryd.prog 17 #[v12, .slice a3 n3 d3] p.v fun e w' => e = .returned (.bool true) ∧ New p.v w' := fun p => by
      have := keepPairs_any (hL12.after p.h) (hL3.after p.h) (by have := HRO.out.1; omega) (by have := HRO.out.1; omega)
      rw [decide_eq_true rfl] at this; exact this
    have kx : ∀ p : NewW W12, Calls Tryd.prog 18 #[v15, .slice none 0 0] p.v fun e w' => e = .returned (.bool true) ∧ New p.v w' := fun p => by
      have := keepTexts_any (hL15.after p.h) (HW.out.after p.h) (by have := HRO.out.2.2.1; omega) (by have := HRO.out.2.2.1; omega)
      rw [decide_eq_true rfl] at this; exact this
    have kg : ∀ p : NewW W12, Calls Tryd.prog 19 #[v8] p.v fun e w' => e = .returned (.bool false) ∧ New p.v w' := fun p => by
      have := good_trie (HQ8.out.after (hN5.trans p.h)) HKT.out (HT.out.kept (hM.trans p.h))
      rw [HOK.out] at this; exact this
    obtain ⟨du, hdu⟩ : ∃ b, decide (t = u) = b := ⟨_, rfl⟩
    have ks : ∀ p : NewW W12, Calls Tryd.prog 20 #[v8, v3] p.v fun e w' => e = .returned (.bool du) ∧ New p.v w' := fun p => by
      have := same_any (HQ8.out.after (hN5.trans p.h)) (HP3.out.after (hM.trans p.h)) HKT.out.k16 HKU.out.k16 (by have := HKT.out.few; omega) (by have := HKU.out.few; omega)
      rw [hdu] at this; exact this
    have kt2 : ∀ p : NewW W12, Calls Tryd.prog 16 #[v2, v3] p.v fun e w' => e = .returned (.bool du) ∧ New p.v w' := fun p => by
      have := keepTrie_any (HP2.out.after (hM.trans p.h)) (HP3.out.after (hM.trans p.h)) HKT.out.k16 HKU.out.k16 (by have := HKT.out.few; omega) (by have := HKU.out.few; omega)
      rw [hdu] at this; exact this
    have kp2 : ∀ p : NewW W12, Calls Tryd.prog 17 #[v7, v1] p.v fun e w' => e = .returned (.bool true) ∧ New p.v w' := fun p => by
      have := keepPairs_any (HQ7.out.after (hN5.trans p.h)) (HP1.out.after (hM.trans p.h)) (by omega) (by omega)
      rw [decide_eq_true rfl] at this; exact this
    have kt3 : ∀ p : NewW W12, Calls Tryd.prog 16 #[v8, v2] p.v fun e w' => e = .returned (.bool true) ∧ New p.v w' := fun p => by
      have := keepTrie_any (HQ8.out.after (hN5.trans p.h)) (HP2.out.after (hM.trans p.h)) HKT.out.k16 HKT.out.k16 (by have := HKT.out.few; omega) (by have := HKT.out.few; omega)
      rw [decide_eq_true rfl] at this; exact this
    have kw := fun p : NewW W12 => hwk (hM.trans p.h)
    have r0 := NewW.cell (hR8.has 0 (v := .slice a1 n1 d1) rfl)
    have r2 := NewW.cell (hR8.has 2 (v := .bool mb) rfl)
    have s0 := NewW.cell (hR11.has 0 (v := .slice a3 n3 d3) rfl)
    have s1 := NewW.cell (hR11.has 1 (v := .bool false) rfl)
    have hne := NewW.ne W12
    clear hdu hL9 hL1 hR8 hL12 hL3 hL15 hR11 hN5 hwk
    refine region_new W12 (New.refl W12) (by kernel_rfl) (by kernel_rfl) ?_
    repeat (go_big_quiet_step (first | (go_at_call 16; exact Calls.neww (kt1 _))))
    repeat (go_big_quiet_step (first | (go_at_call 17; exact Calls.neww (kp1 _))))
    repeat (go_big_quiet_step (first | (go_at_call 18; exact Calls.neww (kx _))))
    repeat (go_big_quiet_step (first | (go_at_call 19; exact Calls.neww (kg _))))
    repeat (go_big_quiet_step (first | (go_at_call 20; exact Calls.neww (ks _))))
    repeat (go_big_quiet_step (first | (go_at_call 16; exact Calls.neww (kt2 _))))
    repeat (go_big_quiet_step (first | (go_at_call 17; exact Calls.neww (kp2 _))))
    repeat (go_big_quiet_step (first | (go_at_call 16; exact Calls.neww (kt3 _))))
    repeat (go_big_quiet_step (first | (go_at_call 10; exact Calls.neww (kw _))))
    refine wpQuiet_nil ?_
    rintro WB ⟨⟨_, kB⟩, rfl⟩
    go_wp2_with fail
    go_ret
    exact ⟨rfl, hM.trans kB⟩
  · have y0 := HR11.out.has 0 (v := .slice a3 n3 d3) rfl
    have bt := r_build HL3.out HRO.out.1 HRO.out.2.1
    rw [HRO.out.2.2.2.1 (by intro hn; have := HOK.out; rw [hn] at this; cases this)] at bt
    obtain ⟨mb2, hmb2⟩ : ∃ b, mayB (rL t) = b := ⟨_, rfl⟩
    rw [hmb2] at bt
    clear hmb2
    go_wp2_with fail
    refine Calls.mono bt ?_
    rintro _ W13 ⟨a4, n4, d4, a5, n5, d5, rfl, _, L5, N13⟩
    clear bt y0 y1
    have hfd := fun W => field_paths a4 n4 d4 a5 n5 d5 mb2 W
    have L5' : Hid (Ls W13 1 (.slice a5 n5 d5) ((rP t).map txC)) := L5
    go_wp2_with fail
    clear hfd
    have hL9 := HL9'.out.after N13
    have hL1 := HL1'.out.after N13
    have hR8 := HR8'.out.after N13
    have hL12 := HL12.out.after N13
    have hL3 := HL3.out.after N13
    have hL15 := HL15.out.after N13
    have hR11 := HR11.out.after N13
    have hN5 := N12w.trans N13
    have hM := M12.trans N13
    have kt1 : ∀ p : NewW W13, Calls Tryd.prog 16 #[v9, .slice a1 n1 d1] p.v fun e w' => e = .returned (.bool true) ∧ New p.v w' := fun p => by
      have := keepTrie_any (hL9.after p.h) (hL1.after p.h) (bX_ok l).1 (bX_ok l).1 (by have := (bX_ok l).2; omega) (by have := (bX_ok l).2; omega)
      rw [decide_eq_true rfl] at this; exact this
    have kp1 : ∀ p : NewW W13, Calls Tryd.prog 17 #[v12, .slice a3 n3 d3] p.v fun e w' => e = .returned (.bool true) ∧ New p.v w' := fun p => by
      have := keepPairs_any (hL12.after p.h) (hL3.after p.h) (by have := HRO.out.1; omega) (by have := HRO.out.1; omega)
      rw [decide_eq_true rfl] at this; exact this
    have kx : ∀ p : NewW W13, Calls Tryd.prog 18 #[v15, .slice a5 n5 d5] p.v fun e w' => e = .returned (.bool true) ∧ New p.v w' := fun p => by
      have := keepTexts_any (hL15.after p.h) (L5'.out.after p.h) (by have := HRO.out.2.2.1; omega) (by have := HRO.out.2.2.1; omega)
      rw [decide_eq_true rfl] at this; exact this
    have kg : ∀ p : NewW W13, Calls Tryd.prog 19 #[v8] p.v fun e w' => e = .returned (.bool true) ∧ New p.v w' := fun p => by
      have := good_trie (HQ8.out.after (hN5.trans p.h)) HKT.out (HT.out.kept (hM.trans p.h))
      rw [HOK.out] at this; exact this
    obtain ⟨du, hdu⟩ : ∃ b, decide (t = u) = b := ⟨_, rfl⟩
    have ks : ∀ p : NewW W13, Calls Tryd.prog 20 #[v8, v3] p.v fun e w' => e = .returned (.bool du) ∧ New p.v w' := fun p => by
      have := same_any (HQ8.out.after (hN5.trans p.h)) (HP3.out.after (hM.trans p.h)) HKT.out.k16 HKU.out.k16 (by have := HKT.out.few; omega) (by have := HKU.out.few; omega)
      rw [hdu] at this; exact this
    have kt2 : ∀ p : NewW W13, Calls Tryd.prog 16 #[v2, v3] p.v fun e w' => e = .returned (.bool du) ∧ New p.v w' := fun p => by
      have := keepTrie_any (HP2.out.after (hM.trans p.h)) (HP3.out.after (hM.trans p.h)) HKT.out.k16 HKU.out.k16 (by have := HKT.out.few; omega) (by have := HKU.out.few; omega)
      rw [hdu] at this; exact this
    have kp2 : ∀ p : NewW W13, Calls Tryd.prog 17 #[v7, v1] p.v fun e w' => e = .returned (.bool true) ∧ New p.v w' := fun p => by
      have := keepPairs_any (HQ7.out.after (hN5.trans p.h)) (HP1.out.after (hM.trans p.h)) (by omega) (by omega)
      rw [decide_eq_true rfl] at this; exact this
    have kt3 : ∀ p : NewW W13, Calls Tryd.prog 16 #[v8, v2] p.v fun e w' => e = .returned (.bool true) ∧ New p.v w' := fun p => by
      have := keepTrie_any (HQ8.out.after (hN5.trans p.h)) (HP2.out.after (hM.trans p.h)) HKT.out.k16 HKT.out.k16 (by have := HKT.out.few; omega) (by have := HKT.out.few; omega)
      rw [decide_eq_true rfl] at this; exact this
    have kw := fun p : NewW W13 => hwk (hM.trans p.h)
    have r0 := NewW.cell (hR8.has 0 (v := .slice a1 n1 d1) rfl)
    have r2 := NewW.cell (hR8.has 2 (v := .bool mb) rfl)
    have s0 := NewW.cell (hR11.has 0 (v := .slice a3 n3 d3) rfl)
    have s1 := NewW.cell (hR11.has 1 (v := .bool true) rfl)
    have hne := NewW.ne W13
    clear hdu hL9 hL1 hR8 hL12 hL3 hL15 hR11 hN5 hwk
    refine region_new W13 (New.refl W13) (by kernel_rfl) (by kernel_rfl) ?_
    repeat (go_big_quiet_step (first | (go_at_call 16; exact Calls.neww (kt1 _))))
    repeat (go_big_quiet_step (first | (go_at_call 17; exact Calls.neww (kp1 _))))
    repeat (go_big_quiet_step (first | (go_at_call 18; exact Calls.neww (kx _))))
    repeat (go_big_quiet_step (first | (go_at_call 19; exact Calls.neww (kg _))))
    repeat (go_big_quiet_step (first | (go_at_call 20; exact Calls.neww (ks _))))
    repeat (go_big_quiet_step (first | (go_at_call 16; exact Calls.neww (kt2 _))))
    repeat (go_big_quiet_step (first | (go_at_call 17; exact Calls.neww (kp2 _))))
    repeat (go_big_quiet_step (first | (go_at_call 16; exact Calls.neww (kt3 _))))
    repeat (go_big_quiet_step (first | (go_at_call 10; exact Calls.neww (kw _))))
    refine wpQuiet_nil ?_
    rintro WB ⟨⟨_, kB⟩, rfl⟩
    go_wp2_with fail
    go_ret
    exact ⟨rfl, hM.trans kB⟩
end Go.Proofs.YtelaiblhnhbgiaaDoor
namespace Go.Proofs.YtelaiblhnhbgiaaDoor.trieTells
open Go.ChangeShapes Go.WideShapes Go.ChangeAt Go.RowKit
set_option linter.unusedVariables false

set_option maxRecDepth 100000 in
theorem contract (H : Type) (enc : TypeId × Value → H) (W : World) (base : Nat) (args : Array Value) (ds gs : List (DataW H)) (before : List MemPlace)
    (hval : ∀ (j : Nat) t v, Tryd.f3.params[j]? = some t → args[j]? = some v → Value.okWide Tryd.prog W .any base t v)
    (hW : DataW.Whole enc Tryd.prog Tryd.f3.params.toList Rows.trieTellsSpec.vars false W args.toList ds gs before) (hL : laidMetH Tryd.prog Rows.trieTellsRow.laid W) :
    Calls Tryd.prog 3 args W fun e W' => ∃ v, e = .returned v ∧ Rows.trieTellsSpec.post enc Tryd.prog Tryd.f3 false true false false W args v W' := by
  have hW' := hW
  obtain ⟨p, q, hA0, hV, rfl, hfz, hnd⟩ := hW
  have hA : DataW.TrodAll enc Tryd.prog W 0 (fun _ => true) true Tryd.f3.params.toList args.toList ds p := hA0
  rw [Tryd.params3] at hA hval
  obtain ⟨v0, vs0, d0, ds0, p0, q0, hargs, rfl, rfl, h0, r0⟩ := trodAll_cons hA
  obtain ⟨v1, vs1, d1, ds1, p1, q1, rfl, rfl, rfl, h1, r1⟩ := trodAll_cons r0
  obtain ⟨v2, vs2, d2, ds2, p2, q2, rfl, rfl, rfl, h2, r2⟩ := trodAll_cons r1
  obtain ⟨rfl, rfl, rfl⟩ := trodAll_nil r2
  obtain rfl : args = #[v0, v1, v2] := by cases args; simp_all
  obtain ⟨rfl, rfl⟩ := trodVars_none hV
  have k0 := h0
  have lt0 : ∀ x ∈ p0, x.block < W.heap.size := by obtain ⟨m, hm⟩ := k0; exact DataW.trod_lt m _ _ _ hm
  have k1 := h1
  have lt1 : ∀ x ∈ p1, x.block < W.heap.size := by obtain ⟨m, hm⟩ := k1; exact DataW.trod_lt m _ _ _ hm
  have k2 := h2
  have lt2 : ∀ x ∈ p2, x.block < W.heap.size := by obtain ⟨m, hm⟩ := k2; exact DataW.trod_lt m _ _ _ hm
  obtain ⟨l0, w0, n0⟩ := ask_prs (hval 0 22 v0 rfl rfl) h0
  obtain ⟨l1, w1, n1, y1⟩ := ask_nds (hval 1 24 v1 rfl rfl) h1
  obtain ⟨l2, w2, n2, y2⟩ := ask_nds (hval 2 24 v2 rfl rfl) h2
  clear hA0
  refine (show Calls Tryd.prog 3 _ W fun e w' => e = .returned (.bool true) ∧ New W w' from tells_any w0 w1 w2 y1 y2 n0 n1 n2 (tab_of hL)).mono fun e W' ⟨he, bel⟩ => ?_
  subst he
  exact ⟨_, rfl, _, _, _, [], _, [], hW', trodAll_mk1 (shut_bool Tryd.underlying4 _), (trodAll_cons_mk (Below.trod laidOut (by kernel_rfl) (of_decide_eq_true (by kernel_rfl)) k0 bel lt0) (trodAll_cons_mk (Below.trod laidOut (by kernel_rfl) (of_decide_eq_true (by kernel_rfl)) k1 bel lt1) (trodAll_cons_mk (Below.trod laidOut (by kernel_rfl) (of_decide_eq_true (by kernel_rfl)) k2 bel lt2) trodAll_mk0))), rfl, bel.frame _, fun h => by cases h⟩

theorem laid_met (os : Os) : laidMet Tryd.prog Rows.trieTellsRow.laid ((laidWorld Tryd.prog os).forCall (fun _ _ => 0) ⟨#[], #[.slice none 0 0, .slice none 0 0, .slice none 0 0], []⟩).memory :=
  laidMet_of_run' 8 (by kernel_rfl) (by kernel_rfl)
theorem reads (os : Os) {H : Type} (enc : TypeId × Value → H) : ∃ places, DataW.whole enc Tryd.prog ((laidWorld Tryd.prog os).forCall (fun _ _ => 0) ⟨#[], #[.slice none 0 0, .slice none 0 0, .slice none 0 0], []⟩).memory Tryd.f3.params.toList Rows.trieTellsSpec.vars false (#[.slice none 0 0, .slice none 0 0, .slice none 0 0] : Array Value).toList 8 = some ([.nil, .nil, .nil], [], places) :=
  ⟨[], by kernel_rfl⟩

set_option maxRecDepth 100000 in
theorem lifted (os : Os) (started : os.Started) (H : Type) (enc : TypeId × Value → H) (F : Stop.Interp) :
    ReturnsInHanded {} Tryd.checked os 3 .any ((OpenSpec.ofChange Rows.trieTellsSpec).preRow enc Tryd.prog Tryd.f3 Rows.trieTellsRow.domain false Rows.trieTellsRow.laid) (((OpenSpec.ofChange Rows.trieTellsSpec).at F).post enc Tryd.prog Tryd.f3 false true false false) := by
  obtain ⟨places, hx⟩ := reads os enc
  refine returnsInHanded_of_row (C := Tryd.checked) (s := OpenSpec.ofChange Rows.trieTellsSpec) ownK started (by kernel_rfl) Tryd.func3
    (witness_row_at (enc := enc) (C := Tryd.checked) false (laidWorld Tryd.prog os) #[.slice none 0 0, .slice none 0 0, .slice none 0 0] rfl (by kernel_rfl) (by kernel_rfl) (by kernel_rfl)
      (OpenSpec.preRow_of_cond 8 hx (by kernel_rfl) (fun k hk => by cases hk) (by kernel_rfl) (laid_met os))) ?_
  intro W base args ds gs before hval hW _ _ _ hL _ _
  exact contract H enc W base args ds gs before hval hW hL

theorem said : Rows.TrieTellsSaid :=
  OpenClaim.holds_of_cond 3 Tryd.f3 rfl rfl rfl rfl rfl rfl rfl ⟨rfl, rfl, rfl, rfl, rfl⟩ rfl rfl rfl rfl rfl (by kernel_rfl) Tryd.func3 (by kernel_rfl)
    (of_decide_eq_true (by kernel_rfl)) (by unfold Func.isWrapper; first | (rw [if_pos (by decide +kernel)]; kernel_rfl) | (rw [if_neg (by decide +kernel)]; exact ⟨rfl, rfl⟩))
    (fun os started H enc _ F => by rw [OpenClaim.pre_eq_preRow]; exact lifted os started H enc F)

theorem plain (f : FuncId) (fn : Func) (hf : Tryd.pinned.checked.prog.funcNamed Rows.trieTellsRow.func = some f) (hfn : Tryd.pinned.checked.prog.funcs[f]? = some fn) :
    false = Tryd.pinned.checked.prog.looks [] ∧ ∀ (j : Nat) t, fn.params[j]? = some t → Tryd.pinned.checked.prog.wantsStandIn t = false := by
  obtain rfl : f = 3 := Option.some.inj ((show Tryd.prog.funcNamed Rows.trieTellsRow.func = some 3 by kernel_rfl).symm.trans hf) |>.symm
  obtain rfl : fn = Tryd.f3 := (Option.some.inj (Tryd.func3.symm.trans hfn)).symm
  refine ⟨by kernel_rfl, fun j t ht => ?_⟩
  rw [Tryd.params3] at ht
  have hm := Array.mem_of_getElem? ht
  simp at hm
  rcases hm with rfl | rfl
  · exact (show Tryd.prog.wantsStandIn 22 = false by kernel_rfl)
  · exact (show Tryd.prog.wantsStandIn 24 = false by kernel_rfl)
end Go.Proofs.YtelaiblhnhbgiaaDoor.trieTells
namespace Go.Proofs.YtelaiblhnhbgiaaDoor
theorem trieTells_holds : Rows.TrieTellsCardSaid :=
  Claim7.holds_tied_plain_at .later [] _ _ _ _ trieTells.said (fun _ h => by cases h) (by kernel_rfl) (fun _ h => by cases h) trieTells_row_tie rfl ⟨rfl, rfl⟩ (by kernel_rfl) rfl trieTells.plain (by kernel_rfl)
#print axioms trieTells_holds
end Go.Proofs.YtelaiblhnhbgiaaDoor
