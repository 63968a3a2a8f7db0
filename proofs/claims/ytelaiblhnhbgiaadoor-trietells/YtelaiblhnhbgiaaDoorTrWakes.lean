/-
  The statements' common run: three pairs, two that may not be.
-/
import Derived.Test.YtelaiblhnhbgiaaDoorTrPairs
namespace Go.Proofs.YtelaiblhnhbgiaaDoor
open Go.RowKit
set_option maxRecDepth 20000

def wl : List Pr := [([97], [49]), ([97, 98], [50]), ([98], [])]
def wt : List Nd := [extN [6] 1, brN false [] ((no16.set 1 2).set 2 4), brN true [49] (no16.set 6 3), leafN [2] [50], leafN [] []]
def wp5 : List Bt := [[], [6], [6, 1], [6, 1, 6], [6, 2]]
theorem wl_may : mayB wl = true := by decide +kernel
theorem wl_build : buildN wl = wt := by decide +kernel
theorem wl_paths : (trieL wl).map (·.2) = wp5 := by decide +kernel
theorem wt_read : readF wt = some (wl, wp5) := readF_iff.2 ⟨wl_may, wl_build.symm, wl_paths.symm⟩
theorem nil_read : readF [] = some ([], []) := by decide +kernel
theorem tail_read : readF (wt.drop 1) = none := by decide +kernel
theorem bad_may : mayB [([98], []), ([97], [])] = false := by decide +kernel

theorem rows_ls {w : World} {g : Nat} {t : TypeId} {l : List Pr} {cs : Array Value} (R : Row w g cs t) (h : cs = (l.map prC).flatten.toArray) (hl : l.length ≤ 10000) : Ls w 2 (.slice (some ⟨g, 0, none⟩) l.length l.length) (l.map prC) := by
  subst h
  have he : ∀ e ∈ l.map prC, e.length = 2 := fun e he => by obtain ⟨p, _, rfl⟩ := List.mem_map.1 he; rfl
  have := Pl.make (F := fun _ => True) (c := l.length) he R (by rw [List.length_map]; exact Nat.le_refl _) (by unfold maxLen; omega) (by rw [List.size_toArray, flat_length he, List.length_map]) (by
    rw [List.take_of_length_le]
    rw [flat_length he]; exact Nat.le_refl _) trivial
  rw [List.length_map] at this
  exact this.ls
theorem wt_ok : TOk wt := ⟨by decide, by decide, by decide⟩
theorem tail_ok : TOk (wt.drop 1) := ⟨by decide, by decide, by decide⟩
theorem Ls.rest {w : World} {g o c k : Nat} {es : List (List Value)} (h : Ls w k (.slice (some ⟨g, o, none⟩) es.length c) es) (h1 : 1 ≤ es.length) : Ls w k (.slice (some ⟨g, o + k, none⟩) (es.length - 1) (c - 1)) (es.drop 1) := by
  obtain ⟨a, c', e, hc, hh⟩ := h
  cases e
  obtain ⟨g', o', e', hg, hr⟩ := hh (by intro e; rw [e] at h1; simp at h1)
  cases e'
  refine ⟨_, _, by rw [List.length_drop], by rw [List.length_drop]; omega, fun _ => ⟨g, o + k, rfl, hg, fun i hi j u hu => ?_⟩⟩
  rw [List.length_drop] at hi
  rw [List.getElem_drop] at hu
  have := hr (1 + i) (by omega) j u hu
  rw [Nat.add_mul, Nat.one_mul, ← Nat.add_assoc] at this
  exact this

def wb : List Pr := [([98], []), ([97], [])]
theorem wb_may : mayB wb = false := by decide +kernel
set_option maxHeartbeats 8000000 in
theorem wakes_any (w : World) (hT : Tab w) :
    Calls Tryd.prog 10 #[] w fun e w' => e = .returned (.bool true) ∧ New w w' := by
  go_enter Tryd.func10, Tryd.ntmps10
  go_wp2_with fail
  have R1 := Row.new w ((wl.map prC).flatten.toArray) 52
  have N1 : New w (w.alloc (.cells ((wl.map prC).flatten.toArray) 52)) := (New.refl w).alloc _
  have P1 := rows_ls (l := wl) R1 rfl (by decide)
  have hb := build_yes P1 (by decide) (by decide) wl_may
  rw [wl_build] at hb
  clear R1 P1
  refine Calls.mono hb ?_
  rintro _ W2 ⟨v2, rfl, Q2, N2⟩
  obtain ⟨gt, ct, e, _, hgt, hct⟩ := Q2.full (by decide)
  have hM : New w W2 := N1.trans N2
  have HQt : Hid (Pl W2 (Fresh (w.alloc (.cells ((wl.map prC).flatten.toArray) 52))) 49 20 v2 (wt.map ndC)) := Q2
  generalize (w.alloc (.cells ((wl.map prC).flatten.toArray) 52)) = w1 at *
  clear hb N1 N2 Q2
  have hl5 : (wt.map ndC).length = 5 := rfl
  rw [hl5] at e hct
  subst e
  clear hl5
  go_wp2_with fail
  have R3 := Row.new W2 ((wb.map prC).flatten.toArray) 52
  have N3 : New W2 (W2.alloc (.cells ((wb.map prC).flatten.toArray) 52)) := (New.refl W2).alloc _
  have P3 := rows_ls (l := wb) R3 rfl (by decide)
  have hb := build_no P3 (by decide) (by decide) wb_may
  clear R3 P3
  refine Calls.mono hb ?_
  rintro _ W4 ⟨rfl, N4⟩
  have hM4 : New W2 W4 := N3.trans N4
  have HT4 : Hid (Tab W4) := hT.kept (hM.trans hM4)
  have HQ4 : Hid (Pl W4 (Fresh w1) 49 20 (.slice (some ⟨gt, 0, none⟩) 5 ct) (wt.map ndC)) := HQt.out.after hM4
  have hgt4 : gt < W4.heap.size := Nat.lt_of_lt_of_le hgt hM4.size
  have hN4 : New w W4 := hM.trans hM4
  generalize W2.alloc (.cells ((wb.map prC).flatten.toArray) 52) = w3 at *
  clear hb N3 N4 HQt hM hM4 hgt
  go_wp2_with fail
  have hp := paths_any HQ4.out.ls wt_ok HT4.out
  refine Calls.mono hp ?_
  rintro _ W5 ⟨N5, ⟨hn, _⟩ | ⟨s, v5, hs, rfl, Q5⟩⟩
  · rw [wt_read] at hn; cases hn
  rw [wt_read] at hs
  obtain rfl := Option.some.inj hs
  obtain ⟨gp, cp, e, _, hgp, hcp⟩ := Q5.full (by decide)
  have HP5 : Hid (Pl W5 (Fresh W4) 9 1 v5 (wp5.map txC)) := Q5
  have hl5 : ((wl, wp5).2.map txC).length = 5 := rfl
  rw [hl5] at e hcp
  subst e
  clear hl5 hp hs Q5
  go_wp2_with fail
  have hp := pairs_any (HQ4.out.after N5).ls wt_ok (HT4.out.kept N5)
  refine Calls.mono hp ?_
  rintro _ W6 ⟨N6, ⟨hn, _⟩ | ⟨s, v6, hs, rfl, Q6⟩⟩
  · rw [wt_read] at hn; cases hn
  rw [wt_read] at hs
  obtain rfl := Option.some.inj hs
  obtain ⟨a6, c6, e, hc6⟩ := Q6.form
  have hl3 : ((wl, wp5).1.map prC).length = 3 := rfl
  rw [hl3] at e hc6
  subst e
  have HQ6 : Hid (Pl W6 (Fresh w1) 49 20 (.slice (some ⟨gt, 0, none⟩) 5 ct) (wt.map ndC)) := (HQ4.out.after N5).after N6
  have HP6 : Hid (Pl W6 (Fresh W4) 9 1 (.slice (some ⟨gp, 0, none⟩) 5 cp) (wp5.map txC)) := HP5.out.after N6
  have HT6 : Hid (Tab W6) := HT4.out.kept (N5.trans N6)
  have hN6 : New w W6 := hN4.trans (N5.trans N6)
  clear hl3 hp hs Q6 HQ4 HP5 HT4 N5 N6 hN4 hgt4 hgp
  have c0 : W6.cell? ⟨gt, 0, none⟩ = some (.int .i64 2) := (HQ6.out.cellAt (i := 0) (j := 0) (e := ndC (wt.getD 0 noNd)) rfl rfl).1
  have c1 : W6.cell? ⟨gt, 1, none⟩ = some (.string ⟨#[6]⟩) := (HQ6.out.cellAt (i := 0) (j := 1) (e := ndC (wt.getD 0 noNd)) rfl rfl).1
  have c2 : W6.cell? ⟨gt, 4, none⟩ = some (.int .i64 1) := (HQ6.out.cellAt (i := 0) (j := 4) (e := ndC (wt.getD 0 noNd)) rfl rfl).1
  have c3 : W6.cell? ⟨gt, 20, none⟩ = some (.int .i64 3) := (HQ6.out.cellAt (i := 1) (j := 0) (e := ndC (wt.getD 1 noNd)) rfl rfl).1
  have c4 : W6.cell? ⟨gt, 25, none⟩ = some (.int .i64 2) := (HQ6.out.cellAt (i := 1) (j := 5) (e := ndC (wt.getD 1 noNd)) rfl rfl).1
  have c5 : W6.cell? ⟨gt, 26, none⟩ = some (.int .i64 4) := (HQ6.out.cellAt (i := 1) (j := 6) (e := ndC (wt.getD 1 noNd)) rfl rfl).1
  have c6 : W6.cell? ⟨gt, 40, none⟩ = some (.int .i64 3) := (HQ6.out.cellAt (i := 2) (j := 0) (e := ndC (wt.getD 2 noNd)) rfl rfl).1
  have c7 : W6.cell? ⟨gt, 42, none⟩ = some (.bool true) := (HQ6.out.cellAt (i := 2) (j := 2) (e := ndC (wt.getD 2 noNd)) rfl rfl).1
  have c8 : W6.cell? ⟨gt, 43, none⟩ = some (.string ⟨#[49]⟩) := (HQ6.out.cellAt (i := 2) (j := 3) (e := ndC (wt.getD 2 noNd)) rfl rfl).1
  have c9 : W6.cell? ⟨gt, 50, none⟩ = some (.int .i64 3) := (HQ6.out.cellAt (i := 2) (j := 10) (e := ndC (wt.getD 2 noNd)) rfl rfl).1
  have c10 : W6.cell? ⟨gt, 61, none⟩ = some (.string ⟨#[2]⟩) := (HQ6.out.cellAt (i := 3) (j := 1) (e := ndC (wt.getD 3 noNd)) rfl rfl).1
  have c11 : W6.cell? ⟨gt, 80, none⟩ = some (.int .i64 1) := (HQ6.out.cellAt (i := 4) (j := 0) (e := ndC (wt.getD 4 noNd)) rfl rfl).1
  have c12 : W6.cell? ⟨gt, 81, none⟩ = some (.string ⟨#[]⟩) := (HQ6.out.cellAt (i := 4) (j := 1) (e := ndC (wt.getD 4 noNd)) rfl rfl).1
  have cp3 : W6.cell? ⟨gp, 3, none⟩ = some (.string ⟨#[6, 1, 6]⟩) := (HP6.out.cellAt (i := 3) (j := 0) (e := txC (wp5.getD 3 [])) rfl rfl).1
  go_wp2_with fail
  have hg := good_trie HQ6.out.ls wt_ok HT6.out
  rw [wt_read] at hg
  refine Calls.mono hg ?_
  rintro _ W7 ⟨rfl, N7⟩
  have hg2 := fun {W : World} (n : New W7 W) => good_trie (t := []) (v := .slice none 0 0) (w := W) ⟨none, 0, rfl, Nat.le_refl _, fun h => absurd rfl h⟩ ⟨fun x hx => by simp at hx, by simp, fun x hx => by simp at hx⟩ ((HT6.out.kept N7).kept n)
  rw [nil_read] at hg2
  have hg3 := fun {W : World} (n : New W7 W) => good_trie (t := wt.drop 1) (Ls.rest (es := wt.map ndC) (HQ6.out.after (N7.trans n)).ls (by decide)) tail_ok ((HT6.out.kept N7).kept n)
  rw [tail_read] at hg3
  clear hg c0 c1 c2 c3 c4 c5 c6 c7 c8 c9 c10 c11 c12 cp3
  go_wp2_with fail
  refine Calls.mono (hg2 (New.refl _)) ?_
  rintro _ W8 ⟨rfl, N8⟩
  clear hg2
  go_wp2_with fail
  refine Calls.mono (hg3 N8) ?_
  rintro _ W9 ⟨rfl, N9⟩
  clear hg3
  go_wp2_with fail
  go_ret
  exact ⟨rfl, hN6.trans ((N7.trans N8).trans N9)⟩

end Go.Proofs.YtelaiblhnhbgiaaDoor
