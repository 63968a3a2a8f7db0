/-
  TrieRefused's walk: whatever pairs and two bytes, the call returns true, where the table of upper halves lies as its initialiser lays it.
-/
import Derived.Test.YtelaiblhnhbgiaaDoorRefM
import Derived.Test.YtelaiblhnhbgiaaDoorRefG
import Derived.Test.YtelaiblhnhbgiaaDoorRefH
import Derived.Test.YtelaiblhnhbgiaaDoorBackA
namespace Go.Proofs.YtelaiblhnhbgiaaDoor
open Go.RowKit
set_option maxRecDepth 20000

theorem mapC_len (l : List Pr) : ∀ e ∈ l.map prC, e.length = 2 := fun e he => by obtain ⟨p, _, rfl⟩ := List.mem_map.1 he; rfl
theorem mapC_one (l : List Pr) : ∀ e ∈ l.map prC, ∀ u ∈ e, u.oneCell' = true := fun e he => by obtain ⟨p, _, rfl⟩ := List.mem_map.1 he; exact prC_one p
theorem rem_nat (x : UInt8) (r : Nat) (hr : 1 ≤ r) : ∃ a : Nat, a < r ∧ ((x.toNat : Int)).tmod (r : Int) = (a : Int) := ⟨x.toNat % r, Nat.mod_lt _ (by omega), (Int.ofNat_tmod _ _).symm⟩

theorem wrap_i64_of {n : Int} (h : -9223372036854775808 ≤ n) (h2 : n ≤ 9223372036854775807) : IntKind.i64.wrap n = n := IntWalk.i64_in n ⟨h, h2⟩

theorem swap_short {l : List Pr} {A : Nat} {p q : Pr} (h : ∀ p ∈ l, p.1.length ≤ 4000 ∧ p.2.length ≤ 4000) (hp : l[A]? = some p) (hq : l[A + 1]? = some q) : ∀ x ∈ (l.set A q).set (A + 1) p, x.1.length ≤ 4000 ∧ x.2.length ≤ 4000 := fun x hx => by
  rcases List.mem_or_eq_of_mem_set hx with hx | rfl
  · rcases List.mem_or_eq_of_mem_set hx with hx | rfl
    · exact h x hx
    · exact h _ (List.mem_of_getElem? hq)
  · exact h _ (List.mem_of_getElem? hp)

theorem more_short {l : List Pr} {e : Pr} {r : Nat} (h : ∀ p ∈ l, p.1.length ≤ 4000 ∧ p.2.length ≤ 4000) (he : l[r]? = some e) : ∀ x ∈ l ++ [e], x.1.length ≤ 4000 ∧ x.2.length ≤ 4000 := fun x hx => by
  rcases List.mem_append.1 hx with hx | hx
  · exact h x hx
  · obtain rfl := List.mem_singleton.1 hx
    exact h _ (List.mem_of_getElem? he)
def long17 : Bt := [48, 49, 50, 51, 52, 53, 54, 55, 56, 57, 97, 98, 99, 100, 101, 102, 103]
theorem put_short {l : List Pr} {A : Nat} {p : Pr} (h : ∀ p ∈ l, p.1.length ≤ 4000 ∧ p.2.length ≤ 4000) (hp : l[A]? = some p) : ∀ x ∈ l.set A (p.1, long17), x.1.length ≤ 4000 ∧ x.2.length ≤ 4000 := fun x hx => by
  rcases List.mem_or_eq_of_mem_set hx with hx | rfl
  · exact h x hx
  · exact ⟨(h _ (List.mem_of_getElem? hp)).1, (show long17.length ≤ 4000 by decide)⟩

theorem two_nodes {l : List Pr} (h : mayB l = true) (h2 : 2 ≤ l.length) : ∃ n, (buildN l).length = n + 2 := by
  have hne : l ≠ [] := fun e => by subst e; simp at h2
  have h3 : l.length ≤ (trieL l).length := by
    have := List.length_filterMap_le valOf (trieL l)
    rwa [(trie_blk h hne).vals, List.length_map] at this
  have e : (buildN l).length = (trieL l).length := by unfold buildN; rw [List.length_map]
  exact ⟨(trieL l).length - 2, by omega⟩
theorem mapN_len {t : List Nd} (h : ∀ x ∈ t, x.kids.length = 16) : ∀ e ∈ t.map ndC, e.length = 20 := fun e he => by obtain ⟨p, hp, rfl⟩ := List.mem_map.1 he; exact ndC_len (h p hp)
theorem mapN_one (t : List Nd) : ∀ e ∈ t.map ndC, ∀ u ∈ e, u.oneCell' = true := fun e he => by obtain ⟨p, _, rfl⟩ := List.mem_map.1 he; exact ndC_one p
theorem tok_take {t : List Nd} (h : TOk t) (n : Nat) : TOk (t.take n) := ⟨fun x hx => h.k16 x (List.mem_of_mem_take hx), by rw [List.length_take]; have := h.few; omega, fun x hx => h.len x (List.mem_of_mem_take hx)⟩
theorem tok_flip {t : List Nd} (h : TOk t) {k : Nat} {m : Nd} (hm : t[k]? = some m) : TOk (t.set k (flipN m)) :=
  ⟨fun x hx => (List.mem_or_eq_of_mem_set hx).elim (h.k16 x) (fun e => e ▸ h.k16 m (List.mem_of_getElem? hm)), by rw [List.length_set]; exact h.few, fun x hx => (List.mem_or_eq_of_mem_set hx).elim (h.len x) (fun e => e ▸ h.len m (List.mem_of_getElem? hm))⟩
theorem take_pl {w : World} {F : Nat → Prop} {g n c k : Nat} {t : List Nd} (h : Pl w F 49 20 (.slice (some ⟨g, 0, none⟩) n c) (t.map ndC)) (hk : k ≤ t.length) : Pl w F 49 20 (.slice (some ⟨g, 0, none⟩) k c) ((t.take k).map ndC) := by
  rw [List.map_take]; exact h.take (by rw [List.length_map]; exact hk)

theorem good_no {w : World} {v : Value} {t : List Nd} (P : Ls w 20 v (t.map ndC)) (K : TOk t) (hT : Tab w) (hr : readF t = none) :
    Calls Tryd.prog 19 #[v] w fun e w' => e = .returned (.bool false) ∧ New w w' := by
  have := good_trie P K hT
  rw [hr] at this
  exact this

/-- The worlds in which two rows lie where they lay. -/
structure PairsW (g i j : Nat) (a b : List Value) where
  v : World
  h0 : v.rangeAt g i a
  h1 : v.rangeAt g j b
def HasP (g i j : Nat) (a b : List Value) (w : World) : Prop := ∃ q : PairsW g i j a b, w = q.v
theorem wpQuiet_load_in {P : Program} {ops : Array Oper} {Q : Act → Prop} {a : Act} {o : Oper} {rest : List Oper} {C : World → Prop} (hw : Region.wanted o (yielded ops a.tmps) = true) (ty : TypeId) (x : Operand) (ho : o.op = .load ty x)
    (g off : Nat) (hx : a.eval x = .pointer (some ⟨g, off, none⟩)) (cs : List Value) (hr : ∀ w, C w → w.rangeAt g off cs) (d : TypeDesc)
    (hu : P.underlying ty = some d) (hd : d.isRow = true) (hi : (P.info? ty).map (·.size) = some cs.length)
    (h : wpQuiet P ops C Q rest (a.put o.dst (.agg cs.toArray))) : wpQuiet P ops C Q (o :: rest) a :=
  wpQuiet_run hw _ (fun w k => exec_load ho g off hx cs (hr w k) d hu hd hi) h

set_option maxHeartbeats 4000000 in
theorem refused_any {w : World} {v : Value} {l : List Pr} {x y : UInt8} (P : Ls w 2 v (l.map prC)) (hl : l.length ≤ maxLen) (hT : Tab w) :
    Calls Tryd.prog 7 #[v, .agg #[.int .u8 (x.toNat : Int), .int .u8 (y.toNat : Int)]] w fun e w' => e = .returned (.bool true) ∧ New w w' := by
  unfold maxLen at hl
  have hlp := fun {w1 : World} (n : New w w1) => longPairs_any (P.after n) (by omega)
  have HT : Hid (Tab w) := hT
  obtain ⟨b1, hb1⟩ : ∃ b, longB lenP 3000 ([], []) l = b := ⟨_, rfl⟩
  rw [hb1] at hlp
  have HB1 : Hid (longB lenP 3000 ([], []) l = b1) := hb1
  have HP : Hid (Ls w 2 v (l.map prC)) := P
  clear hb1 P hT
  cases b1
  case true =>
    go_enter Tryd.func7, Tryd.ntmps7
    go_wp2_with (refine wpList_box_at (by rfl) 3 (by rfl) 55 _ (by rfl) _ (by rfl) ?_; intro W0 R0 N0)
    refine Calls.mono (hlp N0) ?_
    rintro _ W1 ⟨rfl, N1⟩
    have N1' := N0.trans N1
    have hw := wakes_any W1 (HT.out.kept N1')
    clear hlp
    go_wp2_with fail
    refine Calls.mono hw ?_
    rintro _ W2 ⟨rfl, N2⟩
    clear hw
    go_wp2_with fail
    go_ret
    exact ⟨rfl, N1'.trans N2⟩
  obtain ⟨hs1, hs2⟩ := prs_of HB1.out
  obtain ⟨mb, hmb⟩ : ∃ b, mayB l = b := ⟨_, rfl⟩
  have HMB : Hid (mayB l = mb) := hmb
  have hmay := fun {w1 : World} (n : New w w1) => refMay_any (HP.out.after n) (by omega) hs2
  rw [hmb] at hmay
  have HS : Hid (∀ p ∈ l, p.1.length ≤ 4000 ∧ p.2.length ≤ 4000) := hs2
  clear hmb hs2
  cases mb
  case false =>
    go_enter Tryd.func7, Tryd.ntmps7
    go_wp2_with (refine wpList_box_at (by rfl) 3 (by rfl) 55 _ (by rfl) _ (by rfl) ?_; intro W0 R0 N0)
    refine Calls.mono (hlp N0) ?_
    rintro _ W1 ⟨rfl, N1⟩
    have N1' := N0.trans N1
    have hm := hmay N1'
    clear hlp hmay N0 N1 R0
    go_wp2_with fail
    refine Calls.mono hm ?_
    rintro _ W2 ⟨rfl, N2⟩
    have N2' := N1'.trans N2
    have hw := wakes_any W2 (HT.out.kept N2')
    clear hm N1' N2
    go_wp2_with fail
    refine Calls.mono hw ?_
    rintro _ W3 ⟨rfl, N3⟩
    clear hw
    go_wp2_with fail
    go_ret
    exact ⟨rfl, N2'.trans N3⟩
  obtain ⟨av, c, rfl, hc, HA⟩ := HP.out.open ([], [])
  by_cases hl2 : l.length < 2
  · have hd2 : decide ((l.length : Int) < 2) = true := decide_eq_true (by omega)
    have HL2 : Hid (l.length < 2) := hl2
    clear hl2
    go_enter Tryd.func7, Tryd.ntmps7
    go_wp2_with (refine wpList_box_at (by rfl) 3 (by rfl) 55 _ (by rfl) _ (by rfl) ?_; intro W0 R0 N0)
    refine Calls.mono (hlp N0) ?_
    rintro _ W1 ⟨rfl, N1⟩
    have N1' := N0.trans N1
    have hm := hmay N1'
    clear hlp hmay N0 N1 R0
    go_wp2_with fail
    refine Calls.mono hm ?_
    rintro _ W2 ⟨rfl, N2⟩
    have N2' := N1'.trans N2
    have hw := wakes_any W2 (HT.out.kept N2')
    clear hm N1' N2
    go_wp2_with fail
    refine Calls.mono hw ?_
    rintro _ W3 ⟨rfl, N3⟩
    clear hw
    go_wp2_with fail
    go_ret
    exact ⟨rfl, N2'.trans N3⟩
  obtain ⟨r, hr⟩ : ∃ r, l.length = r + 1 := ⟨l.length - 1, by omega⟩
  have hr1 : 1 ≤ r := by omega
  have hr9 : r + 1 ≤ 10000 := by omega
  have HLR : Hid (l.length = r + 1) := hr
  obtain ⟨A, hAr, hrem⟩ := rem_nat x r hr1
  obtain ⟨g, o, rfl, hg, hra⟩ := HA.out (by omega)
  have HRA : Hid (∀ (W : World), New w W → ∀ i, i < l.length → W.rangeAt g (o + i * 2) (prC (l.getD i ([], [])))) := hra
  obtain ⟨p, hp⟩ : ∃ p, l[A]? = some p := ⟨l[A]'(by omega), List.getElem?_eq_getElem (by omega)⟩
  obtain ⟨q, hq⟩ : ∃ q, l[A + 1]? = some q := ⟨l[A + 1]'(by omega), List.getElem?_eq_getElem (by omega)⟩
  obtain ⟨e, he⟩ : ∃ e, l[r]? = some e := ⟨l[r]'(by omega), List.getElem?_eq_getElem (by omega)⟩
  have HPQE : Hid (l[A]? = some p ∧ l[A + 1]? = some q ∧ l[r]? = some e) := ⟨hp, hq, he⟩
  rw [hr] at hc hlp hmay ⊢
  have hr3 : r + 1 ≤ 3000 := by omega
  clear hp hq he hs1 hl2 hl HA hra hr
  have hd2 : decide (((r + 1 : Nat) : Int) < 2) = false := decide_eq_false (by omega)
  go_enter Tryd.func7, Tryd.ntmps7
  go_wp2_with (refine wpList_box_at (by rfl) 3 (by rfl) 55 _ (by rfl) _ (by rfl) ?_; intro W0 R0 N0)
  refine Calls.mono (hlp N0) ?_
  rintro _ W1 ⟨rfl, N1⟩
  have N1' := N0.trans N1
  have hm := hmay N1'
  have R1 := R0.after N1
  clear hlp hmay N0 N1 R0
  go_wp2_with fail
  refine Calls.mono hm ?_
  rintro _ W2 ⟨rfl, N2⟩
  have N2' := N1'.trans N2
  have R2 := R1.after N2
  have y0 := R2.has 0 (v := .int .u8 (x.toNat : Int)) rfl
  clear hm N1' N2 R1
  have hx8 : (x.toNat : Int) ≤ 255 := by have := x.toNat_lt; omega
  have NE4 : New W2 (W2.alloc (.cells #[] 52)) := (New.refl W2).alloc _
  obtain ⟨v4, W4, hr4, Q4, N4, G4⟩ := run_copy_ls (w := W2) (w1 := W2.alloc (.cells #[] 52)) 22 52 22 2 _ _ Tryd.underlying22 info52 rfl (by decide) (by decide) (HP.out.after N2') (mapC_len l) (mapC_one l) (by rw [List.length_map, HLR.out]; omega) (by rw [List.length_map, HLR.out]; omega) (Row.new W2 #[] 52) NE4 (Nat.le_refl _)
  obtain ⟨g4, c4, rfl, hF4, hg4, hc4⟩ := Q4.full (by rw [List.length_map, HLR.out]; omega)
  rw [List.length_map, HLR.out] at hr4 hc4 Q4
  go_wp2_with (first
    | refine wpList_run (by rfl) _ _ (exec_buildNone (by rfl) (run_buildNone _ 22 52 _ _ _ Tryd.underlying22 info52)) ?_
    | refine wpList_appends (by rfl) _ _ 22 22 _ _ _ _ (by rfl) (by rfl) (by rfl) (by rfl) hr4 ?_)
  have NX : New W2 W4 := NE4.grown G4 fun b hb => by cases hb; exact Nat.le_refl _
  have RB := R2.after NX
  have e0 : (l.map prC)[A]? = some (prC p) := by rw [List.getElem?_map, HPQE.out.1]; rfl
  have e1 : (l.map prC)[A + 1]? = some (prC q) := by rw [List.getElem?_map, HPQE.out.2.1]; rfl
  have g0 : W4.rangeAt g4 (A * 2) (prC p) := by
    obtain ⟨hlt, hh⟩ := List.getElem?_eq_some_iff.1 e0
    rw [← hh]; exact Q4.range hlt
  have g1 : W4.rangeAt g4 ((A + 1) * 2) (prC q) := by
    obtain ⟨hlt, hh⟩ := List.getElem?_eq_some_iff.1 e1
    rw [← hh]; exact Q4.range hlt
  have hS : HasP g4 (A * 2) ((A + 1) * 2) (prC p) (prC q) W4.drew := ⟨⟨W4.drew, g0, g1⟩, rfl⟩
  have h4 : ∀ w, HasP g4 (A * 2) ((A + 1) * 2) (prC p) (prC q) w → w.rangeAt g4 (A * 2) (prC p) := fun w ⟨q, e⟩ => e ▸ q.h0
  have h4' : ∀ w, HasP g4 (A * 2) ((A + 1) * 2) (prC p) (prC q) w → w.rangeAt g4 ((A + 1) * 2) (prC q) := fun w ⟨q, e⟩ => e ▸ q.h1
  have hwr : IntKind.i64.wrap ((A : Int) + 1) = (A : Int) + 1 := wrap_i64_of (by omega) (by omega)
  refine wpH.region 15 (HasP g4 (A * 2) ((A + 1) * 2) (prC p) (prC q)) (by kernel_rfl) ?_
  simp only [List.size_toArray, List.length_cons, List.length_nil, Nat.reduceAdd]
  refine wpH.plain (i := 0) (v := .slice (some ⟨g4, 0, none⟩) (r + 1) c4) (some 40) (by rfl) (by kernel_rfl) (by intro _ _ _ h; exact h) (by rfl) (by rfl) hS (fun w => by go_simp) ?_
  simp only [Act.put, List.setIfInBounds_toArray, List.set_cons_zero, List.set_cons_succ]
  refine wpH.plain (i := 1) (v := .int .i64 (A : Int)) (some 41) (by rfl) (by kernel_rfl) (by intro _ _ _ h; exact h) (by rfl) (by rfl) hS (fun w => by go_simp) ?_
  simp only [Act.put, List.setIfInBounds_toArray, List.set_cons_zero, List.set_cons_succ]
  refine wpH.plain (i := 2) (v := .slice (some ⟨g4, 0, none⟩) (r + 1) c4) (some 42) (by rfl) (by kernel_rfl) (by intro _ _ _ h; exact h) (by rfl) (by rfl) hS (fun w => by go_simp) ?_
  simp only [Act.put, List.setIfInBounds_toArray, List.set_cons_zero, List.set_cons_succ]
  refine wpH.plain (i := 3) (v := .int .i64 (A : Int)) (some 43) (by rfl) (by kernel_rfl) (by intro _ _ _ h; exact h) (by rfl) (by rfl) hS (fun w => by go_simp) ?_
  simp only [Act.put, List.setIfInBounds_toArray, List.set_cons_zero, List.set_cons_succ]
  refine wpH.plain (i := 4) (v := .int .i64 ((A : Int) + 1)) (some 44) (by rfl) (by kernel_rfl) (by intro _ _ _ h; exact h) (by rfl) (by rfl) hS (fun w => by go_simp) ?_
  simp only [Act.put, List.setIfInBounds_toArray, List.set_cons_zero, List.set_cons_succ]
  refine wpH.plain (i := 5) (v := .slice (some ⟨g4, 0, none⟩) (r + 1) c4) (some 45) (by rfl) (by kernel_rfl) (by intro _ _ _ h; exact h) (by rfl) (by rfl) hS (fun w => by go_simp) ?_
  simp only [Act.put, List.setIfInBounds_toArray, List.set_cons_zero, List.set_cons_succ]
  refine wpH.plain (i := 6) (v := .int .i64 (A : Int)) (some 46) (by rfl) (by kernel_rfl) (by intro _ _ _ h; exact h) (by rfl) (by rfl) hS (fun w => by go_simp) ?_
  simp only [Act.put, List.setIfInBounds_toArray, List.set_cons_zero, List.set_cons_succ]
  refine wpH.plain (i := 7) (v := .int .i64 ((A : Int) + 1)) (some 47) (by rfl) (by kernel_rfl) (by intro _ _ _ h; exact h) (by rfl) (by rfl) hS (fun w => by go_simp) ?_
  simp only [Act.put, List.setIfInBounds_toArray, List.set_cons_zero, List.set_cons_succ]
  refine wpH.plain (i := 8) (v := .pointer (some ⟨g4, (A + 1) * 2, none⟩)) (some 48) (by rfl) (by kernel_rfl) (by intro _ _ _ h; exact h) (by rfl) (by rfl) hS (fun w => by go_simp; intro h; omega) ?_
  simp only [Act.put, List.setIfInBounds_toArray, List.set_cons_zero, List.set_cons_succ]
  refine wpH.held (i := 9) (v := .agg (prC q).toArray) (some 49) (by rfl) (by kernel_rfl) (by intro _ _ _ h; exact h) (by rfl) (by rfl) hS (fun w k => exec_load (by rfl) g4 ((A + 1) * 2) (by rfl) (prC q) (h4' w k) _ Tryd.underlying52 rfl i52) ?_
  simp only [Act.put, List.setIfInBounds_toArray, List.set_cons_zero, List.set_cons_succ]
  refine wpH.plain (i := 10) (v := .slice (some ⟨g4, 0, none⟩) (r + 1) c4) (some 50) (by rfl) (by kernel_rfl) (by intro _ _ _ h; exact h) (by rfl) (by rfl) hS (fun w => by go_simp) ?_
  simp only [Act.put, List.setIfInBounds_toArray, List.set_cons_zero, List.set_cons_succ]
  refine wpH.plain (i := 11) (v := .int .i64 (A : Int)) (some 51) (by rfl) (by kernel_rfl) (by intro _ _ _ h; exact h) (by rfl) (by rfl) hS (fun w => by go_simp) ?_
  simp only [Act.put, List.setIfInBounds_toArray, List.set_cons_zero, List.set_cons_succ]
  refine wpH.plain (i := 12) (v := .pointer (some ⟨g4, A * 2, none⟩)) (some 52) (by rfl) (by kernel_rfl) (by intro _ _ _ h; exact h) (by rfl) (by rfl) hS (fun w => by go_simp; intro h; omega) ?_
  simp only [Act.put, List.setIfInBounds_toArray, List.set_cons_zero, List.set_cons_succ]
  refine wpH.held (i := 13) (v := .agg (prC p).toArray) (some 53) (by rfl) (by kernel_rfl) (by intro _ _ _ h; exact h) (by rfl) (by rfl) hS (fun w k => exec_load (by rfl) g4 (A * 2) (by rfl) (prC p) (h4 w k) _ Tryd.underlying52 rfl i52) ?_
  simp only [Act.put, List.setIfInBounds_toArray, List.set_cons_zero, List.set_cons_succ]
  refine wpH.plain (i := 14) (v := .pointer (some ⟨g4, A * 2, none⟩)) (some 54) (by rfl) (by kernel_rfl) (by intro _ _ _ h; exact h) (by rfl) (by rfl) hS (fun w => by go_simp; intro h; omega) ?_
  simp only [Act.put, List.setIfInBounds_toArray, List.set_cons_zero, List.set_cons_succ]
  refine wpH.tail [15, 16, 17] _ _ _ (by kernel_rfl) (by kernel_rfl) (.inr rfl) ?_
  simp only [pick, List.getElem?_cons_succ, List.getElem?_cons_zero, Option.toList_some, List.cons_append, List.nil_append]
  have Q5 := Q4.after (New.drew W4)
  have hlm : (l.map prC).length = r + 1 := by rw [List.length_map, HLR.out]
  refine wpList_store_pl (by rfl) 52 _ _ (by rfl) (Fresh W2) 52 2 g4 (r + 1) c4 A (l.map prC) (prC q) Q5 (by rw [hlm]; omega) (by rfl) (by rfl) rfl i52 (prC_one _) ?_
  intro W5 Q6 B5
  have M5 : New W2 W5 := B5.new (NX.trans (New.drew W4)) hF4
  have hlm6 : ((l.map prC).set A (prC q)).length = r + 1 := by rw [List.length_set]; exact hlm
  go_wp2_with (refine wpList_store_pl (by rfl) 52 _ _ (by rfl) (Fresh W2) 52 2 g4 (r + 1) c4 (A + 1) ((l.map prC).set A (prC q)) (prC p) Q6 (by rw [hlm6]; omega) (by rfl) (by rfl) rfl i52 (prC_one _) ?_; intro W6 Q7 B6)
  have M6 : New W2 W6 := B6.new M5 hF4
  have eM : ((l.map prC).set A (prC q)).set (A + 1) (prC p) = ((l.set A q).set (A + 1) p).map prC := by rw [List.map_set, List.map_set]
  rw [eM] at Q7
  have hb6 := build_no Q7.ls (by rw [List.length_set, List.length_set, HLR.out]; omega) (swap_short HS.out HPQE.out.1 HPQE.out.2.1) (swap_no HMB.out HPQE.out.1 HPQE.out.2.1)
  clear hr4 Q4 N4 G4 NX RB e0 e1 g0 g1 hS h4 h4' Q5 Q6 B5 M5 hlm6 B6 eM Q7 NE4 y0
  go_wp2_with fail
  refine Calls.mono hb6 ?_
  rintro _ W7 ⟨rfl, N7⟩
  have M7 := M6.trans N7
  clear hb6 N7 M6
  go_wp2_with fail
  -- R7
  have r7 := HRA.out W7.drew ((N2'.trans M7).trans (New.drew W7)) r (by rw [HLR.out]; omega)
  rw [getD_pr HPQE.out.2.2] at r7
  have hS7 : HasC g (o + r * 2) (.string (bs e.1)) (.string (bs e.2)) W7.drew := HasC.of (r7 0 _ rfl) (r7 1 _ rfl)
  have hg7 : g < W7.drew.heap.size := Nat.lt_of_lt_of_le hg (N2'.trans M7).size
  have hwr2 : IntKind.i64.wrap ((r : Int) + 1 - 1) = (r : Int) := by rw [IntWalk.i64_in _ (by omega)]; omega
  have M7d := M7.trans (New.drew W7)
  refine wpH.region 16 (HasC g (o + r * 2) (.string (bs e.1)) (.string (bs e.2))) (by kernel_rfl) ?_
  simp only [List.size_toArray, List.length_cons, List.length_nil, Nat.reduceAdd]
  refine wpH.plain (i := 1) (v := .slice (some ⟨g, o, none⟩) (r + 1) c) (some 63) (by rfl) (by kernel_rfl) (by intro _ _ _ h; exact h) (by rfl) (by rfl) hS7 (fun w => by go_simp) ?_
  simp only [Act.put, List.setIfInBounds_toArray, List.set_cons_zero, List.set_cons_succ]
  refine wpH.plain (i := 3) (v := .slice (some ⟨g, o, none⟩) (r + 1) c) (some 65) (by rfl) (by kernel_rfl) (by intro _ _ _ h; exact h) (by rfl) (by rfl) hS7 (fun w => by go_simp) ?_
  simp only [Act.put, List.setIfInBounds_toArray, List.set_cons_zero, List.set_cons_succ]
  refine wpH.plain (i := 4) (v := .slice (some ⟨g, o, none⟩) (r + 1) c) (some 66) (by rfl) (by kernel_rfl) (by intro _ _ _ h; exact h) (by rfl) (by rfl) hS7 (fun w => by go_simp) ?_
  simp only [Act.put, List.setIfInBounds_toArray, List.set_cons_zero, List.set_cons_succ]
  refine wpH.plain (i := 5) (v := .int .i64 ((r : Int) + 1)) (some 67) (by rfl) (by kernel_rfl) (by intro _ _ _ h; exact h) (by rfl) (by rfl) hS7 (fun w => by go_simp) ?_
  simp only [Act.put, List.setIfInBounds_toArray, List.set_cons_zero, List.set_cons_succ]
  refine wpH.plain (i := 6) (v := .int .i64 (r : Int)) (some 68) (by rfl) (by kernel_rfl) (by intro _ _ _ h; exact h) (by rfl) (by rfl) hS7 (fun w => by go_simp; first | done | exact hwr2 | exact IntWalk.i64_in _ (by omega)) ?_
  simp only [Act.put, List.setIfInBounds_toArray, List.set_cons_zero, List.set_cons_succ]
  refine wpH.plain (i := 7) (v := .pointer (some ⟨g, o + r * 2, none⟩)) (some 69) (by rfl) (by kernel_rfl) (by intro _ _ _ h; exact h) (by rfl) (by rfl) hS7 (fun w => by go_simp; first | done | (intro h; exfalso; omega) | trace_state) ?_
  simp only [Act.put, List.setIfInBounds_toArray, List.set_cons_zero, List.set_cons_succ]
  refine wpH.held (i := 8) (v := .agg (prC e).toArray) (some 70) (by rfl) (by kernel_rfl) (by intro _ _ _ h; exact h) (by rfl) (by rfl) hS7 (fun w k => exec_load (by rfl) g (o + r * 2) (by rfl) (prC e) k.pair _ Tryd.underlying52 rfl i52) ?_
  simp only [Act.put, List.setIfInBounds_toArray, List.set_cons_zero, List.set_cons_succ]
  obtain ⟨D7, hD7⟩ : ∃ W, W7.drew = W := ⟨_, rfl⟩
  rw [hD7] at hS7 hg7 M7d
  simp only [hD7]
  clear hD7 r7
  have hbn := fun W => run_buildNone W 22 52 _ _ _ Tryd.underlying22 info52
  have hbo := fun W => run_buildOne W 22 52 (prC e).toArray _ _ _ Tryd.underlying22 info52 rfl (by decide) (by decide)
  have hcp := fun {W1 : World} {g0 : Nat} (R : Row W1 g0 #[] 52) (N : New D7 W1) (hg0 : D7.heap.size ≤ g0) => run_copy_ls (w := D7) (w1 := W1) 22 52 22 2 _ _ Tryd.underlying22 info52 rfl (by decide) (by decide) (HP.out.after (N2'.trans M7d)) (mapC_len l) (mapC_one l) (by rw [List.length_map, HLR.out]; omega) (by rw [List.length_map, HLR.out]; omega) R N hg0
  simp only [HLR.out] at hcp
  have R8 : Row (D7.alloc (.cells #[] 52)) D7.heap.size #[] 52 := Row.new D7 #[] 52
  have N8 : New D7 (D7.alloc (.cells #[] 52)) := (New.refl D7).alloc _
  have R8' : Row (D7.alloc (.cells (prC e).toArray 52)) D7.heap.size (prC e).toArray 52 := Row.new D7 _ 52
  have N8' : New D7 (D7.alloc (.cells (prC e).toArray 52)) := (New.refl D7).alloc _
  have hSn := fun {W : World} (n : New D7 W) => hS7.new hg7 n
  refine wpH.two 0 9 (by kernel_rfl) (wpOp_run (some 62) _ _ (by rfl) (by rfl) (by rfl) (exec_buildNone (by rfl) (hbn _)) ⟨fun _ _ => hSn N8, ?_⟩) (wpOp_run (some 71) _ _ (by rfl) (by rfl) (by rfl) (exec_buildSlice (by rfl) (by rfl) (hbo _)) ⟨fun _ _ => hSn N8', ?_⟩)
  simp only [Act.put, List.setIfInBounds_toArray, List.set_cons_zero, List.set_cons_succ]
  generalize D7.alloc (.cells #[] 52) = W8 at R8 N8 ⊢
  have R9 : Row (W8.alloc (.cells (prC e).toArray 52)) D7.heap.size #[] 52 := R8.alloc _
  have Rb0 : Row (W8.alloc (.cells (prC e).toArray 52)) W8.heap.size (prC e).toArray 52 := Row.new W8 _ 52
  have N9 : New D7 (W8.alloc (.cells (prC e).toArray 52)) := N8.alloc _
  obtain ⟨v9, W9, hr9a, Q9, N9a, G9⟩ := hcp R8 N8 (Nat.le_refl _)
  obtain ⟨g9, c9, rfl, _, _, hc9⟩ := Q9.full (by rw [List.length_map, HLR.out]; omega)
  rw [List.length_map, HLR.out] at hr9a Q9 hc9
  refine wpH.two 2 9 (by kernel_rfl) (wpOp_run (some 64) _ _ (by rfl) (by rfl) (by rfl) (exec_append (by rfl) (by rfl) (by rfl) hr9a) ⟨fun _ _ => hSn N9a, ?_⟩) (wpOp_run (some 71) _ _ (by rfl) (by rfl) (by rfl) (exec_buildSlice (by rfl) (by rfl) (hbo _)) ⟨fun _ _ => hSn N9, ?_⟩)
  simp only [Act.put, List.setIfInBounds_toArray, List.set_cons_zero, List.set_cons_succ]
  have Rb : Row (W9.alloc (.cells (prC e).toArray 52)) W9.heap.size (prC e).toArray 52 := Row.new W9 _ 52
  have N10 : New D7 (W9.alloc (.cells (prC e).toArray 52)) := N9a.alloc _
  have Q10 := Q9.after ((New.refl W9).alloc (.cells (prC e).toArray 52))
  refine wpH.one 9 (by kernel_rfl) (wpOp_run (some 71) _ _ (by rfl) (by rfl) (by rfl) (exec_buildSlice (by rfl) (by rfl) (hbo _)) ⟨fun _ _ => hSn N10, ?_⟩)
  simp only [Act.put, List.setIfInBounds_toArray, List.set_cons_zero, List.set_cons_succ]
  generalize W9.alloc (.cells (prC e).toArray 52) = W10 at Rb N10 Q10 ⊢
  generalize W9.heap.size = B at Rb ⊢
  clear R8 N8 R8' N8' hbn hbo hcp R9 Rb0 N9 hr9a Q9 N9a G9
  rotate_left
  simp only [Act.put, List.setIfInBounds_toArray, List.set_cons_zero, List.set_cons_succ]
  obtain ⟨v10, W10, hr10, Q10, N10, G10⟩ := hcp R9 N9 (Nat.le_refl _)
  obtain ⟨g9, c9, rfl, _, _, hc9⟩ := Q10.full (by rw [List.length_map, HLR.out]; omega)
  rw [List.length_map, HLR.out] at hr10 Q10 hc9
  have Rb : Row W10 W8.heap.size (prC e).toArray 52 := Rb0.of (G10.block _ Rb0.lt (fun e => by have := R8.lt; have := Option.some.inj e; omega))
  refine wpH.one 2 (by kernel_rfl) (wpOp_run (some 64) _ _ (by rfl) (by rfl) (by rfl) (exec_append (by rfl) (by rfl) (by rfl) hr10) ⟨fun _ _ => hSn N10, ?_⟩)
  simp only [Act.put, List.setIfInBounds_toArray, List.set_cons_zero, List.set_cons_succ]
  generalize W8.heap.size = B at Rb ⊢
  clear R8 N8 R8' N8' hbn hbo hcp R9 Rb0 N9 hr9a Q9 N9a G9 hr10 G10
  rotate_left
  simp only [Act.put, List.setIfInBounds_toArray, List.set_cons_zero, List.set_cons_succ]
  generalize D7.alloc (.cells (prC e).toArray 52) = W8 at R8' N8' ⊢
  have R9 : Row (W8.alloc (.cells #[] 52)) W8.heap.size #[] 52 := Row.new W8 _ 52
  have Rb0 : Row (W8.alloc (.cells #[] 52)) D7.heap.size (prC e).toArray 52 := R8'.alloc _
  have N9 : New D7 (W8.alloc (.cells #[] 52)) := N8'.alloc _
  obtain ⟨v10, W10, hr10, Q10, N10, G10⟩ := hcp R9 N9 N8'.size
  obtain ⟨g9, c9, rfl, _, _, hc9⟩ := Q10.full (by rw [List.length_map, HLR.out]; omega)
  rw [List.length_map, HLR.out] at hr10 Q10 hc9
  have Rb : Row W10 D7.heap.size (prC e).toArray 52 := Rb0.of (G10.block _ Rb0.lt (fun e => by have := R8'.lt; have := Option.some.inj e; omega))
  refine wpH.one 0 (by kernel_rfl) (wpOp_run (some 62) _ _ (by rfl) (by rfl) (by rfl) (exec_buildNone (by rfl) (hbn _)) ⟨fun _ _ => hSn N9, ?_⟩)
  simp only [Act.put, List.setIfInBounds_toArray, List.set_cons_zero, List.set_cons_succ]
  refine wpH.one 2 (by kernel_rfl) (wpOp_run (some 64) _ _ (by rfl) (by rfl) (by rfl) (exec_append (by rfl) (by rfl) (by rfl) hr10) ⟨fun _ _ => hSn N10, ?_⟩)
  simp only [Act.put, List.setIfInBounds_toArray, List.set_cons_zero, List.set_cons_succ]
  generalize D7.heap.size = B at Rb ⊢
  all_goals
    obtain ⟨g11, c11, W11, ha11, Q11, G11⟩ := run_append_pl Q10 22 22 Tryd.underlying22 _ _ info52 rfl (by decide) _ (prC e) 52 Rb rfl (prC_one _) (by rw [List.length_map, HLR.out]; omega) (by decide)
    rw [List.length_map, HLR.out] at ha11 Q11
    have N11 : New D7 W11 := N10.grown G11 (fun b hb => Q10.foot b hb)
    refine wpH.one 10 (by kernel_rfl) (wpOp_run (some 72) _ _ (by rfl) (by rfl) (by rfl) (exec_append (by rfl) (by rfl) (by rfl) ha11) ⟨fun _ _ => hSn N11, ?_⟩)
    simp only [Act.put, List.setIfInBounds_toArray, List.set_cons_zero, List.set_cons_succ]
    have eT : l.map prC ++ [prC e] = (l ++ [e]).map prC := by rw [List.map_append]; rfl
    rw [eT] at Q11
    have hb11 := build_no Q11.ls (by rw [List.length_append, HLR.out, List.length_singleton]; omega) (more_short HS.out HPQE.out.2.2) (twice_no HLR.out HPQE.out.2.2)
    refine wpH.one 11 (by kernel_rfl) (wpOp_call (some 73) 11 #[.slice (some ⟨g11, 0, none⟩) (r + 1 + 1) c11] (by rfl) (by rfl) (by rfl) (by go_simp) ?_)
    refine hb11.mono ?_
    rintro _ W12 ⟨rfl, N12⟩
    have N12' := N11.trans N12
    refine ⟨_, rfl, fun _ _ => hSn N12', ?_⟩
    simp only [Act.put, List.setIfInBounds_toArray, List.set_cons_zero, List.set_cons_succ]
    refine wpH.plain (i := 12) (v := .tuple #[.slice none 0 0, .bool false]) (some 61) (by rfl) (by kernel_rfl) (by intro _ _ _ h; exact h) (by rfl) (by rfl) (hSn N12') (fun w => by go_simp) ?_
    simp only [Act.put, List.setIfInBounds_toArray, List.set_cons_zero, List.set_cons_succ]
    refine wpH.plain (i := 13) (v := .slice none 0 0) (some 74) (by rfl) (by kernel_rfl) (by intro _ _ _ h; exact h) (by rfl) (by rfl) (hSn N12') (fun w => by go_simp) ?_
    simp only [Act.put, List.setIfInBounds_toArray, List.set_cons_zero, List.set_cons_succ]
    refine wpH.plain (i := 14) (v := .bool false) (some 75) (by rfl) (by kernel_rfl) (by intro _ _ _ h; exact h) (by rfl) (by rfl) (hSn N12') (fun w => by go_simp) ?_
    simp only [Act.put, List.setIfInBounds_toArray, List.set_cons_zero, List.set_cons_succ]
    refine wpH.plain (i := 15) (v := .slice none 0 0) (some 9) (by rfl) (by kernel_rfl) (by intro _ _ _ h; exact h) (by rfl) (by rfl) (hSn N12') (fun w => by go_simp) ?_
    simp only [Act.put, List.setIfInBounds_toArray, List.set_cons_zero, List.set_cons_succ]
    refine wpH.tail [16] _ _ _ (by kernel_rfl) (by kernel_rfl) (.inr rfl) ?_
    simp only [pick, List.getElem?_cons_succ, List.getElem?_cons_zero, Option.toList_some, List.cons_append, List.nil_append]
    have M12 : New W2 W12 := M7d.trans N12'
    clear N12 N12' N11 G11 Q11 eT hb11 ha11 Q10 Rb N10 hSn hS7 hg7 M7d M7 hwr hwr2
    have NE8 : New W12 (W12.alloc (.cells #[] 52)) := (New.refl W12).alloc _
    obtain ⟨v13, W13, hr13, Q13, N13, G13⟩ := run_copy_ls (w := W12) (w1 := W12.alloc (.cells #[] 52)) 22 52 22 2 _ _ Tryd.underlying22 info52 rfl (by decide) (by decide) (HP.out.after (N2'.trans M12)) (mapC_len l) (mapC_one l) (by rw [List.length_map, HLR.out]; omega) (by rw [List.length_map, HLR.out]; omega) (Row.new W12 #[] 52) NE8 (Nat.le_refl _)
    obtain ⟨g13, c13, rfl, hF13, hg13, hc13⟩ := Q13.full (by rw [List.length_map, HLR.out]; omega)
    rw [List.length_map, HLR.out] at hr13 hc13 Q13
    have e13 : (l.map prC)[A]? = some (prC p) := by rw [List.getElem?_map, HPQE.out.1]; rfl
    obtain ⟨cc13, ff13⟩ := Q13.cellAt e13 (j := 1) (u := .string (bs p.2)) rfl
    have q13 := Q13.setCell e13 (j := 1) (by decide) (.string (bs long17))
    have hlong : (Value.string { data := #[48, 49, 50, 51, 52, 53, 54, 55, 56, 57, 97, 98, 99, 100, 101, 102, 103] }) = .string (bs long17) := rfl
    have e13' : (l.map prC).set A ((prC p).set 1 (.string (bs long17))) = (l.set A (p.1, long17)).map prC := by rw [List.map_set]; rfl
    rw [e13'] at q13
    have M13 : New W2 (W13.setCell ⟨g13, A * 2 + 1, none⟩ (.string (bs long17))) := ((M12.trans NE8).grown G13 (fun b hb => by cases hb; exact M12.size)).setCell (a := ⟨g13, A * 2 + 1, none⟩) (Nat.le_trans M12.size hF13) _
    have hb13 := build_no q13.ls (by rw [List.length_set, HLR.out]; omega) (put_short HS.out HPQE.out.1) (value_no (by rw [HLR.out]; omega) (show 16 < long17.length by decide))
    rw [← hlong] at hb13 M13
    clear Q13 q13 e13 e13' hlong G13 N13 NE8
    go_wp2_with (first
      | refine wpList_run (by rfl) _ _ (exec_buildNone (by rfl) (run_buildNone _ 22 52 _ _ _ Tryd.underlying22 info52)) ?_
      | refine wpList_appends (by rfl) _ _ 22 22 _ _ _ _ (by rfl) (by rfl) (by rfl) (by rfl) hr13 ?_)
    refine Calls.mono hb13 ?_
    rintro _ W14 ⟨rfl, N14⟩
    have M14 := M13.trans N14
    have hb14 := build_yes (HP.out.after (N2'.trans M14)) (by rw [HLR.out]; omega) HS.out HMB.out
    rw [HLR.out] at hb14
    clear hb13 hr13 cc13 ff13 N14 M13
    go_wp2_with fail
    obtain ⟨n, hn⟩ : ∃ n, (buildN l).length = n + 2 := two_nodes HMB.out (by rw [HLR.out]; omega)
    have HN : Hid ((buildN l).length = n + 2) := hn
    have hn9 : n + 2 ≤ 9000 := by have := build_few HMB.out; rw [hn, HLR.out] at this; omega
    obtain ⟨K, hK, hremK⟩ := rem_nat y (n + 2) (by omega)
    obtain ⟨m, hm⟩ : ∃ m, (buildN l)[K]? = some m := ⟨(buildN l)[K]'(by rw [hn]; exact hK), List.getElem?_eq_getElem _⟩
    have HM : Hid ((buildN l)[K]? = some m) := hm
    rw [show ((n + 2 : Nat) : Int) = (n : Int) + 2 by omega] at hremK
    have HB : Hid (TOk (buildN l)) := build_ok HMB.out (by rw [HLR.out]; omega)
    clear hn hm
    refine Calls.mono hb14 ?_
    rintro _ W15 ⟨v15, rfl, Q15, N15⟩
    have M15 := M14.trans N15
    have M15w := N2'.trans M15
    obtain ⟨g15, c15, rfl, _, hg15, hc15⟩ := Q15.full (by rw [List.length_map, HN.out]; omega)
    rw [List.length_map, HN.out] at hc15 Q15 ⊢
    have HQ15 : Hid (Pl W15 (Fresh W14) 49 20 (.slice (some ⟨g15, 0, none⟩) (n + 2) c15) ((buildN l).map ndC)) := Q15
    have ry := (R2.after M15).has 1 (v := .int .u8 (y.toNat : Int)) rfl
    have hy8 : (y.toNat : Int) ≤ 255 := by have := y.toNat_lt; omega
    have NE16 : New W15 (W15.alloc (.cells #[] 49)) := (New.refl W15).alloc _
    obtain ⟨v16, W16, hr16, Q16, N16, G16⟩ := run_copy_ls (w := W15) (w1 := W15.alloc (.cells #[] 49)) 24 49 24 20 _ _ Tryd.underlying24 info49 rfl (by decide) (by decide) HQ15.out.ls (mapN_len HB.out.k16) (mapN_one _) (by rw [List.length_map, HN.out]; omega) (by rw [List.length_map, HN.out]; omega) (Row.new W15 #[] 49) NE16 (Nat.le_refl _)
    obtain ⟨g16, c16, rfl, hF16, hg16, hc16⟩ := Q16.full (by rw [List.length_map, HN.out]; omega)
    rw [List.length_map, HN.out] at hr16 hc16 Q16
    have e16 : ((buildN l).map ndC)[K]? = some (ndC m) := by rw [List.getElem?_map, HM.out]; rfl
    have e16f : (((buildN l).set K (flipN m)).map ndC)[K]? = some (ndC (flipN m)) := by rw [List.getElem?_map, List.getElem?_set_self (by rw [HN.out]; exact hK)]; rfl
    obtain ⟨cc, ff⟩ := Q16.cellAt e16 (j := 2) (u := .bool m.has) rfl
    have q16 := Q16.setCell e16 (j := 2) (by decide) (.bool (!m.has))
    have e16' : ((buildN l).map ndC).set K ((ndC m).set 2 (.bool (!m.has))) = ((buildN l).set K (flipN m)).map ndC := by rw [List.map_set]; rfl
    rw [e16'] at q16
    have M16 : New W15 W16 := NE16.grown G16 (fun b hb => by cases hb; exact Nat.le_refl _)
    have M17 : New W15 (W16.setCell ⟨g16, K * 20 + 2, none⟩ (.bool (!m.has))) := M16.setCell (a := ⟨g16, K * 20 + 2, none⟩) hF16 _
    have ck : (W16.setCell ⟨g16, K * 20 + 2, none⟩ (.bool (!m.has))).cell? ⟨g16, K * 20, none⟩ = some (.int .i64 m.kind) := (q16.cellAt e16f (j := 0) (u := .int .i64 m.kind) rfl).1
    have ck0 := (Q16.cellAt e16 (j := 0) (u := .int .i64 m.kind) rfl).1
    rw [Nat.add_zero] at ck0
    have ry16 := (R2.after (M15.trans M16)).has 1 (v := .int .u8 (y.toNat : Int)) rfl
    have hgT : Hid (∀ W : World, New W15 W → Calls Tryd.prog 19 #[.slice (some ⟨g15, 0, none⟩) (n + 1) c15] W (fun e w'' => e = .returned (.bool false) ∧ New W w'')) := fun W N => good_no (take_pl (HQ15.out.after N) (by rw [HN.out]; omega)).ls (tok_take HB.out _) (HT.out.kept (M15w.trans N)) (cut_no HMB.out HN.out (by omega))
    have hgF : m.kind ≠ 3 → Calls Tryd.prog 19 #[.slice (some ⟨g16, 0, none⟩) (n + 2) c16] (W16.setCell ⟨g16, K * 20 + 2, none⟩ (.bool (!m.has))) (fun e w'' => e = .returned (.bool false) ∧ New (W16.setCell ⟨g16, K * 20 + 2, none⟩ (.bool (!m.has))) w'') := fun h3 => good_no q16.ls (tok_flip HB.out HM.out) (HT.out.kept (M15w.trans M17)) (flip_no HMB.out HM.out h3)
    have hzn : (((n : Int) + 2) == 0) = false := by rw [beq_eq_false_iff_ne]; omega
    clear hb14 N15 M14 Q15 NE16 Q16 N16 G16 e16 e16f q16 e16' M16
    obtain ⟨kd, hkd⟩ : ∃ z, m.kind = z := ⟨_, rfl⟩
    rw [hkd] at ck ck0 hgF
    clear hkd
    obtain ⟨hb, hhb⟩ : ∃ b, m.has = b := ⟨_, rfl⟩
    rw [hhb] at cc M17 ck hgF
    clear hhb
    by_cases h3 : kd = 3
    · subst h3
      have M18 := M17
      clear hgF M17
      go_wp2_with (first
        | refine wpList_run (by rfl) _ _ (exec_buildNone (by rfl) (run_buildNone _ 24 49 _ _ _ Tryd.underlying24 info49)) ?_
        | refine wpList_appends (by rfl) _ _ 24 24 _ _ _ _ (by rfl) (by rfl) (by rfl) (by rfl) hr16 ?_)
      have h19 := hgT.out _ M18
      clear hgT
      refine Calls.mono h19 ?_
      clear h19
      rintro _ W19 ⟨rfl, N19⟩
      have M19 := M18.trans N19
      clear M18 N19 HQ15
      go_wp2_with fail
      refine Calls.mono (wakes_any W19 (HT.out.kept (M15w.trans M19))) ?_
      rintro _ W20 ⟨rfl, N20⟩
      go_wp2_with fail
      go_ret
      exact ⟨rfl, (M15w.trans M19).trans N20⟩
    · have hgF' := hgF h3
      clear hgF
      go_wp2_with (first
        | refine wpList_run (by rfl) _ _ (exec_buildNone (by rfl) (run_buildNone _ 24 49 _ _ _ Tryd.underlying24 info49)) ?_
        | refine wpList_appends (by rfl) _ _ 24 24 _ _ _ _ (by rfl) (by rfl) (by rfl) (by rfl) hr16 ?_)
      refine Calls.mono hgF' ?_
      clear hgF'
      rintro _ W18 ⟨rfl, N18⟩
      have M18 := M17.trans N18
      clear N18 M17 ck ck0 cc ff
      have h19 := hgT.out _ M18
      clear hgT
      go_wp2_with fail
      refine Calls.mono h19 ?_
      clear h19
      rintro _ W19 ⟨rfl, N19⟩
      have M19 := M18.trans N19
      clear M18 N19 HQ15
      go_wp2_with fail
      refine Calls.mono (wakes_any W19 (HT.out.kept (M15w.trans M19))) ?_
      rintro _ W20 ⟨rfl, N20⟩
      go_wp2_with fail
      go_ret
      exact ⟨rfl, (M15w.trans M19).trans N20⟩

end Go.Proofs.YtelaiblhnhbgiaaDoor
