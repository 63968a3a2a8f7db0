/-
  Pages for a disk; are two lists of numbers alike?
-/
import Derived.Test.YtkcoclpbkealgaaDoorQMake
import Derived.Test.YtkcoclpbkealgaaDoorKeep
namespace Go.Proofs.YtkcoclpbkealgaaDoor
open Go.RowKit
set_option maxRecDepth 20000

/-- The page of that number: right, or not. -/
def pgL (i : Nat) (v : UInt8) : List UInt8 := if v.toNat < 200 then goodL i v else fillL v
theorem pgL_length (i : Nat) (v : UInt8) : (pgL i v).length = 256 := by unfold pgL; split; exact goodL_length _ _; exact fillL_length v
def pagesL (cs : List UInt8) : List (List UInt8) := cs.mapIdx pgL
theorem pagesL_length (cs : List UInt8) : (pagesL cs).length = cs.length := by unfold pagesL; rw [List.length_mapIdx]
theorem pagesL_get {cs : List UInt8} {i : Nat} (h : i < cs.length) : (pagesL cs).getD i [] = pgL i (cs.getD i 0) := by
  unfold pagesL
  rw [List.getD_eq_getElem?_getD, List.getElem?_mapIdx, List.getElem?_eq_getElem h, List.getD_eq_getElem?_getD, List.getElem?_eq_getElem h]; rfl
theorem pagesL_next {cs : List UInt8} {i : Nat} (h : i < cs.length) : (pagesL cs).take (i + 1) = (pagesL cs).take i ++ [pgL i (cs.getD i 0)] := by
  have hi : i < (pagesL cs).length := by rw [pagesL_length]; exact h
  rw [List.take_succ_eq_append_getElem hi, ← pagesL_get h, List.getD_eq_getElem?_getD, List.getElem?_eq_getElem hi]; rfl

theorem wpList_build_text {w : World} {ops : Array Oper} {rest : List Oper} {o : Oper} {a : Act} {Q : Exit → Act → World → Prop} (hgd : o.guard = none) (x : Operand) (ho : o.op = .buildSlice 28 1 #[(0, x)]) (l : List UInt8) (hx : a.eval x = .string (bs l))
    (h : ∀ W', Row W' w.heap.size (textL l).toArray 9 → New w W' → wpList Tryd.prog ops Q rest (a.put o.dst (.slice (some ⟨w.heap.size, 0, none⟩) 1 1)) W') : wpList Tryd.prog ops Q (o :: rest) a w :=
  wpList_run hgd _ _ (exec_buildSlice ho hx (run_buildCell w 28 9 (.string (bs l)) _ _ Tryd.underlying28 info9 rfl)) (h _ (Row.new w _ 9) ((New.refl w).alloc _))
theorem text_one (x : List UInt8) : ∀ v ∈ textL x, v.oneCell' = true := fun v hv => by
  obtain rfl : v = .string (bs x) := by simpa [textL] using hv
  rfl

set_option maxHeartbeats 4000000 in
theorem lawpages_any (w : World) (a : Option Addr) (c : Nat) (cs : List UInt8) (hB : Bytes w a cs) (hl : cs.length ≤ 1000) :
    Calls Tryd.prog 10 #[.slice a cs.length c] w fun e w' => ∃ v, e = .returned v ∧ Pl w' (Fresh w) 9 1 v ((pagesL cs).map textL) ∧ New w w' := by
  obtain ⟨n, hn⟩ : ∃ n, cs.length = n := ⟨_, rfl⟩
  have HB : Hid (Bytes w a cs) := hB
  have HN : Hid (cs.length = n) := hn
  rw [hn] at hl ⊢
  clear hB hn
  go_enter Tryd.func10, Tryd.ntmps10
  go_wp2_with fail
  go_loopw [3, 4] (fun v u wr => ∃ i : Nat, u = .int .i64 (i : Int) ∧ i ≤ n ∧ Hid (Pl wr (Fresh w) 9 1 v (((pagesL cs).take i).map textL) ∧ New w wr)) (fun _ u _ => n - (intOf u).toNat)
  case atStart => exact ⟨0, rfl, by omega, Pl.nil _ _ _ _, New.refl _⟩
  case round =>
    obtain ⟨i, rfl, hi, HI⟩ := hrel
    by_cases h : i < n
    · have hic : i < cs.length := by rw [HN.out]; exact h
      obtain ⟨x, rfl, hx⟩ := (HB.out.after HI.out.2) (by omega)
      have k0 := hx i hic
      have HX : Hid ((pagesL cs).take (i + 1) = (pagesL cs).take i ++ [pgL i (cs.getD i 0)]) := pagesL_next hic
      have HL : Hid ((((pagesL cs).take i).map textL).length ≤ 1000000) := by show (((pagesL cs).take i).map textL).length ≤ 1000000; rw [List.length_map, List.length_take]; omega
      have h' : (i : Int) < (n : Int) := by omega
      generalize cs.getD i 0 = b at k0 HX
      clear hx hic
      have HF : Hid (∀ {W2 W3 W4 : World} {cap3 g3 : Nat} {v : Value}, New wr W2 → New W2 W3 → Pl wr (Fresh w) 9 1 v (((pagesL cs).take i).map textL) → Pl W4 (fun b => Fresh w b ∨ W3.heap.size ≤ b) 9 1 (.slice (some ⟨g3, 0, none⟩) ((((pagesL cs).take i).map textL).length + 1) cap3) (((pagesL cs).take i).map textL ++ [textL (pgL i b)]) → W3.grownBy W4 v.ownBlock → Pl W4 (Fresh w) 9 1 (.slice (some ⟨g3, 0, none⟩) ((((pagesL cs).take i).map textL).length + 1) cap3) (((pagesL cs).take (i + 1)).map textL) ∧ New w W4) := fun {W2 W3 W4 cap3 g3 v} n2 n3 Q0 Q4 G4 => by
        have h1 := HI.out.2.size
        have h2 := n2.size
        have h3 := n3.size
        refine ⟨?_, ((HI.out.2.trans n2).trans n3).grown G4 fun k hk => Q0.foot k hk⟩
        rw [HX.out, List.map_append]
        refine Q4.mono fun b hb _ => hb.elim id fun hb => ?_
        show w.heap.size ≤ b
        omega
      by_cases hb : b.toNat < 200
      · have hb' : (b.toNat : Int) < 200 := by omega
        have hp : pgL i b = goodL i b := by unfold pgL; rw [if_pos hb]
        have hg := good_any i (by omega) b
        rw [← hp] at hg
        clear hp
        generalize pgL i b = t at hg HF HX
        go_wp2_with fail
        refine (hg _).mono ?_
        rintro _ w2 ⟨rfl, n2⟩
        go_wp2_with (first
          | (refine wpList_build_text (by rfl) _ (by rfl) t (by rfl) ?_; intro w3 R3 n3)
          | (refine wpList_append_pl (HI.out.1.after (n2.trans n3)) (by rfl) _ _ 28 (by rfl) Tryd.underlying28 _ _ info9 rfl (by decide) w2.heap.size (textL t) 9 R3 rfl (text_one _) HL.out (by decide) (by rfl) (by rfl) ?_; intro g3 cap3 w4 Q4 G4))
        have G := HF.out n2 n3 HI.out.1 Q4 G4
        simp only [List.length_map, List.length_take] at G
        exact ⟨⟨i + 1, by simp, by omega, G⟩, by simp [intOf]; omega⟩
      · have hb' : ¬ (b.toNat : Int) < 200 := by omega
        have hp : pgL i b = fillL b := by unfold pgL; rw [if_neg hb]
        have hg := fill_any b
        rw [← hp] at hg
        clear hp
        generalize pgL i b = t at hg HF HX
        go_wp2_with fail
        refine (hg _).mono ?_
        rintro _ w2 ⟨rfl, n2⟩
        go_wp2_with (first
          | (refine wpList_build_text (by rfl) _ (by rfl) t (by rfl) ?_; intro w3 R3 n3)
          | (refine wpList_append_pl (HI.out.1.after (n2.trans n3)) (by rfl) _ _ 28 (by rfl) Tryd.underlying28 _ _ info9 rfl (by decide) w2.heap.size (textL t) 9 R3 rfl (text_one _) HL.out (by decide) (by rfl) (by rfl) ?_; intro g3 cap3 w4 Q4 G4))
        have G := HF.out n2 n3 HI.out.1 Q4 G4
        simp only [List.length_map, List.length_take] at G
        exact ⟨⟨i + 1, by simp, by omega, G⟩, by simp [intOf]; omega⟩
    · obtain rfl : i = n := by omega
      go_wp2_with fail
      go_ret
      obtain ⟨h1, h2⟩ := HI.out
      rw [List.take_of_length_le (by rw [pagesL_length, HN.out]; exact Nat.le_refl _)] at h1
      exact ⟨_, rfl, h1, h2⟩

/-- A disk out of such pages. -/
theorem texts_of {w : World} {F : Nat → Prop} {a : Option Addr} {n c : Nat} {l : List (List UInt8)} (h : Pl w F 9 1 (.slice a n c) (l.map textL)) : Texts w a (l.map bs) ∧ n = l.length := by
  have := Pl.texts (l := l.map bs) (by rw [List.map_map]; exact h)
  rwa [List.length_map] at this
theorem from_pages {w w0 : World} {v : Value} {l : List (List UInt8)} (h : Pl w (Fresh w0) 9 1 v (l.map textL)) (hs : ∀ x ∈ l, x.length = 256) (lim : Nat) (h1 : 1 ≤ lim) (h2 : lim ≤ 200) (h3 : l.length ≤ lim) :
    Calls Tryd.prog 9 #[v, .int .i64 (lim : Int)] w fun e w' => New w w' ∧ ∃ p F, e = .returned (.tuple #[.pointer (some ⟨p, 0, none⟩), .bool true]) ∧ Disk w' F p ⟨lim, l, [], -1, false⟩ ∧ ∀ b, F b → w.heap.size ≤ b := by
  obtain ⟨a, c, rfl, _⟩ := h.form
  obtain ⟨hT, hn⟩ := texts_of h
  have := from_any w a c (l.map bs) hT (lim : Int) (by rw [List.length_map]; omega)
  rw [List.length_map] at this
  rw [List.length_map]
  have hB : fromB (l.map bs) (lim : Int) = true := by
    unfold fromB
    rw [Bool.and_eq_true]
    refine ⟨decide_eq_true ⟨by omega, by omega, by rw [List.length_map]; omega⟩, List.all_eq_true.2 fun t ht => ?_⟩
    obtain ⟨x, hx, rfl⟩ := List.mem_map.1 ht
    rw [bs_size, hs x hx]; rfl
  refine this.mono fun e w' hm => ?_
  unfold Made at hm
  rw [hB] at hm
  obtain ⟨n1, hm⟩ := hm
  rw [if_pos rfl] at hm
  have hL : (l.map bs).map L = l := by rw [List.map_map, show (L ∘ bs) = id from funext fun x => L_bs x, List.map_id]
  rw [hL, Int.toNat_natCast] at hm
  exact ⟨n1, hm⟩

set_option maxHeartbeats 2000000 in
theorem ints_any {w : World} {F G : Nat → Prop} {u v : Value} {l : List Nat} (h1 : Pl w F 3 1 u (intsL l)) (h2 : Pl w G 3 1 v (intsL l)) (hl : l.length ≤ 100000) :
    Calls Tryd.prog 27 #[u, v] w fun e w' => e = .returned (.bool true) ∧ New w w' := by
  obtain ⟨a, c, rfl, _⟩ := h1.form
  obtain ⟨b, d, rfl, _⟩ := h2.form
  rw [intsL_length]
  rw [intsL_length] at h1 h2
  obtain ⟨n, hn⟩ : ∃ n, l.length = n := ⟨_, rfl⟩
  have H1 : Hid (Pl w F 3 1 (.slice a n c) (intsL l)) := by rw [hn] at h1; exact h1
  have H2 : Hid (Pl w G 3 1 (.slice b n d) (intsL l)) := by rw [hn] at h2; exact h2
  have HN : Hid (l.length = n) := hn
  rw [hn] at hl ⊢
  clear h1 h2 hn
  go_enter Tryd.func27, Tryd.ntmps27
  go_wp2_with fail
  go_loopw [5] (fun u wr => ∃ i : Nat, u = .int .i64 (i : Int) ∧ i ≤ n ∧ New w wr) (fun u _ => n - (intOf u).toNat)
  case atStart => exact ⟨0, rfl, by omega, New.refl _⟩
  case round =>
    obtain ⟨i, rfl, hi, hN⟩ := hrel
    by_cases h : i < n
    · have P1 := H1.out.after hN
      have P2 := H2.out.after hN
      have hil : i < l.length := by rw [HN.out]; exact h
      obtain ⟨g1, c1, e1, _⟩ := P1.full (by rw [intsL_length]; omega)
      obtain ⟨g2, c2, e2, _⟩ := P2.full (by rw [intsL_length]; omega)
      rw [intsL_length, HN.out] at e1 e2
      cases e1
      cases e2
      have k1 := P1.num hil
      have k2 := P2.num hil
      generalize l.getD i 0 = x at k1 k2
      clear P1 P2 hil
      go_wp2_with fail
      go_quiet (fail)
      go_wp2_with fail
      exact ⟨⟨i + 1, by simp, by omega, hN.trans (New.drewN _ _)⟩, by simp [intOf]; omega⟩
    · obtain rfl : i = n := by omega
      go_wp2_with fail
      go_ret
      exact ⟨rfl, hN⟩
end Go.Proofs.YtkcoclpbkealgaaDoor
