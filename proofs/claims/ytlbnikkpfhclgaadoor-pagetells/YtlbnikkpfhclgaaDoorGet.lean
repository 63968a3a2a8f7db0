/-
  What Get returns: the page of bytes that Put tells, at its number; else none.
-/
import Derived.Test.YtlbnikkpfhclgaaDoorPage
namespace Go.Proofs.YtlbnikkpfhclgaaDoor
open Go.RowKit

theorem built23_none : Tryd.prog.built 23 [] = some #[.int .i64 0, .int .i64 0, .string ⟨#[]⟩] := by kernel_rfl
def noPg : Array Value := #[.int .i64 0, .int .i64 0, .string ⟨#[]⟩]
theorem guard46 : Tryd.prog.eqGuardType Tryd.prog.depth 46 = false := by kernel_rfl
theorem wpList_load_want {P : Program} {ops : Array Oper} {rest : List Oper} {o : Oper} {a : Act} {w : World} {Q : Exit → Act → World → Prop} (hw : Region.wanted o (yielded ops a.tmps) = true) (ty : TypeId) (x : Operand) (ho : o.op = .load ty x)
    (g : Nat) (hx : a.eval x = .pointer (some ⟨g, 0, none⟩)) (t : TypeId) (cs : Array Value) (d : TypeDesc) (hg : Row w g cs t)
    (hu : P.underlying ty = some d) (hd : (match d with | .struct _ | .array _ _ => true | _ => false) = true) (hi : (P.info? ty).map (·.size) = some cs.size)
    (h : wpList P ops Q rest (a.put o.dst (.agg cs)) w) : wpList P ops Q (o :: rest) a w :=
  BigFrame.wpList_want hw fun _ hK => wp_load_row ty x ho g hx t cs (0, 0) d hg hu hd hi (hK _ _ h)

set_option maxRecDepth 20000 in
set_option maxHeartbeats 2000000 in
theorem get_wrong (b : ByteArray) (h : ¬ Right (L b)) (a : Int) (w : World) (hT : Tab w) :
    Calls Tryd.prog 9 #[.string b, .int .i64 a] w fun e w' => e = .returned (.tuple #[.agg #[.int .i64 0, .int .i64 0, .string ⟨#[]⟩], .int .i64 6]) ∧ New w w' := by
  have hr : ∀ w, Tab w → Calls Tryd.prog 11 #[.string b] w fun e w' => e = .returned (.bool false) ∧ New w w' := fun w hT => by
    have := right_any b w hT
    rw [rightB_false h] at this
    exact this
  go_enter Tryd.func9, Tryd.ntmps9
  go_wp2_with (refine wpList_alloc_at (by rfl) 4 (by rfl) 23 (by rfl) _ _ _ info23 ?_; intro W1 R1 N1)
  refine (hr _ (hT.after N1)).mono ?_
  rintro _ W2 ⟨rfl, N2⟩
  have R2 := R1.after N2
  go_wp2_with (first
    | refine wpList_build0 (by rfl) 23 (by rfl) _ built23_none ?_
    | (refine wpList_store_new (by rfl) 23 _ _ (by rfl) w.heap.size noPg (by rfl) (by rfl) 23 noPg R2 i23 rfl (pg_all _ _ _) ?_; intro W4 R4 B4))
  exact bodyPost_ret (results_cell_tmp rfl _ _ w.heap.size 23 noPg (0, 0) _ (.int .i64 6) rfl rfl R4 Tryd.underlying23 rfl i23) rfl ⟨rfl, B4.new (N1.trans N2) (Nat.le_refl _)⟩

set_option maxRecDepth 20000 in
set_option maxHeartbeats 2000000 in
theorem get_core (b : ByteArray) (hR : Right (L b)) (a : Int) (f : Fr) (hf : frIn (L b) = f) (h : Fr) (hh : h.p.length = 243) (ok : Bool)
    (hc : ∀ w, Calls Tryd.prog 13 #[.agg #[.int .i64 (f.k : Int), .int .i64 (f.g : Int), .string (bs (payOf f))], .int .i64 a] w fun e w' => e = .returned (.tuple #[.agg (frL h).toArray, .bool ok]) ∧ New w w')
    (w : World) (hT : Tab w) :
    Calls Tryd.prog 9 #[.string b, .int .i64 a] w fun e w' => e = .returned (if (ok && eqFr f h) = true then .tuple #[.agg #[.int .i64 (f.k : Int), .int .i64 (f.g : Int), .string (bs (payOf f))], .int .i64 0] else .tuple #[.agg #[.int .i64 0, .int .i64 0, .string ⟨#[]⟩], .int .i64 6]) ∧ New w w' := by
  have hr : ∀ w, Tab w → Calls Tryd.prog 11 #[.string b] w fun e w' => e = .returned (.bool true) ∧ New w w' := fun w hT => by
    have := right_any b w hT
    rw [(rightB_iff _).2 hR] at this
    exact this
  have hO : f.Ok := by rw [← hf]; exact in_ok (by rw [hR.1]; decide)
  have hp := hO.p
  have hin : ∀ w, Calls Tryd.prog 20 #[.string b] w fun e w' => e = .returned (.agg (frL f).toArray) ∧ New w w' := fun w => by
    have := frameIn_any b (by rw [← L_size]; exact hR.1) w
    rw [hf] at this
    exact this
  have hpg := fun w => page_any f hO w
  have hq := fun w => eq_frames f h hp hh w
  have s1 := f46 hp
  have s2 := f46 hh
  have s3 := same46 (f := noFr) zeros_length hp
  have s4 := same46 (f := noFr) zeros_length hh
  have o1 := frL_all f
  have o2 := frL_all h
  obtain ⟨E, hE⟩ : ∃ E, eqFr f h = E := ⟨_, rfl⟩
  rw [hE] at hq
  have gd := guard46
  obtain ⟨out, hout⟩ : ∃ out : Value, (if (ok && eqFr f h) = true then Value.tuple #[.agg #[.int .i64 (f.k : Int), .int .i64 (f.g : Int), .string (bs (payOf f))], .int .i64 0] else .tuple #[.agg #[.int .i64 0, .int .i64 0, .string ⟨#[]⟩], .int .i64 6]) = out := ⟨_, rfl⟩
  rw [hout]
  have HO : Hid (out = if (ok && E) = true then Value.tuple #[.agg #[.int .i64 (f.k : Int), .int .i64 (f.g : Int), .string (bs (payOf f))], .int .i64 0] else .tuple #[.agg #[.int .i64 0, .int .i64 0, .string ⟨#[]⟩], .int .i64 6]) := by
    show _ = _
    rw [← hout, hE]
  clear hout hE hR hf hO hp hh
  generalize bs (payOf f) = pay at *
  generalize f.k = k at *
  generalize f.g = g at *
  generalize (frL f).toArray = c1 at *
  generalize (frL h).toArray = c2 at *
  go_enter Tryd.func9, Tryd.ntmps9
  go_wp2_with (refine wpList_alloc_at (by rfl) 4 (by rfl) 23 (by rfl) _ _ _ info23 ?_; intro W1 R1 N1)
  refine (hr _ (hT.after N1)).mono ?_
  rintro _ W2 ⟨rfl, N2⟩
  have R2 := R1.after N2
  have N2' := N1.trans N2
  go_wp2_with fail
  refine (hin _).mono ?_
  rintro _ W3 ⟨rfl, N3⟩
  have R3 := R2.after N3
  have N3' := N2'.trans N3
  clear R1 R2 N1 N2 N2' N3 hr hin hT
  have l3 := N3'.size
  have r3 := R3.lt
  go_wp2_with (first
    | (refine wpList_alloc_at (by rfl) 6 (by rfl) 46 (by rfl) _ _ _ info46 ?_; intro W4 R4 N4)
    | (refine wpList_store_new (by rfl) 46 _ _ (by rfl) W3.heap.size c1 (by rfl) (by rfl) 46 _ R4 s1 s3 o1 ?_; intro W5 R5 B5)
    | refine wpList_load_row (by rfl) 46 _ (by rfl) W3.heap.size (by rfl) 46 _ (0, 0) _ R5 Tryd.underlying46 rfl s1 ?_)
  have R5a : Row W5 w.heap.size _ 23 := (R3.after N4).but B5 (by omega)
  have N5 : New w W5 := B5.new (N3'.trans N4) l3
  clear R3 R4 N4 B5 N3'
  refine (hpg _).mono ?_
  rintro _ W6 ⟨rfl, N6⟩
  have R6a := R5a.after N6
  have R6b := R5.after N6
  have N6' := N5.trans N6
  have l6 := N6.size
  have b6 := R6b.lt
  clear R5 R5a N5 N6 hpg
  go_wp2_with (first
    | (refine wpList_alloc_at (by rfl) 7 (by rfl) 23 (by rfl) _ _ _ info23 ?_; intro W7 R7 N7)
    | (refine wpList_store_new (by rfl) 23 _ _ (by rfl) W6.heap.size #[.int .i64 (k : Int), .int .i64 (g : Int), .string pay] (by rfl) (by rfl) 23 noPg R7 i23 rfl (pg_all _ _ _) ?_; intro W8 R8 B8)
    | refine wpList_load_row (by rfl) 23 _ (by rfl) W6.heap.size (by rfl) 23 _ (0, 0) _ R8 Tryd.underlying23 rfl i23 ?_)
  have R8a : Row W8 w.heap.size _ 23 := (R6a.after N7).but B8 (by have := R6a.lt; omega)
  have R8b : Row W8 W3.heap.size _ 46 := (R6b.after N7).but B8 (by omega)
  have N8 : New w W8 := B8.new (N6'.trans N7) N6'.size
  clear R6a R6b R7 N7 B8 N6'
  refine (hc _).mono ?_
  rintro _ W9 ⟨rfl, N9⟩
  have R9a := R8a.after N9
  have R9b := R8b.after N9
  have R9c := R8.after N9
  have N9' := N8.trans N9
  clear R8a R8b R8 N8 N9 hc
  have a9 := R9a.lt
  have b9 := R9b.lt
  have c9 := R9c.lt
  have l9 := N9'.size
  have h3 := l3
  cases ok
  · go_wp2_with (first
      | (refine wpList_alloc_at (by rfl) 8 (by rfl) 46 (by rfl) _ _ _ info46 ?_; intro W10 R10 N10)
      | (refine wpList_store_new (by rfl) 46 _ _ (by rfl) W9.heap.size c2 (by rfl) (by rfl) 46 _ R10 s2 s4 o2 ?_; intro W11 R11 B11; have R11a : Row W11 w.heap.size noPg 23 := (R9a.after N10).but B11 (by omega); have R11b : Row W11 W3.heap.size _ 46 := (R9b.after N10).but B11 (by omega); have R11c : Row W11 W6.heap.size _ 23 := (R9c.after N10).but B11 (by omega); have N11 : New w W11 := B11.new (N9'.trans N10) l9)
      | refine wpList_load_want (by rfl) 46 _ (by rfl) W3.heap.size (by rfl) 46 c1 _ R11b Tryd.underlying46 rfl s1 ?_
      | refine wpList_load_want (by rfl) 46 _ (by rfl) W9.heap.size (by rfl) 46 c2 _ R11 Tryd.underlying46 rfl s2 ?_
      | refine wpList_build0 (by rfl) 23 (by rfl) noPg built23_none ?_
      | (refine wpList_store_new (by rfl) 23 _ _ (by rfl) w.heap.size noPg (by rfl) (by rfl) 23 noPg R11a i23 rfl (pg_all _ _ _) ?_; intro W12 R12 B12))
    exact bodyPost_ret (results_cell_tmp rfl _ _ w.heap.size 23 noPg (0, 0) _ (.int .i64 6) rfl rfl R12 Tryd.underlying23 rfl i23) rfl ⟨by rw [HO.out]; rfl, B12.new N11 (Nat.le_refl _)⟩
  cases E
  · go_wp2_with (first
      | (refine wpList_alloc_at (by rfl) 8 (by rfl) 46 (by rfl) _ _ _ info46 ?_; intro W10 R10 N10)
      | (refine wpList_store_new (by rfl) 46 _ _ (by rfl) W9.heap.size c2 (by rfl) (by rfl) 46 _ R10 s2 s4 o2 ?_; intro W11 R11 B11; have R11a : Row W11 w.heap.size noPg 23 := (R9a.after N10).but B11 (by omega); have R11b : Row W11 W3.heap.size _ 46 := (R9b.after N10).but B11 (by omega); have R11c : Row W11 W6.heap.size _ 23 := (R9c.after N10).but B11 (by omega); have N11 : New w W11 := B11.new (N9'.trans N10) l9)
      | refine wpList_load_want (by rfl) 46 _ (by rfl) W3.heap.size (by rfl) 46 c1 _ R11b Tryd.underlying46 rfl s1 ?_
      | refine wpList_load_want (by rfl) 46 _ (by rfl) W9.heap.size (by rfl) 46 c2 _ R11 Tryd.underlying46 rfl s2 ?_
      | refine wpList_build0 (by rfl) 23 (by rfl) noPg built23_none ?_
      | (refine wpList_store_new (by rfl) 23 _ _ (by rfl) w.heap.size noPg (by rfl) (by rfl) 23 noPg R11a i23 rfl (pg_all _ _ _) ?_; intro W12 R12 B12))
    exact bodyPost_ret (results_cell_tmp rfl _ _ w.heap.size 23 noPg (0, 0) _ (.int .i64 6) rfl rfl R12 Tryd.underlying23 rfl i23) rfl ⟨by rw [HO.out]; rfl, B12.new N11 (Nat.le_refl _)⟩
  · go_wp2_with (first
      | (refine wpList_alloc_at (by rfl) 8 (by rfl) 46 (by rfl) _ _ _ info46 ?_; intro W10 R10 N10)
      | (refine wpList_store_new (by rfl) 46 _ _ (by rfl) W9.heap.size c2 (by rfl) (by rfl) 46 _ R10 s2 s4 o2 ?_; intro W11 R11 B11; have R11a : Row W11 w.heap.size noPg 23 := (R9a.after N10).but B11 (by omega); have R11b : Row W11 W3.heap.size _ 46 := (R9b.after N10).but B11 (by omega); have R11c : Row W11 W6.heap.size _ 23 := (R9c.after N10).but B11 (by omega); have N11 : New w W11 := B11.new (N9'.trans N10) l9)
      | refine wpList_load_want (by rfl) 46 _ (by rfl) W3.heap.size (by rfl) 46 c1 _ R11b Tryd.underlying46 rfl s1 ?_
      | refine wpList_load_want (by rfl) 46 _ (by rfl) W9.heap.size (by rfl) 46 c2 _ R11 Tryd.underlying46 rfl s2 ?_
      | refine wpList_load_row (by rfl) 23 _ (by rfl) W6.heap.size (by rfl) 23 _ (0, 0) _ R11c Tryd.underlying23 rfl i23 ?_
      | (refine wpList_store_new (by rfl) 23 _ _ (by rfl) w.heap.size #[.int .i64 (k : Int), .int .i64 (g : Int), .string pay] (by rfl) (by rfl) 23 noPg R11a i23 rfl (pg_all _ _ _) ?_; intro W12 R12 B12))
    exact bodyPost_ret (results_cell_tmp rfl _ _ w.heap.size 23 #[.int .i64 (k : Int), .int .i64 (g : Int), .string pay] (0, 0) _ (.int .i64 0) rfl rfl R12 Tryd.underlying23 rfl i23) rfl ⟨by rw [HO.out]; rfl, B12.new N11 (Nat.le_refl _)⟩

/-- Get of bytes that are right, at a number: the frame that they hold, held against the one that Put lays down. -/
theorem get_yes (k n g : Nat) (hk1 : 1 ≤ k) (hk2 : k < 256) (hn : n < 65536) (hg : g < 2147483648) (s : ByteArray) (hs : s.size ≤ 243) (w : World) (hT : Tab w) :
    Calls Tryd.prog 9 #[.string (bs (pageB (frOf k n g (L s)))), .int .i64 (n : Int)] w fun e w' => e = .returned (.tuple #[.agg #[.int .i64 (k : Int), .int .i64 (g : Int), .string s], .int .i64 0]) ∧ New w w' := by
  have hL : (L s).length ≤ 243 := by rw [L_size]; exact hs
  have hO : (frOf k n g (L s)).Ok := frOf_ok hk2 hn (by omega) hL
  have hpay : bs (payOf (frOf k n g (L s))) = s := by rw [payOf_frOf hL, bs_L]
  have := get_core (bs (pageB (frOf k n g (L s)))) (by rw [L_bs]; exact right_page hO.p) (n : Int) (frOf k n g (L s)) (by rw [L_bs]; exact in_page hO) (frOf k n g (L s)) hO.p true (fun w => by
    rw [hpay]
    exact frameOf_yes k n g hk1 hk2 hn hg s hs w) w hT
  rw [hpay, if_pos (by rw [(eqFr_iff _ _).2 rfl]; rfl)] at this
  exact this
theorem get_no (b : ByteArray) (a : Int) (h : ∀ (k n g : Nat) (s : ByteArray), 1 ≤ k → k < 256 → n < 65536 → a = (n : Int) → g < 2147483648 → s.size ≤ 243 → b ≠ bs (pageB (frOf k n g (L s)))) (w : World) (hT : Tab w) :
    Calls Tryd.prog 9 #[.string b, .int .i64 a] w fun e w' => e = .returned (.tuple #[.agg #[.int .i64 0, .int .i64 0, .string ⟨#[]⟩], .int .i64 6]) ∧ New w w' := by
  by_cases hR : Right (L b)
  · by_cases hF : Fits ((frIn (L b)).k : Int) a ((frIn (L b)).g : Int) ((bs (payOf (frIn (L b)))).size : Int)
    · obtain ⟨h1, h2, h3, h4, h5, h6, h7⟩ := hF
      obtain ⟨n, rfl⟩ : ∃ n : Nat, a = (n : Int) := ⟨a.toNat, by omega⟩
      have hs : (bs (payOf (frIn (L b)))).size ≤ 243 := by omega
      have := get_core b hR (n : Int) (frIn (L b)) rfl (frOf (frIn (L b)).k n (frIn (L b)).g (L (bs (payOf (frIn (L b)))))) (frOf_ok (by omega) (by omega) (by omega) (by rw [L_size]; exact hs)).p true (fun w => frameOf_yes _ n _ (by omega) (by omega) (by omega) (by omega) _ hs w) w hT
      rw [if_neg] at this
      · exact this
      · intro h8
        rw [Bool.true_and] at h8
        have h9 := (eqFr_iff _ _).1 h8
        refine h (frIn (L b)).k n (frIn (L b)).g (bs (payOf (frIn (L b)))) (by omega) (by omega) (by omega) rfl (by omega) hs ?_
        rw [← h9]
        exact eq_of_L (by rw [L_bs]; exact right_in hR)
    · have := get_core b hR a (frIn (L b)) rfl noFr zeros_length false (fun w => frameOf_no _ a _ _ hF w) w hT
      rw [if_neg (by rw [Bool.false_and]; exact Bool.false_ne_true)] at this
      exact this
  · exact get_wrong b hR a w hT

end Go.Proofs.YtlbnikkpfhclgaaDoor
