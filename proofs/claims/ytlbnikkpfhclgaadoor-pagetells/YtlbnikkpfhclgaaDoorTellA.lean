/-
  PageTells, walked: the program's Put, Get and Right beside the document's own.
-/
import Derived.Test.YtlbnikkpfhclgaaDoorRefC
namespace Go.Proofs.YtlbnikkpfhclgaaDoor
open Go.RowKit

theorem wpList_load_midw {P : Program} {ops : Array Oper} {rest : List Oper} {o : Oper} {a : Act} {w : World} {Q : Exit → Act → World → Prop} (hw : Region.wanted o (yielded ops a.tmps) = true) (ty : TypeId) (x : Operand) (ho : o.op = .load ty x)
    (b off : Nat) (hx : a.eval x = .pointer (some ⟨b, off, none⟩)) (cs : List Value) (d : TypeDesc) (hc : w.rangeAt b off cs)
    (hu : P.underlying ty = some d) (hd : d.isRow = true) (hi : (P.info? ty).map (·.size) = some cs.length)
    (h : wpList P ops Q rest (a.put o.dst (.agg cs.toArray)) w) : wpList P ops Q (o :: rest) a w :=
  BigFrame.wpList_want hw fun _ hK => wp_load_mid ty x ho b off hx cs d hc hu hd hi (hK _ _ h)

theorem nats_of_fits {k a g n : Int} (h : Fits k a g n) : ∃ k' a' g' : Nat, k = (k' : Int) ∧ a = (a' : Int) ∧ g = (g' : Int) ∧ 1 ≤ k' ∧ k' < 256 ∧ a' < 65536 ∧ g' < 2147483648 := by
  obtain ⟨h1, h2, h3, h4, h5, h6, h7⟩ := h
  exact ⟨k.toNat, a.toNat, g.toNat, by omega, by omega, by omega, by omega, by omega, by omega, by omega⟩
theorem put_both (k g a : Int) (s : ByteArray) : ∃ (t : ByteArray) (ok : Bool), (t.toList == []) = !ok ∧
    (∀ w, Tab w → Calls Tryd.prog 7 #[.agg #[.int .i64 k, .int .i64 g, .string s], .int .i64 a] w fun e w' => e = .returned (.tuple #[.string t, .bool ok]) ∧ New w w') ∧
    (∀ w, Calls Tryd.prog 8 #[.agg #[.int .i64 k, .int .i64 g, .string s], .int .i64 a] w fun e w' => e = .returned (.string t) ∧ New w w') := by
  by_cases h : Fits k a g (s.size : Int)
  · have hs : s.size ≤ 243 := by have := h.n; omega
    obtain ⟨k, a, g, rfl, rfl, rfl, h1, h2, h3, h4⟩ := nats_of_fits h
    refine ⟨bs (pageB (frOf k a g (L s))), true, ?_, fun w hT => put_yes k a g h1 h2 h3 h4 s hs w hT, fun w => refPut_yes k a g h1 h2 h3 h4 s hs w⟩
    have hl := pageB_length (frOf_ok h2 h3 (by omega) (by rw [L_size]; exact hs) : (frOf k a g (L s)).Ok).p
    rw [ByteArray.toList_eq]
    show ((pageB (frOf k a g (L s))) == []) = false
    rw [beq_eq_false_iff_ne]
    intro e
    rw [e] at hl
    cases hl
  · exact ⟨⟨#[]⟩, false, by rw [ByteArray.toList_eq]; rfl, fun w _ => put_no k a g s h w, fun w => refPut_no k a g s h w⟩
theorem get_both (b : ByteArray) (a : Int) : ∃ (k g : Int) (s : ByteArray) (ok : Bool) (o : Int), (ok = true ∧ o = 0 ∨ ok = false ∧ o = 6) ∧
    (∀ w, Tab w → Calls Tryd.prog 9 #[.string b, .int .i64 a] w fun e w' => e = .returned (.tuple #[.agg #[.int .i64 k, .int .i64 g, .string s], .int .i64 o]) ∧ New w w') ∧
    (∀ w, Calls Tryd.prog 10 #[.string b, .int .i64 a] w fun e w' => e = .returned (.agg #[.int .i64 k, .int .i64 g, .string s, .bool ok]) ∧ New w w') := by
  by_cases h : ∃ (k n g : Nat) (s : ByteArray), 1 ≤ k ∧ k < 256 ∧ n < 65536 ∧ a = (n : Int) ∧ g < 2147483648 ∧ s.size ≤ 243 ∧ b = bs (pageB (frOf k n g (L s)))
  · obtain ⟨k, n, g, s, h1, h2, h3, rfl, h4, h5, rfl⟩ := h
    exact ⟨k, g, s, true, 0, .inl ⟨rfl, rfl⟩, fun w hT => get_yes k n g h1 h2 h3 h4 s h5 w hT, fun w => refGet_yes k n g h1 h2 h3 h4 s h5 w⟩
  · have hno : ∀ (k n g : Nat) (s : ByteArray), 1 ≤ k → k < 256 → n < 65536 → a = (n : Int) → g < 2147483648 → s.size ≤ 243 → b ≠ bs (pageB (frOf k n g (L s))) := fun k n g s h1 h2 h3 h4 h5 h6 e => h ⟨k, n, g, s, h1, h2, h3, h4, h5, h6, e⟩
    exact ⟨0, 0, ⟨#[]⟩, false, 6, .inr ⟨rfl, rfl⟩, fun w hT => get_no b a hno w hT, fun w => refGet_no b a hno w⟩

set_option maxRecDepth 20000 in
set_option maxHeartbeats 4000000 in
theorem tells_great (k g a : Int) (s b : ByteArray) (h : 1000 < s.size ∨ 1000 < b.size) (w : World) (hT : Tab w) :
    Calls Tryd.prog 3 #[.agg #[.int .i64 k, .int .i64 g, .string s], .int .i64 a, .string b] w fun e w' => e = .returned (.bool true) ∧ New w w' := by
  by_cases h1 : 1000 < s.size
  · have d1 : decide ((1000 : Int) < (s.size : Int)) = true := decide_eq_true (by omega)
    clear h
    go_enter Tryd.func3, Tryd.ntmps3
    go_wp2_with (refine wpList_box_at (by rfl) 3 (by rfl) 23 _ (by rfl) _ (by rfl) ?_; intro W1 R1 N1; have c2 := R1.has 2 (by rfl))
    refine (wakes_any _ (hT.after N1)).mono ?_
    rintro _ W2 ⟨rfl, N2⟩
    go_wp2_with fail
    go_ret
    exact ⟨rfl, N1.trans N2⟩
  · have d1 : decide ((1000 : Int) < (s.size : Int)) = false := decide_eq_false (by omega)
    have d2 : decide ((1000 : Int) < (b.size : Int)) = true := decide_eq_true (by omega)
    clear h
    go_enter Tryd.func3, Tryd.ntmps3
    go_wp2_with (refine wpList_box_at (by rfl) 3 (by rfl) 23 _ (by rfl) _ (by rfl) ?_; intro W1 R1 N1; have c2 := R1.has 2 (by rfl))
    refine (wakes_any _ (hT.after N1)).mono ?_
    rintro _ W2 ⟨rfl, N2⟩
    go_wp2_with fail
    go_ret
    exact ⟨rfl, N1.trans N2⟩

set_option maxRecDepth 20000 in
set_option maxHeartbeats 8000000 in
theorem tells_small (k g a : Int) (s b : ByteArray) (h1 : s.size ≤ 1000) (h2 : b.size ≤ 1000) (w : World) (hT : Tab w) :
    Calls Tryd.prog 3 #[.agg #[.int .i64 k, .int .i64 g, .string s], .int .i64 a, .string b] w fun e w' => e = .returned (.bool true) ∧ New w w' := by
  have d1 : decide ((1000 : Int) < (s.size : Int)) = false := decide_eq_false (by omega)
  have d2 : decide ((1000 : Int) < (b.size : Int)) = false := decide_eq_false (by omega)
  obtain ⟨t, ok, hne, p1, p2⟩ := put_both k g a s
  obtain ⟨k', g', s', ok', o', hok, q1, q2⟩ := get_both b a
  have r1 := fun w hT => right_any b w hT
  have r2 := fun w => refRight_any b w
  generalize rightB (L b) = rr at *
  have heq : ∀ w, (Op.equalIn 10000 23 (.agg #[.int .i64 k', .int .i64 g', .string s']) (.agg #[.int .i64 k', .int .i64 g', .string s'])).run Tryd.prog w = .ok true w := fun w => by
    rw [eq_pages, eqPg_self]
  have gd := guard23
  clear h1 h2
  go_enter Tryd.func3, Tryd.ntmps3
  go_wp2_with (first
    | (refine wpList_box_at (by rfl) 3 (by rfl) 23 _ (by rfl) _ (by rfl) ?_; intro W1 R1 N1; have c2 := R1.has 2 (by rfl))
    | refine wpList_load_row (by rfl) 23 _ (by rfl) w.heap.size (by rfl) 23 _ (0, 0) _ R1 Tryd.underlying23 rfl i23 ?_)
  refine (p1 _ (hT.after N1)).mono ?_
  rintro _ W2 ⟨rfl, N2⟩
  have R2 := R1.after N2
  have N2' := N1.trans N2
  clear R1 N1 N2 c2 p1 d1 d2
  go_wp2_with (refine wpList_load_row (by rfl) 23 _ (by rfl) w.heap.size (by rfl) 23 _ (0, 0) _ R2 Tryd.underlying23 rfl i23 ?_)
  refine (p2 _).mono ?_
  rintro _ W3 ⟨rfl, N3⟩
  have N3' := N2'.trans N3
  clear R2 N2' N3 p2
  go_wp2_with fail
  refine (q1 _ (hT.after N3')).mono ?_
  rintro _ W4 ⟨rfl, N4⟩
  have N4' := N3'.trans N4
  clear N3' N4 q1
  go_wp2_with (first
    | (refine wpList_alloc_at (by rfl) 10 (by rfl) 23 (by rfl) _ _ _ info23 ?_; intro W5 R5 N5)
    | (refine wpList_store_new (by rfl) 23 _ _ (by rfl) W4.heap.size #[.int .i64 k', .int .i64 g', .string s'] (by rfl) (by rfl) 23 noPg R5 i23 rfl (pg_all _ _ _) ?_; intro W6 R6 B6))
  have N6 : New w W6 := B6.new (N4'.trans N5) N4'.size
  clear R5 N5 B6 N4'
  refine (q2 _).mono ?_
  rintro _ W7 ⟨rfl, N7⟩
  have R7 := R6.after N7
  have N7' := N6.trans N7
  have l7 := R7.lt
  clear R6 N6 N7 q2
  rcases hok with ⟨rfl, rfl⟩ | ⟨rfl, rfl⟩
  · go_wp2_with (first
      | (refine wpList_alloc_at (by rfl) 12 (by rfl) 32 (by rfl) _ _ _ info32 ?_; intro W8 R8 N8)
      | (refine wpList_store_new (by rfl) 32 _ _ (by rfl) W7.heap.size #[.int .i64 k', .int .i64 g', .string s', .bool true] (by rfl) (by rfl) 32 noGot R8 i32 rfl (got_all _ _ _ _) ?_; intro W9 R9 B9; have R9a : Row W9 W4.heap.size #[.int .i64 k', .int .i64 g', .string s'] 23 := (R7.after N8).but B9 (by omega); have N9 : New w W9 := B9.new (N7'.trans N8) N7'.size; have hr9 : W9.rangeAt W7.heap.size 0 [.int .i64 k', .int .i64 g', .string s'] := R9.range 0 3; have hb9 := R9.has 3 (by rfl))
      | refine wpList_load_want (by rfl) 23 (.tmp 10) (by rfl) W4.heap.size (by rfl) 23 _ _ R9a Tryd.underlying23 rfl i23 ?_
      | refine wpList_load_midw (by rfl) 23 (.tmp 52) (by rfl) W7.heap.size 0 (by rfl) [.int .i64 k', .int .i64 g', .string s'] _ hr9 Tryd.underlying23 rfl i23 ?_)
    refine (r1 _ (hT.after N9)).mono ?_
    rintro _ W10 ⟨rfl, N10⟩
    go_wp2_with fail
    refine (r2 _).mono ?_
    rintro _ W11 ⟨rfl, N11⟩
    have N11' := (N9.trans N10).trans N11
    go_wp2_with fail
    refine (wakes_any _ (hT.after N11')).mono ?_
    rintro _ W12 ⟨rfl, N12⟩
    go_wp2_with fail
    go_ret
    exact ⟨rfl, N11'.trans N12⟩
  · go_wp2_with (first
      | (refine wpList_alloc_at (by rfl) 12 (by rfl) 32 (by rfl) _ _ _ info32 ?_; intro W8 R8 N8)
      | (refine wpList_store_new (by rfl) 32 _ _ (by rfl) W7.heap.size #[.int .i64 k', .int .i64 g', .string s', .bool false] (by rfl) (by rfl) 32 noGot R8 i32 rfl (got_all _ _ _ _) ?_; intro W9 R9 B9; have R9a : Row W9 W4.heap.size #[.int .i64 k', .int .i64 g', .string s'] 23 := (R7.after N8).but B9 (by omega); have N9 : New w W9 := B9.new (N7'.trans N8) N7'.size; have hr9 : W9.rangeAt W7.heap.size 0 [.int .i64 k', .int .i64 g', .string s'] := R9.range 0 3; have hb9 := R9.has 3 (by rfl))
      | refine wpList_load_want (by rfl) 23 (.tmp 10) (by rfl) W4.heap.size (by rfl) 23 _ _ R9a Tryd.underlying23 rfl i23 ?_
      | refine wpList_load_midw (by rfl) 23 (.tmp 52) (by rfl) W7.heap.size 0 (by rfl) [.int .i64 k', .int .i64 g', .string s'] _ hr9 Tryd.underlying23 rfl i23 ?_)
    refine (r1 _ (hT.after N9)).mono ?_
    rintro _ W10 ⟨rfl, N10⟩
    go_wp2_with fail
    refine (r2 _).mono ?_
    rintro _ W11 ⟨rfl, N11⟩
    have N11' := (N9.trans N10).trans N11
    go_wp2_with fail
    refine (wakes_any _ (hT.after N11')).mono ?_
    rintro _ W12 ⟨rfl, N12⟩
    go_wp2_with fail
    go_ret
    exact ⟨rfl, N11'.trans N12⟩

theorem tells_walk (k g : Int) (s : ByteArray) (a : Int) (b : ByteArray) (_ : (Lit.int .i64 k).wf = true) (_ : (Lit.int .i64 g).wf = true) (_ : s.size ≤ maxLen) (_ : (Lit.int .i64 a).wf = true) (_ : b.size ≤ maxLen) (w : World) (hT : Tab w) :
    Calls Tryd.prog 3 #[.agg #[.int .i64 k, .int .i64 g, .string s], .int .i64 a, .string b] w fun e w' => e = .returned (.bool true) ∧ New w w' := by
  by_cases h : 1000 < s.size ∨ 1000 < b.size
  · exact tells_great k g a s b h w hT
  · exact tells_small k g a s b (by omega) (by omega) w hT

end Go.Proofs.YtlbnikkpfhclgaaDoor
