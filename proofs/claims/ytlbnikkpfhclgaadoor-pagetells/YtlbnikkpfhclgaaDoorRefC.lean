/-
  What the document's own Get returns: the page of bytes that its Put tells, at its number; else none.
-/
import Derived.Test.YtlbnikkpfhclgaaDoorRefB
namespace Go.Proofs.YtlbnikkpfhclgaaDoor
open Go.RowKit

def noGot : Array Value := #[.int .i64 0, .int .i64 0, .string ⟨#[]⟩, .bool false]
theorem info32 : (Tryd.prog.info? 32).map (fun i => (i.zero, i.size, i.bytes)) = some (some (.agg #[.int .i64 0, .int .i64 0, .string ⟨#[]⟩, .bool false]), 4, 40) := by kernel_rfl
theorem i32 : (Tryd.prog.info? 32).map (·.size) = some 4 := by kernel_rfl
theorem built32_none : Tryd.prog.built 32 [] = some noGot := by kernel_rfl
theorem built32 (k g : Int) (s : ByteArray) : Tryd.prog.built 32 [(0, .agg #[.int .i64 k, .int .i64 g, .string s]), (1, .bool true)] = some #[.int .i64 k, .int .i64 g, .string s, .bool true] := by kernel_rfl
theorem got_all (k g : Int) (s : ByteArray) (b : Bool) : (#[.int .i64 k, .int .i64 g, .string s, .bool b] : Array Value).all (·.oneCell') = true := all_oneCell_toArray (cs := [.int .i64 k, .int .i64 g, .string s, .bool b]) fun v hv => by
  simp only [List.mem_cons, List.not_mem_nil, or_false] at hv
  rcases hv with rfl | rfl | rfl | rfl <;> rfl

theorem text_eq {u b : ByteArray} (h : (u.toList == b.toList) = true) : u = b := by
  rw [beq_iff_eq, ByteArray.toList_eq, ByteArray.toList_eq] at h
  exact eq_of_L h

set_option maxRecDepth 20000 in
set_option maxHeartbeats 2000000 in
theorem refGet_short (b : ByteArray) (h : ¬ b.size = 256) (a : Int) (w : World) :
    Calls Tryd.prog 10 #[.string b, .int .i64 a] w fun e w' => e = .returned (.agg noGot) ∧ New w w' := by
  have h1 : ((b.size : Int) == 256) = false := by rw [beq_eq_false_iff_ne]; omega
  have h2 : (b.size == 256) = false := by rw [beq_eq_false_iff_ne]; omega
  clear h
  go_enter Tryd.func10, Tryd.ntmps10
  go_wp2_with (first
    | (refine wpList_alloc_at (by rfl) 4 (by rfl) 32 (by rfl) _ _ _ info32 ?_; intro W1 R1 N1)
    | refine wpList_build0 (by rfl) 32 (by rfl) _ built32_none ?_
    | (refine wpList_store_new (by rfl) 32 _ _ (by rfl) w.heap.size noGot (by rfl) (by rfl) 32 noGot R1 i32 rfl (got_all _ _ _ _) ?_; intro W2 R2 B2))
  exact bodyPost_ret (results_cell_row rfl _ _ w.heap.size 32 noGot (0, 0) _ rfl R2 Tryd.underlying32 rfl i32) rfl ⟨rfl, B2.new N1 (Nat.le_refl _)⟩

/-- The pieces of bytes that Get reads. -/
theorem pieces (b : ByteArray) (hb : b.size = 256) : beN (L (b.extract 0 1)) = (frIn (L b)).k ∧ beN (L (b.extract 3 7)) = (frIn (L b)).g ∧ beN (L (b.extract 7 9)) = (frIn (L b)).s ∧ ∀ m, m = (frIn (L b)).s → m ≤ 243 → b.extract 9 (9 + m) = bs (payOf (frIn (L b))) := by
  have hl : (L b).length = 256 := by rw [L_size]; exact hb
  obtain ⟨a0, a1, a2, a3, a4, a5, a6, a7, a8, t, e⟩ := nine (l := L b) (by omega)
  rw [L_extract, L_extract, L_extract, e, frIn_nine]
  refine ⟨?_, rfl, rfl, fun m hm hm2 => eq_of_L ?_⟩
  · show 0 * 256 + a0.toNat = a0.toNat
    omega
  · rw [L_extract, L_bs, e]
    show _ = (t.take 243).take (min (beN [a7, a8]) 243)
    rw [List.take_take, show min (min (beN [a7, a8]) 243) 243 = m by simp only at hm; omega, Nat.add_comm 9 m]
    rfl

set_option maxRecDepth 20000 in
set_option maxHeartbeats 2000000 in
theorem refGet_great (b : ByteArray) (hb : b.size = 256) (h : 243 < (frIn (L b)).s) (a : Int) (w : World) :
    Calls Tryd.prog 10 #[.string b, .int .i64 a] w fun e w' => e = .returned (.agg noGot) ∧ New w w' := by
  obtain ⟨_, _, h3, _⟩ := pieces b hb
  have hj := fun w => num_core (b.extract 7 9) (by rw [← L_size, L_extract, List.length_drop, List.length_take, L_size]; omega) _ h3 w
  have hd : decide ((243 : Int) < ((frIn (L b)).s : Int)) = true := decide_eq_true (by omega)
  generalize (frIn (L b)).s = m at *
  clear h3
  go_enter Tryd.func10, Tryd.ntmps10
  go_wp2_with (refine wpList_alloc_at (by rfl) 4 (by rfl) 32 (by rfl) _ _ _ info32 ?_; intro W1 R1 N1)
  refine (hj _).mono ?_
  rintro _ w2 ⟨rfl, rfl⟩
  go_wp2_with (first
    | refine wpList_build0 (by rfl) 32 (by rfl) _ built32_none ?_
    | (refine wpList_store_new (by rfl) 32 _ _ (by rfl) w.heap.size noGot (by rfl) (by rfl) 32 noGot R1 i32 rfl (got_all _ _ _ _) ?_; intro W2 R2 B2))
  exact bodyPost_ret (results_cell_row rfl _ _ w.heap.size 32 noGot (0, 0) _ rfl R2 Tryd.underlying32 rfl i32) rfl ⟨rfl, B2.new N1 (Nat.le_refl _)⟩

set_option maxRecDepth 20000 in
set_option maxHeartbeats 4000000 in
theorem refGet_core (b : ByteArray) (hb : b.size = 256) (a : Int) (f : Fr) (hf : frIn (L b) = f) (hm : f.s ≤ 243) (u : ByteArray)
    (hput : ∀ w, Calls Tryd.prog 8 #[.agg #[.int .i64 (f.k : Int), .int .i64 (f.g : Int), .string (bs (payOf f))], .int .i64 a] w fun e w' => e = .returned (.string u) ∧ New w w') (w : World) :
    Calls Tryd.prog 10 #[.string b, .int .i64 a] w fun e w' => e = .returned (.agg (if (u.toList == b.toList) = true then #[.int .i64 (f.k : Int), .int .i64 (f.g : Int), .string (bs (payOf f)), .bool true] else noGot)) ∧ New w w' := by
  obtain ⟨h0, h1, h2, h3⟩ := pieces b hb
  rw [hf] at h0 h1 h2 h3
  have h3' := h3 f.s rfl hm
  have sz : ∀ i j, j ≤ 256 → i ≤ j → j - i ≤ 4 → (b.extract i j).size ≤ 4 := fun i j h1 h2 h3 => by
    rw [← L_size, L_extract, List.length_drop, List.length_take, L_size]; omega
  have j0 := fun w => num_core (b.extract 0 1) (sz 0 1 (by decide) (by decide) (by decide)) _ h0 w
  have j1 := fun w => num_core (b.extract 3 7) (sz 3 7 (by decide) (by decide) (by decide)) _ h1 w
  have j2 := fun w => num_core (b.extract 7 9) (sz 7 9 (by decide) (by decide) (by decide)) _ h2 w
  have hd : decide ((243 : Int) < (f.s : Int)) = false := decide_eq_false (by omega)
  obtain ⟨q, hq⟩ : ∃ q, 9 + f.s = q := ⟨_, rfl⟩
  have hqI : (9 : Int) + (f.s : Int) = (q : Int) := by omega
  have hql : q ≤ 256 := by omega
  have hq9 : 9 ≤ q := by omega
  rw [hq] at h3'
  obtain ⟨E, hE⟩ : ∃ E, (u.toList == b.toList) = E := ⟨_, rfl⟩
  obtain ⟨out, hout⟩ : ∃ out : Array Value, (if (u.toList == b.toList) = true then #[.int .i64 (f.k : Int), .int .i64 (f.g : Int), .string (bs (payOf f)), .bool true] else noGot) = out := ⟨_, rfl⟩
  rw [hout]
  rw [hE] at hout
  have HO : Hid (out = if E = true then #[.int .i64 (f.k : Int), .int .i64 (f.g : Int), .string (bs (payOf f)), .bool true] else noGot) := hout.symm
  clear hout h0 h1 h2 h3 sz hf hm hq
  generalize bs (payOf f) = pay at *
  generalize f.k = k at *
  generalize f.g = g at *
  generalize f.s = m at *
  obtain ⟨x1, hx1⟩ : ∃ x, b.extract 0 1 = x := ⟨_, rfl⟩
  obtain ⟨x2, hx2⟩ : ∃ x, b.extract 3 7 = x := ⟨_, rfl⟩
  obtain ⟨x3, hx3⟩ : ∃ x, b.extract 7 9 = x := ⟨_, rfl⟩
  rw [hx1] at j0
  rw [hx2] at j1
  rw [hx3] at j2
  go_enter Tryd.func10, Tryd.ntmps10
  go_wp2_with (refine wpList_alloc_at (by rfl) 4 (by rfl) 32 (by rfl) _ _ _ info32 ?_; intro W1 R1 N1)
  refine (j2 _).mono ?_
  rintro _ w2 ⟨rfl, rfl⟩
  go_wp2_with fail
  have hne := NewW.ne w2
  refine wp_region_noPanic ?_
  refine wpG.region 12 (fun w' => ∃ p : NewW w2, w' = p.v) (by kernel_rfl) ?_
  have hS : ∃ p : NewW w2, w2.drew = p.v := ⟨⟨w2.drew, (New.refl w2).drewR⟩, rfl⟩
  refine wpG.reads (by kernel_rfl) (fun _ _ _ _ _ h => h) [0, 1, 3, 4, 6, 7, 8, 9] 5 _ _ _ hS (by kernel_rfl) (by kernel_rfl) ?_
  simp only [pick, List.getElem?_cons_succ, List.getElem?_cons_zero, Option.toList_some, List.cons_append, List.nil_append]
  repeat (go_big_quiet_step (fail))
  refine wpQuiet_nil ?_
  refine wpG.takeCall 2 (some 19) 22 #[.string x1] (.int .i64 (k : Int)) (by rfl) (by kernel_rfl) (fun _ _ _ h => h) (by rfl) (by rfl) hS (fun w' _ => by go_simp) (fun w' _ => j0 w') ?_
  simp only [Act.put, List.setIfInBounds_toArray, List.set_cons_zero, List.set_cons_succ]
  refine wpG.takeCall 5 (some 22) 22 #[.string x2] (.int .i64 (g : Int)) (by rfl) (by kernel_rfl) (fun _ _ _ h => h) (by rfl) (by rfl) hS (fun w' _ => by go_simp) (fun w' _ => j1 w') ?_
  simp only [Act.put, List.setIfInBounds_toArray, List.set_cons_zero, List.set_cons_succ]
  refine wpG.reads (by kernel_rfl) (fun _ _ _ _ _ h => h) [10] 2 _ _ _ hS (by kernel_rfl) (by kernel_rfl) ?_
  simp only [pick, List.getElem?_cons_succ, List.getElem?_cons_zero, Option.toList_some, List.cons_append, List.nil_append]
  refine wpQuiet_build3 (by rfl) 23 _ _ _ (by rfl) _ _ _ (by rfl) (by rfl) (by rfl) _ (built23 (k : Int) (g : Int) pay) ?_
  refine wpQuiet_nil ?_
  simp only [Act.put, List.setIfInBounds_toArray, List.set_cons_zero, List.set_cons_succ]
  refine wpG.pre (by kernel_rfl) [11] _ _ _ (by kernel_rfl) ?_
  have N2 : New w2 (w2.drew.alloc (.cells noPg 23)) := (New.drew w2).alloc _
  have R2 : Row (w2.drew.alloc (.cells noPg 23)) w2.heap.size noPg 23 := Row.new w2.drew _ _
  refine wpPre_run (some 6) (.pointer (some ⟨w2.heap.size, 0, none⟩)) (w2.drew.alloc (.cells noPg 23)) (by rfl) (by rfl) (by rfl) (exec_alloc 23 (by rfl) _ _ _ info23) ⟨⟨_, N2⟩, rfl⟩ ?_
  refine wpPre_nil ?_
  generalize w2.drew.alloc (.cells noPg 23) = W2 at N2 R2 ⊢
  simp only [pick, List.getElem?_cons_succ, List.getElem?_cons_zero, Option.toList_some, List.cons_append, List.nil_append, Act.put, List.setIfInBounds_toArray, List.set_cons_zero, List.set_cons_succ]
  refine wpList_store_new (by rfl) 23 _ _ (by rfl) w2.heap.size #[.int .i64 (k : Int), .int .i64 (g : Int), .string pay] (by rfl) (by rfl) 23 noPg R2 i23 rfl (pg_all _ _ _) ?_
  intro W3 R3 B3
  refine NoPanic.normal ?_
  simp only [Act.put]
  have l1 := R1.lt
  have R3a : Row W3 w.heap.size noGot 32 := (R1.after N2).but B3 (by omega)
  have N3 : New w W3 := B3.new (N1.trans N2) N1.size
  clear R1 R2 N2 B3 hS hne j0 j1 j2 N1
  go_wp2_with (refine wpList_load_row (by rfl) 23 _ (by rfl) w2.heap.size (by rfl) 23 _ (0, 0) _ R3 Tryd.underlying23 rfl i23 ?_)
  refine (hput _).mono ?_
  rintro _ W5 ⟨rfl, M5⟩
  have R5 := R3.after M5
  have R5a := R3a.after M5
  have N5 := N3.trans M5
  clear R3 R3a M5 N3 hput
  cases E
  · go_wp2_with (first
      | refine wpList_build0 (by rfl) 32 (by rfl) _ built32_none ?_
      | (refine wpList_store_new (by rfl) 32 _ _ (by rfl) w.heap.size noGot (by rfl) (by rfl) 32 noGot R5a i32 rfl (got_all _ _ _ _) ?_; intro W6 R6 B6))
    exact bodyPost_ret (results_cell_row rfl _ _ w.heap.size 32 noGot (0, 0) _ rfl R6 Tryd.underlying32 rfl i32) rfl ⟨by rw [HO.out]; rfl, B6.new N5 (Nat.le_refl _)⟩
  · go_wp2_with (first
      | refine wpList_load_row (by rfl) 23 _ (by rfl) w2.heap.size (by rfl) 23 _ (0, 0) _ R5 Tryd.underlying23 rfl i23 ?_
      | refine wpList_build2 (by rfl) 32 _ _ (by rfl) _ _ (by rfl) (by rfl) _ (built32 (k : Int) (g : Int) pay) ?_
      | (refine wpList_store_new (by rfl) 32 _ _ (by rfl) w.heap.size #[.int .i64 (k : Int), .int .i64 (g : Int), .string pay, .bool true] (by rfl) (by rfl) 32 noGot R5a i32 rfl (got_all _ _ _ _) ?_; intro W6 R6 B6))
    exact bodyPost_ret (results_cell_row rfl _ _ w.heap.size 32 #[.int .i64 (k : Int), .int .i64 (g : Int), .string pay, .bool true] (0, 0) _ rfl R6 Tryd.underlying32 rfl i32) rfl ⟨by rw [HO.out]; rfl, B6.new N5 (Nat.le_refl _)⟩

theorem refGet_yes (k n g : Nat) (hk1 : 1 ≤ k) (hk2 : k < 256) (hn : n < 65536) (hg : g < 2147483648) (s : ByteArray) (hs : s.size ≤ 243) (w : World) :
    Calls Tryd.prog 10 #[.string (bs (pageB (frOf k n g (L s)))), .int .i64 (n : Int)] w fun e w' => e = .returned (.agg #[.int .i64 (k : Int), .int .i64 (g : Int), .string s, .bool true]) ∧ New w w' := by
  have hL : (L s).length ≤ 243 := by rw [L_size]; exact hs
  have hO : (frOf k n g (L s)).Ok := frOf_ok hk2 hn (by omega) hL
  have hpay : bs (payOf (frOf k n g (L s))) = s := by rw [payOf_frOf hL, bs_L]
  have := refGet_core (bs (pageB (frOf k n g (L s)))) (by rw [bs_size, pageB_length hO.p]) (n : Int) (frOf k n g (L s)) (by rw [L_bs]; exact in_page hO) hL (bs (pageB (frOf k n g (L s)))) (fun w => by
    rw [hpay]
    exact refPut_yes k n g hk1 hk2 hn hg s hs w) w
  rw [hpay, if_pos (by simp)] at this
  exact this
theorem refGet_no (b : ByteArray) (a : Int) (h : ∀ (k n g : Nat) (s : ByteArray), 1 ≤ k → k < 256 → n < 65536 → a = (n : Int) → g < 2147483648 → s.size ≤ 243 → b ≠ bs (pageB (frOf k n g (L s)))) (w : World) :
    Calls Tryd.prog 10 #[.string b, .int .i64 a] w fun e w' => e = .returned (.agg noGot) ∧ New w w' := by
  by_cases hb : b.size = 256
  · by_cases hm : (frIn (L b)).s ≤ 243
    · by_cases hF : Fits ((frIn (L b)).k : Int) a ((frIn (L b)).g : Int) ((bs (payOf (frIn (L b)))).size : Int)
      · obtain ⟨h1, h2, h3, h4, h5, h6, h7⟩ := hF
        obtain ⟨n, rfl⟩ : ∃ n : Nat, a = (n : Int) := ⟨a.toNat, by omega⟩
        have hs : (bs (payOf (frIn (L b)))).size ≤ 243 := by omega
        have hne := h (frIn (L b)).k n (frIn (L b)).g (bs (payOf (frIn (L b)))) (by omega) (by omega) (by omega) rfl (by omega) hs
        have := refGet_core b hb (n : Int) (frIn (L b)) rfl hm _ (fun w => refPut_yes _ n _ (by omega) (by omega) (by omega) (by omega) _ hs w) w
        rw [if_neg] at this
        · exact this
        · intro h8
          exact hne (text_eq h8).symm
      · have := refGet_core b hb a (frIn (L b)) rfl hm ⟨#[]⟩ (fun w => refPut_no _ a _ _ hF w) w
        rw [if_neg] at this
        · exact this
        · intro h8
          rw [← text_eq h8] at hb
          exact absurd hb (by decide)
    · exact refGet_great b hb (by omega) a w
  · exact refGet_short b hb a w

end Go.Proofs.YtlbnikkpfhclgaaDoor
