/-
  TriePrefix's walk: whatever pairs and byte, the call returns true, where the table of upper halves lies as its initialiser lays it.
-/
import Derived.Test.YtelaiblhnhbgiaaDoorPreM
import Derived.Test.YtelaiblhnhbgiaaDoorBackA
namespace Go.Proofs.YtelaiblhnhbgiaaDoor
open Go.RowKit
set_option maxRecDepth 20000

/-- The worlds in which two cells of a block have these values. -/
structure CellsW (g o : Nat) (x y : Value) where
  v : World
  h0 : v.cell? ⟨g, o, none⟩ = some x
  h1 : v.cell? ⟨g, o + 1, none⟩ = some y
def HasC (g o : Nat) (x y : Value) (w : World) : Prop := ∃ q : CellsW g o x y, w = q.v
theorem HasC.of {g o : Nat} {x y : Value} {w : World} (h : w.cell? ⟨g, o, none⟩ = some x) (k : w.cell? ⟨g, o + 1, none⟩ = some y) : HasC g o x y w := ⟨⟨w, h, k⟩, rfl⟩
theorem HasC.new {g o : Nat} {x y : Value} {w w' : World} (h : HasC g o x y w) (hb : g < w.heap.size) (n : New w w') : HasC g o x y w' := by
  obtain ⟨⟨_, h0, h1⟩, rfl⟩ := h
  exact HasC.of ((n.cell hb).trans h0) ((n.cell hb).trans h1)
section
variable {P : Program} {o : Oper} {a : Act} {w : World}
theorem exec_convert {s t : TypeId} {x : Operand} {u v : Value} (ho : o.op = .convert s t x) (hx : a.eval x = u) (hr : (convert s t u).run P w = .ok v w) : (execOp a.eval o).run P w = .ok (.value v) w := by
  unfold execOp
  simp only [ho, hx, Sem.run_bind, hr, Result.andThen_ok, Sem.run_pure]
end
theorem info5' : (Tryd.prog.info? 5).map (fun i => (i.zero, i.size, i.bytes)) = some (some (.int .u8 0), 1, 1) := info5

set_option maxHeartbeats 4000000 in
theorem prefix_any {w : World} {v : Value} {l : List Pr} {y : UInt8} (P : Ls w 2 v (l.map prC)) (hl : l.length ≤ maxLen) (hT : Tab w) :
    Calls Tryd.prog 6 #[v, .int .u8 (y.toNat : Int)] w fun e w' => e = .returned (.bool true) ∧ New w w' := by
  unfold maxLen at hl
  have hlp := longPairs_any P (by omega)
  have HT : Hid (Tab w) := hT
  obtain ⟨b1, hb1⟩ : ∃ b, longB lenP 3000 ([], []) l = b := ⟨_, rfl⟩
  rw [hb1] at hlp
  have HB1 : Hid (longB lenP 3000 ([], []) l = b1) := hb1
  have HP : Hid (Ls w 2 v (l.map prC)) := P
  clear hb1 P hT
  cases b1
  case true =>
    go_enter Tryd.func6, Tryd.ntmps6
    go_wp2_with fail
    refine Calls.mono hlp ?_
    rintro _ W1 ⟨rfl, N1⟩
    have hw := wakes_any W1 (HT.out.kept N1)
    clear hlp
    go_wp2_with fail
    refine Calls.mono hw ?_
    rintro _ W2 ⟨rfl, N2⟩
    clear hw
    go_wp2_with fail
    go_ret
    exact ⟨rfl, N1.trans N2⟩
  obtain ⟨hs1, hs2⟩ := prs_of HB1.out
  obtain ⟨mb, hmb⟩ : ∃ b, mayB l = b := ⟨_, rfl⟩
  have HMB : Hid (mayB l = mb) := hmb
  have hmay := fun {w1 : World} (n : New w w1) => refMay_any (HP.out.after n) (by omega) hs2
  rw [hmb] at hmay
  have HS : Hid (∀ p ∈ l, p.1.length ≤ 4000 ∧ p.2.length ≤ 4000) := hs2
  clear hmb hs2
  cases mb
  case false =>
    go_enter Tryd.func6, Tryd.ntmps6
    go_wp2_with fail
    refine Calls.mono hlp ?_
    rintro _ W1 ⟨rfl, N1⟩
    have hm := hmay N1
    clear hlp hmay
    go_wp2_with fail
    refine Calls.mono hm ?_
    rintro _ W2 ⟨rfl, N2⟩
    have N2' := N1.trans N2
    have hw := wakes_any W2 (HT.out.kept N2')
    clear hm N1 N2
    go_wp2_with fail
    refine Calls.mono hw ?_
    rintro _ W3 ⟨rfl, N3⟩
    clear hw
    go_wp2_with fail
    go_ret
    exact ⟨rfl, N2'.trans N3⟩
  obtain ⟨a, c, rfl, hc, HA⟩ := HP.out.open ([], [])
  by_cases hl0 : l.length = 0
  · have hd0 : ((l.length : Int) == 0) = true := by rw [hl0]; rfl
    clear hl0
    go_enter Tryd.func6, Tryd.ntmps6
    go_wp2_with fail
    refine Calls.mono hlp ?_
    rintro _ W1 ⟨rfl, N1⟩
    have hm := hmay N1
    clear hlp hmay
    go_wp2_with fail
    refine Calls.mono hm ?_
    rintro _ W2 ⟨rfl, N2⟩
    have N2' := N1.trans N2
    have hw := wakes_any W2 (HT.out.kept N2')
    clear hm N1 N2
    go_wp2_with fail
    refine Calls.mono hw ?_
    rintro _ W3 ⟨rfl, N3⟩
    clear hw
    go_wp2_with fail
    go_ret
    exact ⟨rfl, N2'.trans N3⟩
  have hd0 : ((l.length : Int) == 0) = false := by rw [beq_eq_false_iff_ne]; omega
  have HL0 : Hid (l.length ≠ 0) := hl0
  clear hl0
  go_enter Tryd.func6, Tryd.ntmps6
  go_wp2_with fail
  refine Calls.mono hlp ?_
  rintro _ W1 ⟨rfl, N1⟩
  have hm := hmay N1
  clear hlp hmay
  go_wp2_with fail
  refine Calls.mono hm ?_
  rintro _ W0 ⟨rfl, N2⟩
  have N0 := N1.trans N2
  clear hm N1 N2
  go_wp2_with fail
  go_loopw [5, 6] (fun s i wr => ∃ k : Nat, k ≤ l.length ∧ i = .int .i64 (k : Int) ∧ Hid (Pl wr (Fresh w) 52 2 s (((l.take k).map (byP y)).map prC)) ∧ Hid (∀ p ∈ l.take k, p.1.length < 8) ∧ New w wr) (fun _ i _ => l.length - (intOf i).toNat)
  case atStart => exact ⟨0, by omega, rfl, Pl.nil _ _ _ _, fun p hp => by simp at hp, N0⟩
  case round =>
    clear N0
    obtain ⟨k, hk, rfl, hq, h8, N⟩ := hrel
    by_cases hlt : k < l.length
    · obtain ⟨g, o, rfl, hg, hr⟩ := HA.out (by omega)
      have R2 := hr wr N k hlt
      obtain ⟨p, hp⟩ : ∃ p, l.getD k ([], []) = p := ⟨_, rfl⟩
      have HPP : Hid (l.getD k ([], []) = p) := hp
      have hpl := HS.out _ (getD_mem (d := ([], [])) hlt)
      rw [hp] at R2 hpl
      have c0 : wr.cell? ⟨g, o + k * 2, none⟩ = some (.string (bs p.1)) := R2 0 _ rfl
      have c1 : wr.cell? ⟨g, o + k * 2 + 1, none⟩ = some (.string (bs p.2)) := R2 1 _ rfl
      have hgw : g < wr.heap.size := Nat.lt_of_lt_of_le hg N.size
      have hsz : (bs p.1).size = p.1.length := rfl
      clear hp hr R2
      by_cases hk8 : p.1.length < 8
      · have hd8 : decide ((8 : Int) ≤ ((bs p.1).size : Int)) = false := decide_eq_false (by rw [hsz]; omega)
        have H8 : Hid (p.1.length < 8) := hk8
        have hA8 : (bs p.1).size ≤ 8 := by rw [hsz]; omega
        clear hsz hk8
        go_wp2_with fail
        have hS : HasC g (o + k * 2) (.string (bs p.1)) (.string (bs p.2)) wr.drew := HasC.of c0 c1
        have hql : (((l.take k).map (byP y)).map prC).length = k := by rw [List.length_map, List.length_map, List.length_take]; omega
        clear c0 c1
        refine region_take [0, 1, 4, 5, 6, 7, 8, 10, 11, 12, 13, 14] [2, 3, 9, 15, 16, 17] 18 (HasC g (o + k * 2) (.string (bs p.1)) (.string (bs p.2))) hS (by kernel_rfl) (by kernel_rfl) (fun d _ _ _ _ h => by cases d <;> exact h) ?_
        simp only [pick, List.getElem?_cons_succ, List.getElem?_cons_zero, Option.toList_some, List.cons_append, List.nil_append]
        have hne : Nonempty (CellsW g (o + k * 2) (.string (bs p.1)) (.string (bs p.2))) := ⟨hS.choose⟩
        have q0 : ∀ q : CellsW g (o + k * 2) (.string (bs p.1)) (.string (bs p.2)), q.v.cell? ⟨g, o + k * 2, none⟩ = some (.string (bs p.1)) := fun q => q.h0
        have q1 : ∀ q : CellsW g (o + k * 2) (.string (bs p.1)) (.string (bs p.2)), q.v.cell? ⟨g, o + k * 2 + 1, none⟩ = some (.string (bs p.2)) := fun q => q.h1
        unfold HasC
        repeat (go_big_quiet_step (fail))
        refine wpQuiet_nil ?_
        clear q0 q1 hne
        have NW0 : New wr wr.drew := New.drew wr
        have hgd : g < wr.drew.heap.size := hgw
        have hb1 := run_buildCell (P := Tryd.prog) wr.drew 50 5 (.int .u8 (y.toNat : Int)) _ _ Tryd.underlying50 info5 rfl
        have R2 := Row.new wr.drew #[.int .u8 (y.toNat : Int)] 5
        have N2 : New wr.drew (wr.drew.alloc (.cells #[.int .u8 (y.toNat : Int)] 5)) := (New.refl _).alloc _
        generalize wr.drew.alloc (.cells #[.int .u8 (y.toNat : Int)] 5) = W2 at hb1 R2 N2
        have hS2 := hS.new hgd N2
        refine wpPre_run (some 41) _ W2 (by rfl) (by rfl) (by rfl) (exec_buildSlice (by rfl) (by rfl) hb1) hS2 ?_
        simp only [Act.put, List.setIfInBounds_toArray, List.set_cons_zero, List.set_cons_succ]
        have hcv := run_convert_bytes_back (P := Tryd.prog) W2 50 9 5 ⟨wr.drew.heap.size, 0, none⟩ 1 [y] Tryd.underlying50 Tryd.underlying5 Tryd.underlying9 (fun j hj => by
          simp at hj
          subst hj
          have := R2.cell 0
          simpa [Addr.add] using this)
        refine wpPre_run (some 42) (.string (bs [y])) W2 (by rfl) (by rfl) (by rfl) (exec_convert (by rfl) (by rfl) hcv) hS2 ?_
        simp only [Act.put, List.setIfInBounds_toArray, List.set_cons_zero, List.set_cons_succ]
        have hE : bs [y] ++ bs p.1 = bs (y :: p.1) := eq_of_L (by rw [L_append, L_bs, L_bs, L_bs]; rfl)
        have hy1 : (bs [y]).size ≤ 1 := Nat.le_refl _
        have hadd : ∀ w : World, (Op.stringOp .add (bs [y]) (bs p.1)).run Tryd.prog w = .ok (.string (bs (y :: p.1))) w := fun w => by
          unfold Op.stringOp
          simp only []
          rw [if_neg (by show ¬ ((((bs [y]).size + (bs p.1).size : Nat) : Int) > 9223372036854775807); omega), hE]; rfl
        refine wpPre_run (some 48) (.string (bs (y :: p.1))) W2 (by rfl) (by rfl) (by rfl) (by go_simp) hS2 ?_
        simp only [Act.put, List.setIfInBounds_toArray, List.set_cons_zero, List.set_cons_succ]
        refine wpPre_run (some 54) (.agg (prC (byP y p)).toArray) W2 (by rfl) (by rfl) (by rfl) (exec_build2 (by rfl) (by rfl) (by rfl) (run_build52 _ _ _)) hS2 ?_
        simp only [Act.put, List.setIfInBounds_toArray, List.set_cons_zero, List.set_cons_succ]
        have hb3 := run_buildOne W2 22 52 (prC (byP y p)).toArray _ _ _ Tryd.underlying22 info52 rfl (by decide) (by decide)
        have R4 := Row.new W2 (prC (byP y p)).toArray 52
        have N4 : New W2 (W2.alloc (.cells (prC (byP y p)).toArray 52)) := (New.refl W2).alloc _
        generalize W2.alloc (.cells (prC (byP y p)).toArray 52) = W4 at hb3 R4 N4
        have hg2 : g < W2.heap.size := Nat.lt_of_lt_of_le hgd N2.size
        have hS4 := hS2.new hg2 N4
        refine wpPre_run (some 55) _ W4 (by rfl) (by rfl) (by rfl) (exec_buildSlice (by rfl) (by rfl) hb3) hS4 ?_
        simp only [Act.put, List.setIfInBounds_toArray, List.set_cons_zero, List.set_cons_succ]
        have Q4 := ((hq.out.after NW0).after N2).after N4
        obtain ⟨g5, c5, W5, hap, Q5, G5⟩ := run_append_pl Q4 22 22 Tryd.underlying22 _ _ info52 rfl (by decide) W2.heap.size (prC (byP y p)) 52 R4 rfl (prC_one _) (by rw [hql]; omega) (by decide)
        rw [hql] at hap Q5
        have hS5 : HasC g (o + k * 2) (.string (bs p.1)) (.string (bs p.2)) W5 := by
          obtain ⟨⟨_, h0, h1⟩, rfl⟩ := hS4
          have hne : some g ≠ (u5 : Value).ownBlock := fun e => by
            have := hq.out.foot g e.symm
            have : w.heap.size ≤ g := this
            omega
          exact HasC.of (G5.cell h0 hne) (G5.cell h1 hne)
        refine wpPre_run (some 56) _ W5 (by rfl) (by rfl) (by rfl) (exec_append (by rfl) (by rfl) (by rfl) hap) hS5 ?_
        simp only [Act.put, List.setIfInBounds_toArray, List.set_cons_zero, List.set_cons_succ]
        refine wpPre_nil ?_
        have N5 : New w W5 := (((N.trans NW0).trans N2).trans N4).grown G5 fun b hb => hq.out.foot b hb
        have hW4 : w.heap.size ≤ W4.heap.size := (((N.trans NW0).trans N2).trans N4).size
        clear hap hb1 hb3 hcv hadd hE hS hS2 hS4 hS5
        go_wp2_with fail
        refine ⟨⟨k + 1, by omega, by go_num, ?_, ?_, N5⟩, by simp [intOf]; omega⟩
        · have e : ((l.take (k + 1)).map (byP y)).map prC = ((l.take k).map (byP y)).map prC ++ [prC (byP y p)] := by
            rw [take_more hlt HPP.out, List.map_append, List.map_append]; rfl
          rw [e]
          refine Q5.mono fun b hb _ => ?_
          rcases hb with hb | hb
          · exact hb
          · exact Nat.le_trans hW4 hb
        · rw [take_more hlt HPP.out]
          intro q hq'
          rcases List.mem_append.1 hq' with h | h
          · exact h8.out q h
          · obtain rfl := List.mem_singleton.1 h
            exact H8.out
      · have hd8 : decide ((8 : Int) ≤ ((bs p.1).size : Int)) = true := decide_eq_true (by rw [hsz]; omega)
        have hw := wakes_any wr (HT.out.kept N)
        clear hsz hk8
        go_wp2_with fail
        refine Calls.mono hw ?_
        rintro _ W3 ⟨rfl, N3⟩
        clear hw
        go_wp2_with fail
        go_ret
        exact ⟨rfl, N.trans N3⟩
    · obtain rfl : k = l.length := by omega
      rw [List.take_length] at hq h8
      have hlM : (l.map (byP y)).length = l.length := List.length_map _
      have hMmay := by_may y HMB.out h8.out
      have hMs : ∀ p ∈ l.map (byP y), p.1.length ≤ 4000 ∧ p.2.length ≤ 4000 := fun p hp => by
        have := okP_key p ((mayB_rise _ hMmay).2 p hp); omega
      have hne : l ≠ [] := fun e => HL0.out (by rw [e]; rfl)
      obtain ⟨t0, u0, tr, ur, ht, hu, hor⟩ := pre_says (l := l) y hne
      have hb := build_yes (HP.out.after N) (by omega) HS.out HMB.out
      have hb2 := fun {W : World} (n : New wr W) => build_yes (hq.out.after n).ls (by omega) hMs hMmay
      rw [ht] at hb
      rw [hu] at hb2
      have HOR : Hid ((t0.kind = 3 ∧ ur.length = tr.length + 1 ∧ u0.kind = 2 ∧ u0.path = [hi y, lo y] ∧ ∃ u1 us, ur = u1 :: us ∧ u1.kind = 3) ∨ (t0.kind ≠ 3 ∧ ur.length = tr.length ∧ u0.kind = t0.kind ∧ u0.path = [hi y, lo y] ++ t0.path)) := hor
      have HQM : Hid (Pl wr (Fresh w) 52 2 u5 ((l.map (byP y)).map prC)) := hq
      have hpt : t0.path.length ≤ 4000 := ((build_ok HMB.out (by omega)).len t0 (by rw [ht]; simp)).1
      have hTm0 : tr.length + 1 ≤ 9000 := by
        have := build_few HMB.out
        rw [ht, List.length_cons] at this
        omega
      clear hor hMs hMmay hne ht hu hlM
      go_wp2_with fail
      refine Calls.mono hb ?_
      rintro _ W7 ⟨v7, rfl, Q7, N7⟩
      have hb9 := hb2 N7
      obtain ⟨g7, c7, e7, _, hg7, hc7⟩ := Q7.full (by simp)
      have HQ7 : Hid (Pl W7 (Fresh wr) 49 20 v7 ((t0 :: tr).map ndC)) := Q7
      rw [List.length_map, List.length_cons] at e7 hc7
      obtain ⟨T, hT1⟩ : ∃ T, tr.length + 1 = T := ⟨_, rfl⟩
      rw [hT1] at e7 hc7
      subst e7
      clear hb hb2 Q7
      have hz7 : ((T : Int) == 0) = false := by rw [beq_eq_false_iff_ne]; omega
      go_wp2_with fail
      refine Calls.mono hb9 ?_
      rintro _ W9 ⟨v9, rfl, Q9, N9⟩
      obtain ⟨g9, c9, e9, _, hg9, hc9⟩ := Q9.full (by simp)
      have HQ9 : Hid (Pl W9 (Fresh W7) 49 20 v9 ((u0 :: ur).map ndC)) := Q9
      rw [List.length_map, List.length_cons] at e9 hc9
      obtain ⟨U, hU1⟩ : ∃ U, ur.length + 1 = U := ⟨_, rfl⟩
      rw [hU1] at e9 hc9
      subst e9
      have hz9 : ((U : Int) == 0) = false := by rw [beq_eq_false_iff_ne]; omega
      have HT1 : Hid (tr.length + 1 = T) := hT1
      have HU1 : Hid (ur.length + 1 = U) := hU1
      have hTU : 1 ≤ T ∧ 1 ≤ U := ⟨by omega, by omega⟩
      obtain ⟨hT0, hU0⟩ := hTU
      have HQ79 : Hid (Pl W9 (Fresh wr) 49 20 (.slice (some ⟨g7, 0, none⟩) T c7) ((t0 :: tr).map ndC)) := HQ7.out.after N9
      have N9' := (N.trans N7).trans N9
      have hc := hi_form y
      have hd := lo_form y
      have hcv2 : (convert 50 9 (.slice (some ⟨W9.heap.size, 0, none⟩) 2 2)).run Tryd.prog (W9.alloc (.cells #[.int .u8 ((hi y).toNat : Int), .int .u8 ((lo y).toNat : Int)] 5)) = .ok (.string (bs [hi y, lo y])) (W9.alloc (.cells #[.int .u8 ((hi y).toNat : Int), .int .u8 ((lo y).toNat : Int)] 5)) := by
        have R := Row.new W9 #[.int .u8 ((hi y).toNat : Int), .int .u8 ((lo y).toNat : Int)] 5
        refine run_convert_bytes_back (P := Tryd.prog) _ 50 9 5 ⟨W9.heap.size, 0, none⟩ 2 [hi y, lo y] Tryd.underlying50 Tryd.underlying5 Tryd.underlying9 (fun j hj => ?_)
        rw [Addr.add_mid, Nat.zero_add]
        match j, hj with
        | 0, _ => exact R.cell 0
        | 1, _ => exact R.cell 1
      have NA : New W9 (W9.alloc (.cells #[.int .u8 ((hi y).toNat : Int), .int .u8 ((lo y).toNat : Int)] 5)) := (New.refl W9).alloc _
      obtain ⟨WA, hWA⟩ : ∃ WA, W9.alloc (.cells #[.int .u8 ((hi y).toNat : Int), .int .u8 ((lo y).toNat : Int)] 5) = WA := ⟨_, rfl⟩
      rw [hWA] at NA hcv2
      have QA7 := HQ79.out.after NA
      have QA9 := HQ9.out.after NA
      have a70 := (QA7.cellAt (i := 0) (j := 0) (e := ndC t0) (u := .int .i64 t0.kind) rfl rfl).1
      have a71 := (QA7.cellAt (i := 0) (j := 1) (e := ndC t0) (u := .string (bs t0.path)) rfl rfl).1
      have a90 := (QA9.cellAt (i := 0) (j := 0) (e := ndC u0) (u := .int .i64 u0.kind) rfl rfl).1
      have a91 := (QA9.cellAt (i := 0) (j := 1) (e := ndC u0) (u := .string (bs u0.path)) rfl rfl).1
      have b70 : WA.cell? ⟨g7, 0, none⟩ = some (.int .i64 t0.kind) := a70
      have b71 : WA.cell? ⟨g7, 1, none⟩ = some (.string (bs t0.path)) := a71
      have b90 : WA.cell? ⟨g9, 0, none⟩ = some (.int .i64 u0.kind) := a90
      have b91 : WA.cell? ⟨g9, 1, none⟩ = some (.string (bs u0.path)) := a91
      have NWA := N9'.trans NA
      have hwk := fun {W : World} (n : New WA W) => wakes_any W (HT.out.kept (NWA.trans n))
      obtain ⟨q2, hq2⟩ : ∃ q, ([hi y, lo y] : Bt) = q := ⟨_, rfl⟩
      rw [hq2] at HOR hcv2
      have hqs : q2.length = 2 := by rw [← hq2]; rfl
      clear hb9 Q9 a70 a71 a90 a91 N9 N7 hT1 hU1 HQ7 hq2
      rcases HOR.out with ⟨k3, kl, k2, kp, u1, us, hus, k1⟩ | ⟨k3, kl, k2, kp⟩
      · have b920 : WA.cell? ⟨g9, 20, none⟩ = some (.int .i64 3) := by
          have := (QA9.cellAt (i := 1) (j := 0) (e := ndC u1) (u := .int .i64 u1.kind) (by rw [hus]; rfl) rfl).1
          rw [k1] at this; exact this
        rw [k3] at b70
        rw [k2] at b90
        rw [kp] at b91
        have hUT : ((U : Int) == (T : Int) + 1) = true := by rw [beq_iff_eq]; have := HT1.out; have := HU1.out; omega
        have hU2 : 1 < U := by have := HT1.out; have := HU1.out; omega
        have hTm : T ≤ 9000 := by have := HT1.out; omega
        clear QA7 QA9 k3 kl k2 kp hus k1
        go_wp2_with fail
        refine Calls.mono (hwk (New.refl _)) ?_
        rintro _ WB ⟨rfl, NB⟩
        clear hwk
        go_wp2_with fail
        go_ret
        exact ⟨rfl, NWA.trans NB⟩
      · have hUT : U = T := by have := HT1.out; have := HU1.out; omega
        have hTm : T ≤ 9000 := by have := HT1.out; omega
        subst hUT
        obtain ⟨kd, hkd⟩ : ∃ z, t0.kind = z := ⟨_, rfl⟩
        rw [k2, hkd] at b90
        rw [hkd] at b70 k3
        have hk3 : (kd == 3) = false := by simpa using k3
        have hb : bs q2 ++ bs t0.path = bs u0.path := eq_of_L (by rw [L_append, L_bs, L_bs, L_bs, kp])
        have hs1 : (bs q2).size ≤ 2 := by rw [bs_size, hqs]; exact Nat.le_refl _
        have hs2 : (bs t0.path).size ≤ 4000 := by rw [bs_size]; exact hpt
        generalize bs u0.path = A at b91 hb
        generalize bs t0.path = B at b71 hb hs2
        generalize bs q2 = D at hb hcv2 hs1
        clear QA7 QA9 k3 kl k2 kp hkd hqs hpt
        go_wp2_with fail
        have r70 := NewW.cell b70
        have r71 := NewW.cell b71
        have r90 := NewW.cell b90
        have r91 := NewW.cell b91
        have hne := NewW.ne WA
        have hwq := fun p : NewW WA => hwk p.h
        clear b70 b71 b90 b91 hcv2 hwk
        refine region_new WA (New.refl WA) (by kernel_rfl) (by kernel_rfl) ?_
        repeat (go_big_quiet_step (first | (go_at_call 10; exact Calls.neww (hwq _))))
        refine wpQuiet_nil ?_
        rintro WB ⟨⟨_, kB⟩, rfl⟩
        go_wp2_with fail
        go_ret
        exact ⟨rfl, NWA.trans kB⟩

end Go.Proofs.YtelaiblhnhbgiaaDoor
