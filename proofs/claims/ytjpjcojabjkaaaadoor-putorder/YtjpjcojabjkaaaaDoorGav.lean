/-
  lay: a tree's nodes in their order, behind those that are there. lay of pairs' tree; refused; what All does, said of lists. put.All and put.Of: pairs put into a trie one by one, or why not. The document's own Set: pairs with one more, in its place.
-/
import Derived.Test.YtjpjcojabjkaaaaDoorGas
import Derived.Test.YtjpjcojabjkaaaaDoorGau
import Derived.Test.YtjpjcojabjkaaaaDoorGak
import Derived.Test.YtjpjcojabjkaaaaDoorGar
namespace Go.Proofs.YtjpjcojabjkaaaaDoor
open Go.RowKit
set_option maxRecDepth 20000
set_option linter.unusedVariables false

section
variable {P : Program} {o : Oper} {a : Act} {w : World}
theorem exec_build4 {T : TypeId} {x0 x1 x2 x3 : Operand} {v0 v1 v2 v3 r : Value} (ho : o.op = .build T #[(0, x0), (1, x1), (2, x2), (3, x3)]) (h0 : a.eval x0 = v0) (h1 : a.eval x1 = v1) (h2 : a.eval x2 = v2) (h3 : a.eval x3 = v3)
    (hr : (Instr.build T #[(0, v0), (1, v1), (2, v2), (3, v3)]).run P w = .ok r w) : (execOp a.eval o).run P w = .ok (.value r) w := by
  unfold execOp
  simp only [ho, List.map_toArray, List.map_cons, List.map_nil, h0, h1, h2, h3, Sem.run_bind, hr, Result.andThen_ok, Sem.run_pure]
end
theorem built55_4 (k : Int) (p : ByteArray) (h : Bool) (v : ByteArray) : Tryd.prog.built 55 [(0, .int .i64 k), (1, .string p), (2, .bool h), (3, .string v)] = some #[.int .i64 k, .string p, .bool h, .string v, .int .i64 0, .int .i64 0, .int .i64 0, .int .i64 0, .int .i64 0, .int .i64 0, .int .i64 0, .int .i64 0, .int .i64 0, .int .i64 0, .int .i64 0, .int .i64 0, .int .i64 0, .int .i64 0, .int .i64 0, .int .i64 0] := by kernel_rfl
theorem run_build55_4 (n : Nd) (w : World) : (Instr.build 55 #[(0, .int .i64 n.kind), (1, .string (bs n.path)), (2, .bool n.has), (3, .string (bs n.val))]).run Tryd.prog w = .ok (.agg (ndA {n with kids := no16})) w := run_build w 55 _ _ (built55_4 _ _ _ _)

def nCs (B : Nat) (n : Nd) : List (Nat × Nat × Value) := [(B, 0, .int .i64 n.kind), (B, 1, .string (bs n.path)), (B, 2, .bool n.has), (B, 3, .string (bs n.val))]
theorem nCs_block {B : Nat} {n : Nd} : ∀ x ∈ nCs B n, x.1 = B := fun x hx => by
  simp only [nCs, List.mem_cons, List.not_mem_nil, or_false] at hx
  rcases hx with rfl | rfl | rfl | rfl <;> rfl
def LayOk (T : Tr) : Prop := ∀ (w : World) (F A : Nat → Prop) (v dv : Value) (d : List Nd) (Ad : List Bt) (a : Nat) (q : Bt) (ts : List Nd), Pl w F 55 20 v (ts.map ndC) → LsA w A 20 dv (d.map ndC) → (∀ g, A g → g < w.heap.size ∧ ¬ F g) → Dk d → d.length ≤ 900000 →
  Rep d Ad T a q → NF T → Vals T → ts.length + (ndT T ts.length).length ≤ 900000 →
  Calls Tryd.prog 28 #[v, dv, .int .i64 (a : Int)] w fun e w' => ∃ v' F', e = .returned v' ∧ Pl w' F' 55 20 v' ((ts ++ ndT T ts.length).map ndC) ∧ Step F F' w w'
set_option maxHeartbeats 8000000 in
theorem lay_walk (T : Tr) (IH : ∀ c, c < 16 → subT T c ≠ .none → LayOk (subT T c)) : LayOk T := by
  intro w F A v dv d Ad a q ts Q P hA K hl hR hN hV hb
  obtain ⟨n, hn, hne0, hk, hpl, hvl, hkids, hnd⟩ := rep_node K hR hN hV ts.length
  have ha := (List.getElem?_eq_some_iff.1 hn).1
  have HP : Hid (LsA w A 20 dv (d.map ndC)) := P
  have HA : Hid (∀ g, A g → g < w.heap.size ∧ ¬ F g) := hA
  obtain ⟨ad, cd, rfl, hcd, HS⟩ := P.open noNd
  obtain ⟨ga, o, rfl, hga, hAg, hr⟩ := HS.out (by omega)
  have R2 := hr w (New.refl w) a ha
  have hgd : d.getD a noNd = n := by rw [List.getD_eq_getElem?_getD, hn]; rfl
  rw [hgd] at R2
  obtain ⟨D, hD⟩ : ∃ x, d.length = x := ⟨_, rfl⟩
  rw [hD] at HP hcd ha hl ⊢
  obtain ⟨av, cv, rfl, hcv⟩ := Q.form
  rw [List.length_map] at hcv Q ⊢
  have hal : (a : Int) < (D : Int) := by omega
  have heq := fun W => eq_no hk W
  rw [eqNd_no hne0] at heq
  have HQ : Hid (Pl w F 55 20 (.slice av ts.length cv) (ts.map ndC)) := Q
  have HK : Hid (Dk d) := K
  have HR : Hid (Rep d Ad T a q) := hR
  have HKI : Hid (∀ c, c < 16 → (subT T c = .none ∧ n.kids[c]? = some 0) ∨ (subT T c ≠ .none ∧ ∃ j : Nat, j ≠ 0 ∧ n.kids[c]? = some (j : Int) ∧ ∃ q', Rep d Ad (subT T c) j q' ∧ NF (subT T c) ∧ Vals (subT T c))) := hkids
  have HND : Hid (ndT T ts.length = {n with kids := (kstT (subT T) (ts.length + 1) 16).1} :: (kstT (subT T) (ts.length + 1) 16).2) := hnd
  have HIH : Hid (∀ c, c < 16 → subT T c ≠ .none → LayOk (subT T c)) := IH
  have hb2 : ts.length + 1 + (kstT (subT T) (ts.length + 1) 16).2.length ≤ 900000 := by rw [hnd, List.length_cons] at hb; omega
  have HB : Hid (ts.length + 1 + (kstT (subT T) (ts.length + 1) 16).2.length ≤ 900000) := hb2
  have HDl : Hid (d.length = D) := hD
  have hcl1 := fun W => clone_any n.path hpl W
  have hcl2 := fun W => clone_any n.val hvl W
  have htl : ts.length ≤ 900000 := by omega
  clear HS P Q K hR hN hV hkids hnd IH hb hb2 hr hA hn hgd hD hpl hvl hne0
  go_enter Tryd.func28, Tryd.ntmps28
  go_upto_region 5 with (first
    | refine wpList_load_mid (by rfl) 55 _ (by rfl) ga (o + a * 20) (by rfl) (ndC n) _ R2 Tryd.underlying55 rfl (ndsz hk) ?_
    | (refine wpList_alloc_at (by rfl) 7 (by rfl) 55 (by rfl) _ _ _ info49 ?_; intro W1 R1 N1)
    | (refine wpList_store_new (by rfl) 55 _ _ (by rfl) w.heap.size (ndA n) (by rfl) (by rfl) 55 _ R1 (ndszA hk) (by rw [ndA_size hk]; rfl) (ndA_all _) ?_; intro W2 R3 B2; have N2 : New w W2 := B2.new N1 (Nat.le_refl _); have rg := R3.range 0 20; rw [show ((ndA n).toList.drop 0).take 20 = ndC n by unfold ndA; rw [List.drop_zero, List.take_of_length_le (by rw [ndC_len hk]; exact Nat.le_refl _)]] at rg)
    | refine wpList_load_mid (by rfl) 55 _ (by rfl) w.heap.size 0 (by rfl) (ndC n) _ rg Tryd.underlying55 rfl (ndsz hk) ?_)
  obtain ⟨nb, hnb⟩ : ∃ x, w.heap.size = x := ⟨_, rfl⟩
  have hnw : w.heap.size ≤ nb := Nat.le_of_eq hnb
  have hwn : nb ≤ w.heap.size := Nat.le_of_eq hnb.symm
  rw [hnb] at R3 ⊢
  clear rg R1 N1 B2 R2 heq hnb
  have HR3 : Hid (Row W2 nb (ndA n) 55) := R3
  have hS : HasL (nCs nb n) W2.drew := HasL.of fun x hx => by
    simp only [nCs, List.mem_cons, List.not_mem_nil, or_false] at hx
    have RD := R3.after (New.drew W2)
    rcases hx with rfl | rfl | rfl | rfl
    · exact RD.has 0 rfl
    · exact RD.has 1 rfl
    · exact RD.has 2 rfl
    · exact RD.has 3 rfl
  try simp only [Act.put, List.setIfInBounds_toArray, List.set_cons_zero, List.set_cons_succ]
  refine region_take [0, 1, 2, 3, 4, 6, 7, 8, 9] [5, 10, 11, 12, 13] 14 (HasL (nCs nb n)) hS (by kernel_rfl) (by kernel_rfl) (fun d _ _ _ _ h => by cases d <;> exact h) ?_
  simp only [pick, List.getElem?_cons_succ, List.getElem?_cons_zero, Option.toList_some, List.cons_append, List.nil_append]
  have hne : Nonempty (CsW (nCs nb n)) := ⟨hS.choose⟩
  have q0 : ∀ q : CsW (nCs nb n), q.v.cell? ⟨nb, 0, none⟩ = some (.int .i64 n.kind) := fun q => q.h (nb, 0, .int .i64 n.kind) (by simp [nCs])
  have q1 : ∀ q : CsW (nCs nb n), q.v.cell? ⟨nb, 1, none⟩ = some (.string (bs n.path)) := fun q => q.h (nb, 1, .string (bs n.path)) (by simp [nCs])
  have q2 : ∀ q : CsW (nCs nb n), q.v.cell? ⟨nb, 2, none⟩ = some (.bool n.has) := fun q => q.h (nb, 2, .bool n.has) (by simp [nCs])
  have q3 : ∀ q : CsW (nCs nb n), q.v.cell? ⟨nb, 3, none⟩ = some (.string (bs n.val)) := fun q => q.h (nb, 3, .string (bs n.val)) (by simp [nCs])
  unfold HasL
  repeat (go_big_quiet_step (fail))
  refine wpQuiet_nil ?_
  clear hne q0 q1 q2 q3 R3
  have N2' : New w W2.drew := N2.trans (New.drew W2)
  refine wpPre_call (some 26) 44 #[.string (bs n.path)] (by rfl) (by rfl) (by rfl) (by go_simp) ?_
  refine Calls.mono (hcl1 _) ?_
  rintro _ W4 ⟨rfl, N4⟩
  have hS4 := hS.new N4
  refine ⟨_, rfl, hS4, ?_⟩
  simp only [Act.put, List.setIfInBounds_toArray, List.set_cons_zero, List.set_cons_succ]
  refine wpPre_call (some 31) 44 #[.string (bs n.val)] (by rfl) (by rfl) (by rfl) (by go_simp) ?_
  refine Calls.mono (hcl2 _) ?_
  rintro _ W5 ⟨rfl, N5⟩
  have hS5 := hS4.new N5
  refine ⟨_, rfl, hS5, ?_⟩
  simp only [Act.put, List.setIfInBounds_toArray, List.set_cons_zero, List.set_cons_succ]
  refine wpPre_run (some 32) (.agg (ndA {n with kids := no16})) W5 (by rfl) (by rfl) (by rfl) (exec_build4 (by rfl) (by rfl) (by rfl) (by rfl) (by rfl) (run_build55_4 n W5)) hS5 ?_
  simp only [Act.put, List.setIfInBounds_toArray, List.set_cons_zero, List.set_cons_succ]
  have hb3 := run_buildOne (P := Tryd.prog) W5 23 55 (ndA {n with kids := no16}) _ _ _ Tryd.underlying23 info49 rfl (by decide) (by decide)
  have R6 := Row.new W5 (ndA {n with kids := no16}) 55
  have N6 : New W5 (W5.alloc (.cells (ndA {n with kids := no16}) 55)) := (New.refl W5).alloc _
  generalize W5.alloc (.cells (ndA {n with kids := no16}) 55) = W6 at hb3 R6 N6
  have hS6 := hS5.new N6
  refine wpPre_run (some 33) (.slice (some ⟨W5.heap.size, 0, none⟩) 1 1) W6 (by rfl) (by rfl) (by rfl) (exec_buildSlice (by rfl) (by rfl) hb3) hS6 ?_
  simp only [Act.put, List.setIfInBounds_toArray, List.set_cons_zero, List.set_cons_succ]
  have N6' : New w W6 := ((N2'.trans N4).trans N5).trans N6
  have Q6 := HQ.out.after N6'
  obtain ⟨g7, c7, W7, hap, Q7, G7⟩ := run_append_pl Q6 23 23 Tryd.underlying23 _ _ info49 rfl (by decide) W5.heap.size (ndC {n with kids := no16}) 55 R6 rfl (ndC_one _) (by rw [List.length_map]; omega) (by decide)
  rw [List.length_map] at hap Q7
  have hown : ∀ b, some b = (Value.slice av ts.length cv).ownBlock → b < nb := fun b hb => Nat.lt_of_lt_of_le (HQ.out.lt hb.symm) hnw
  have hS7 : HasL (nCs nb n) W7 := hS6.grown G7 fun x hx e => by
    rw [nCs_block x hx] at e
    have := hown _ e
    omega
  refine wpPre_run (some 34) _ W7 (by rfl) (by rfl) (by rfl) (exec_append (by rfl) (by rfl) (by rfl) hap) hS7 ?_
  simp only [Act.put, List.setIfInBounds_toArray, List.set_cons_zero, List.set_cons_succ]
  refine wpPre_nil ?_
  have N3' : New W2 W6 := (((New.drew W2).trans N4).trans N5).trans N6
  have R7 : Row W7 nb (ndA n) 55 := (HR3.out.after N3').of (G7.block nb (HR3.out.after N3').lt (fun e => by have := hown nb e; omega))
  have S7 : Step F (fun b => F b ∨ W6.heap.size ≤ b) w W7 := ((Step.new N6').trans (Step.grown G7 (fun k hk => HQ.out.foot k hk))).wide fun k hk => hk.imp id fun h => Nat.le_trans N6'.size h
  have Q7' : Pl W7 (fun b => F b ∨ W6.heap.size ≤ b) 55 20 (.slice (some ⟨g7, 0, none⟩) (ts.length + 1) c7) ((ts ++ {n with kids := (kstT (subT T) (ts.length + 1) 0).1} :: (kstT (subT T) (ts.length + 1) 0).2).map ndC) := by
    rw [List.map_append]; exact Q7
  have HQ7 : Hid (Pl W7 (fun b => F b ∨ W6.heap.size ≤ b) 55 20 (.slice (some ⟨g7, 0, none⟩) (ts.length + 1) c7) ((ts ++ {n with kids := (kstT (subT T) (ts.length + 1) 0).1} :: (kstT (subT T) (ts.length + 1) 0).2).map ndC)) := Q7'
  have HS7 : Hid (Step F (fun b => F b ∨ W6.heap.size ≤ b) w W7) := S7
  obtain ⟨F7, hF7⟩ : ∃ X, (fun b => F b ∨ W6.heap.size ≤ b) = X := ⟨_, rfl⟩
  rw [hF7] at HQ7 HS7
  clear hS hS4 hS5 hS6 hS7 hb3 R6 N6 N6' Q6 Q7 Q7' G7 hap hown N3' S7 hF7 N2 N2' N4 N5 HR3 hcl1 hcl2
  have HRN : Hid (Row W7 nb (ndA n) 55) := R7
  clear R7
  go_wp2_with (first
    | refine wpList_load_mid (by rfl) 53 _ (by rfl) nb 4 (by rfl) (intC n.kids) _ (kids_range HRN.out hk) Tryd.underlying53 rfl (by unfold intC; rw [List.length_map, hk]; exact i47) ?_)
  go_loopw [0, 37] (fun t i wr => ∃ (h : Nat) (F' : Nat → Prop), h ≤ 16 ∧ i = .int .i64 (h : Int) ∧ Hid (Pl wr F' 55 20 t ((ts ++ {n with kids := (kstT (subT T) (ts.length + 1) h).1} :: (kstT (subT T) (ts.length + 1) h).2).map ndC)) ∧ Hid (Step F F' w wr)) (fun _ i _ => 16 - (intOf i).toNat)
  case atStart => exact ⟨0, F7, by omega, rfl, HQ7.out, HS7.out⟩
  case round =>
    clear HQ7 HS7 HRN
    obtain ⟨h, F', hh, rfl, hq, hs⟩ := hrel
    by_cases hlt : h < 16
    · obtain ⟨z, hz⟩ : ∃ z, n.kids[h]? = some z := ⟨_, List.getElem?_eq_getElem (by omega)⟩
      have hidx := fun w => run_index47 w (intC n.kids) h (.int .i64 z) (by unfold intC; rw [List.getElem?_map, hz]; rfl) hlt
      rcases HKI.out h hlt with ⟨e1, e2⟩ | ⟨e1, j, j0, e2, q', e3, e4, e5⟩
      · have hz0 : z = 0 := by rw [hz] at e2; exact Option.some.inj e2
        subst hz0
        have HE : Hid (kstT (subT T) (ts.length + 1) (h + 1) = kstT (subT T) (ts.length + 1) h) := kstT_no e1
        clear e1 e2 hz
        go_wp2_with fail
        refine ⟨⟨h + 1, F', by omega, by go_num, ?_, hs.out⟩, by simp [intOf]; omega⟩
        show Pl _ _ _ _ _ _
        rw [HE.out]; exact hq.out
      · have hzj : z = (j : Int) := by rw [hz] at e2; exact Option.some.inj e2
        subst hzj
        have hjb : ((j : Int) == 0) = false := by rw [beq_eq_false_iff_ne]; omega
        have hlate := kstT_late (subT T) (ts.length + 1) h h (Nat.le_refl _) hlt
        have hyes := kstT_yes (b := ts.length + 1) e1
        have hbd : (kstT (subT T) (ts.length + 1) (h + 1)).2.length ≤ (kstT (subT T) (ts.length + 1) 16).2.length := kstT_mono _ _ (by omega)
        rw [hyes] at hbd
        have HY : Hid (kstT (subT T) (ts.length + 1) (h + 1) = ((kstT (subT T) (ts.length + 1) h).1.set h ((ts.length + 1 + (kstT (subT T) (ts.length + 1) h).2.length : Nat) : Int), (kstT (subT T) (ts.length + 1) h).2 ++ ndT (subT T h) (ts.length + 1 + (kstT (subT T) (ts.length + 1) h).2.length))) := hyes
        have hq0 := hq.out
        generalize (kstT (subT T) (ts.length + 1) h).1 = ks at hlate HY hq0 hbd
        generalize (kstT (subT T) (ts.length + 1) h).2 = ns at HY hq0 hbd
        have hbd2 : ns.length + (ndT (subT T h) (ts.length + 1 + ns.length)).length ≤ (kstT (subT T) (ts.length + 1) 16).2.length := by
          have : (ns ++ ndT (subT T h) (ts.length + 1 + ns.length)).length ≤ (kstT (subT T) (ts.length + 1) 16).2.length := hbd
          rwa [List.length_append] at this
        have hll : ∀ x : Nd, (ts ++ x :: ns).length = ts.length + 1 + ns.length := fun x => by rw [List.length_append, List.length_cons]; omega
        obtain ⟨g1, c1, rfl, hFg, hg1, hc1⟩ := hq0.full (by rw [List.length_map, hll]; omega)
        rw [List.length_map, hll] at hc1 hq0 ⊢
        have he0 : (ts ++ {n with kids := ks} :: ns)[ts.length]? = some {n with kids := ks} := by
          rw [List.getElem?_append_right (Nat.le_refl _), Nat.sub_self]; rfl
        obtain ⟨cc, ff⟩ := hq0.cellAt (map_at he0) (j := 4 + h) (kids_get (m := {n with kids := ks}) hlate)
        have hq9 := hq0.setCell (map_at he0) (j := 4 + h) (by omega) (.int .i64 ((ts.length + 1 + ns.length : Nat) : Int))
        rw [kids_set ks h _ {n with kids := ks} rfl, ← List.map_set, List.set_append_right _ _ (Nat.le_refl _), Nat.sub_self, List.set_cons_zero] at hq9
        rw [← Nat.add_assoc] at cc ff hq9
        have hsc : Step F' F' wr (wr.setCell ⟨g1, ts.length * 20 + 4 + h, none⟩ (.int .i64 ((ts.length + 1 + ns.length : Nat) : Int))) := Step.setCell wr hFg _
        have hAA := stay HA.out hs.out
        have hAX := stay hAA hsc
        have hLL := (HP.out.step hs.out (fun g hg => (HA.out g hg).2)).step hsc (fun g hg => (hAA g hg).2)
        have hq9' : Pl (wr.setCell ⟨g1, ts.length * 20 + 4 + h, none⟩ (.int .i64 ((ts.length + 1 + ns.length : Nat) : Int))) F' 55 20 (.slice (some ⟨g1, 0, none⟩) (ts.length + 1 + ns.length) c1) ((ts ++ {n with kids := ks.set h ((ts.length + 1 + ns.length : Nat) : Int)} :: ns).map ndC) := hq9
        have hB := HB.out
        have hcall := HIH.out h hlt e1 _ F' A _ _ d Ad j q' (ts ++ {n with kids := ks.set h ((ts.length + 1 + ns.length : Nat) : Int)} :: ns) hq9' hLL hAX HK.out (by rw [HDl.out]; exact hl) e3 e4 e5 (by rw [hll]; omega)
        rw [hll] at hcall
        have HCALL : Hid (Calls _ _ _ _ _) := hcall
        have HQX : Hid (Step F' F' wr (wr.setCell ⟨g1, ts.length * 20 + 4 + h, none⟩ (.int .i64 ((ts.length + 1 + ns.length : Nat) : Int)))) := hsc
        obtain ⟨N, hN⟩ : ∃ N, ts.length + 1 + ns.length = N := ⟨_, rfl⟩
        rw [hN] at HCALL HQX HY hc1 ⊢
        have htN : ts.length < N := by omega
        have htNi : (ts.length : Int) < (N : Int) := by omega
        have hhi : (h : Int) < 16 := by omega
        clear hlate hyes hbd hbd2 hll he0 hq9 hq9' hsc hAA hAX hLL hB hcall hq0 hq e1 e2 e3 e4 e5 hz hN
        go_wp2_with fail
        refine Calls.mono HCALL.out ?_
        rintro _ W9 ⟨v9, F9, rfl, Q10, S10⟩
        have HQ10 : Hid (Pl W9 F9 55 20 v9 ((ts ++ {n with kids := (kstT (subT T) (ts.length + 1) (h + 1)).1} :: (kstT (subT T) (ts.length + 1) (h + 1)).2).map ndC)) := by
          show Pl _ _ _ _ _ _
          rw [HY.out]
          have e : ts ++ {n with kids := ks.set h (N : Int)} :: (ns ++ ndT (subT T h) N) = (ts ++ {n with kids := ks.set h (N : Int)} :: ns) ++ ndT (subT T h) N := by simp
          rw [e]; exact Q10
        have HS10 : Hid (Step F F9 w W9) := (hs.out.trans HQX.out).trans S10
        clear Q10 S10 HCALL HY cc ff
        go_wp2_with fail
        exact ⟨⟨h + 1, F9, by omega, by go_num, HQ10.out, HS10.out⟩, by simp [intOf]; omega⟩
    · obtain rfl : h = 16 := by omega
      go_wp2_with fail
      go_ret
      refine ⟨_, F', rfl, ?_, hs.out⟩
      rw [HND.out]; exact hq.out
/-- Whatever the tree. -/
theorem lay_ok : ∀ T : Tr, LayOk T := by
  intro T
  induction T with
  | none => intro w F A v dv d Ad a q ts Q P hA K hl hR; exact hR.elim
  | hole => intro w F A v dv d Ad a q ts Q P hA K hl hR hN; exact hN.elim
  | leaf p v => exact lay_walk _ fun c hc hn => absurd rfl hn
  | ext p k ih =>
    refine lay_walk _ fun c hc hn => ?_
    by_cases e : c = 0
    · subst e
      show LayOk (one 0 k 0)
      rw [show one 0 k 0 = k from if_pos rfl]; exact ih
    · exact absurd (show one 0 k c = _ from if_neg e) hn
  | br h v ks ih => exact lay_walk _ fun c hc hn => ih c
end Go.Proofs.YtjpjcojabjkaaaaDoor
namespace Go.Proofs.YtjpjcojabjkaaaaDoor
open Go.RowKit
set_option maxRecDepth 20000
set_option linter.unusedVariables false

set_option maxHeartbeats 2000000 in
theorem lay_hole {w : World} {dv : Value} {d : List Nd} (P : Ls w 20 dv (d.map ndC)) {a : Nat} (hn : d[a]? = some noNd) (hl : d.length ≤ 900000) (k : Nat) (av : Option Addr) (cv : Nat) :
    Calls Tryd.prog 28 #[.slice av k cv, dv, .int .i64 (a : Int)] w fun e w' => e = .returned (.slice av k cv) ∧ New w w' := by
  have ha := (List.getElem?_eq_some_iff.1 hn).1
  obtain ⟨ad, cd, rfl, hcd, HS⟩ := P.open noNd
  obtain ⟨ga, o, rfl, hga, hr⟩ := HS.out (by omega)
  have R2 := hr w (New.refl w) a ha
  have hgd : d.getD a noNd = noNd := by rw [List.getD_eq_getElem?_getD, hn]; rfl
  rw [hgd] at R2
  have hk : noNd.kids.length = 16 := rfl
  have heq := fun W => eq_no hk W
  rw [(eqNd_iff noNd noNd).2 rfl] at heq
  have hal : (a : Int) < (d.length : Int) := by omega
  clear P HS hr hgd hn
  go_enter Tryd.func28, Tryd.ntmps28
  go_wp2_with (first
    | refine wpList_load_mid (by rfl) 55 _ (by rfl) ga (o + a * 20) (by rfl) (ndC noNd) _ R2 Tryd.underlying55 rfl (ndsz hk) ?_
    | (refine wpList_alloc_at (by rfl) 7 (by rfl) 55 (by rfl) _ _ _ info49 ?_; intro W1 R1 N1)
    | (refine wpList_store_new (by rfl) 55 _ _ (by rfl) w.heap.size (ndA noNd) (by rfl) (by rfl) 55 _ R1 (ndszA hk) (by rw [ndA_size hk]; rfl) (ndA_all _) ?_; intro W2 R3 B2; have N2 : New w W2 := B2.new N1 (Nat.le_refl _); have rg := R3.range 0 20; rw [show ((ndA noNd).toList.drop 0).take 20 = ndC noNd by unfold ndA; rw [List.drop_zero, List.take_of_length_le (by rw [ndC_len hk]; exact Nat.le_refl _)]] at rg)
    | refine wpList_load_mid (by rfl) 55 _ (by rfl) w.heap.size 0 (by rfl) (ndC noNd) _ rg Tryd.underlying55 rfl (ndsz hk) ?_)
  go_ret
  exact ⟨rfl, N2⟩
theorem drf_pos {d : List Nd} {l : List Pr} (D : Drf d l) : 0 < d.length := by
  obtain ⟨A, hA, hR⟩ := D
  rw [hA]
  exact (List.getElem?_eq_some_iff.1 (rep_at hR)).1
theorem lay_root {w : World} {A : Nat → Prop} {dv : Value} {d : List Nd} {cur : List Pr} (P : LsA w A 20 dv (d.map ndC)) (D : Drf d cur) (hm : mayB cur = true) (K : Dk d) (hl : d.length ≤ 900000) (hc : cur.length ≤ 200000) (hA : ∀ g, A g → g < w.heap.size) :
    Calls Tryd.prog 28 #[.slice none 0 0, dv, .int .i64 0] w fun e w' => ∃ v', e = .returned v' ∧ Pl w' (Fresh w) 55 20 v' ((buildN cur).map ndC) ∧ New w w' := by
  obtain ⟨Ad, hAd, hR⟩ := D
  by_cases e : cur = []
  · subst e
    have hn : d[0]? = some noNd := hR.2
    refine (lay_hole P.ls hn hl 0 none 0).mono ?_
    rintro _ w' ⟨rfl, N⟩
    refine ⟨_, rfl, ?_, N⟩
    have : buildN [] = [] := by unfold buildN; rw [trie_nil]; rfl
    rw [this]
    exact Pl.nil _ _ _ _
  · have hb : (ndT (treeL cur) 0).length ≤ 900000 := by rw [ndT_tree hm]; have := build_few hm; omega
    refine (lay_ok (treeL cur) w (fun _ => False) A (.slice none 0 0) dv d Ad 0 [] [] (Pl.nil _ _ _ _) P (fun g hg => ⟨hA g hg, id⟩) K hl hR (treeL_nf hm e) (vals_tree hm) (by simpa using hb)).mono ?_
    rintro _ w' ⟨v', F', rfl, Q, S⟩
    refine ⟨v', rfl, ?_, ⟨S.os, S.tape, S.output, S.size, fun k hk => S.block k hk id⟩⟩
    rw [show ([] : List Nd) ++ ndT (treeL cur) ([] : List Nd).length = buildN cur from ndT_tree hm] at Q
    exact Q.mono fun b hb _ => (S.foot b hb).resolve_left id
/-- Why a pair may not be put. -/
def errP (p : Pr) : Int := if keyOk p.1 = false then 9 else if 16 < p.2.length then 10 else 0
theorem refused_pr (p : Pr) (w : World) : Calls Tryd.prog 25 #[.agg (prC p).toArray] w fun e w' => e = .returned (.int .i64 (errP p)) ∧ New w w' := by
  have h1 := bs_size p.1
  have h2 := bs_size p.2
  by_cases h0 : p.1 = []
  · have he : (bs p.1).toList.isEmpty = true := by rw [empty_bs, h0]; rfl
    have hr : errP p = 9 := by unfold errP; rw [if_pos]; unfold keyOk; rw [h0]; rfl
    rw [hr]
    clear hr h0 h1 h2
    go_enter Tryd.func25, Tryd.ntmps25
    go_wp2_with (first
      | (refine wpList_box_at (by rfl) 1 (by rfl) 25 _ (by rfl) (prC p).toArray (by rfl) ?_; intro W1 R1 N1; have y0 := R1.has 0 (v := .string (bs p.1)) rfl; have y1 := R1.has 1 (v := .string (bs p.2)) rfl))
    go_ret
    exact ⟨rfl, N1⟩
  · have he : (bs p.1).toList.isEmpty = false := by rw [empty_bs]; simpa using h0
    have hpos : 0 < p.1.length := Nat.pos_of_ne_zero fun e => h0 (List.eq_nil_of_length_eq_zero e)
    by_cases h8 : p.1.length ≤ 8
    · have hk : keyOk p.1 = true := by unfold keyOk; rw [decide_eq_true h8, decide_eq_true (by omega)]; rfl
      have e8 : decide (((bs p.1).size : Int) > 8) = false := decide_eq_false (by omega)
      have e8' : decide ((8 : Int) < ((bs p.1).size : Int)) = false := decide_eq_false (by omega)
      by_cases h16 : p.2.length ≤ 16
      · have hr : errP p = 0 := by unfold errP; rw [if_neg (by rw [hk]; simp), if_neg (by omega)]
        have e16 : decide ((16 : Int) < ((bs p.2).size : Int)) = false := decide_eq_false (by omega)
        rw [hr]
        clear hr h0 h1 h2 hk hpos h8 h16
        go_enter Tryd.func25, Tryd.ntmps25
        go_wp2_with (first
          | (refine wpList_box_at (by rfl) 1 (by rfl) 25 _ (by rfl) (prC p).toArray (by rfl) ?_; intro W1 R1 N1; have y0 := R1.has 0 (v := .string (bs p.1)) rfl; have y1 := R1.has 1 (v := .string (bs p.2)) rfl))
        go_ret
        exact ⟨rfl, N1⟩
      · have hr : errP p = 10 := by unfold errP; rw [if_neg (by rw [hk]; simp), if_pos (by omega)]
        have e16 : decide ((16 : Int) < ((bs p.2).size : Int)) = true := decide_eq_true (by omega)
        rw [hr]
        clear hr h0 h1 h2 hk hpos h8 h16
        go_enter Tryd.func25, Tryd.ntmps25
        go_wp2_with (first
          | (refine wpList_box_at (by rfl) 1 (by rfl) 25 _ (by rfl) (prC p).toArray (by rfl) ?_; intro W1 R1 N1; have y0 := R1.has 0 (v := .string (bs p.1)) rfl; have y1 := R1.has 1 (v := .string (bs p.2)) rfl))
        go_ret
        exact ⟨rfl, N1⟩
    · have hk : keyOk p.1 = false := by unfold keyOk; rw [decide_eq_false h8, Bool.and_false]
      have e8' : decide ((8 : Int) < ((bs p.1).size : Int)) = true := decide_eq_true (by omega)
      have hr : errP p = 9 := by unfold errP; rw [if_pos hk]
      rw [hr]
      clear hr h0 h1 h2 hk hpos h8
      go_enter Tryd.func25, Tryd.ntmps25
      go_wp2_with (first
        | (refine wpList_box_at (by rfl) 1 (by rfl) 25 _ (by rfl) (prC p).toArray (by rfl) ?_; intro W1 R1 N1; have y0 := R1.has 0 (v := .string (bs p.1)) rfl; have y1 := R1.has 1 (v := .string (bs p.2)) rfl))
      go_ret
      exact ⟨rfl, N1⟩
/-- Pairs one by one, or the first error. -/
def allL : List Pr → List Pr → List Pr × Int
  | cur, [] => (cur, 0)
  | cur, p :: l => if errP p = 0 then allL (setL cur p.1 p.2) l else ([], errP p)
/-- A trie with pairs more, or why there is none. -/
def allP (t : List Nd) (l : List Pr) : List Nd × Int := match readF t with
  | none => ([], 1)
  | some s => if (allL s.1 l).2 = 0 then (buildN (allL s.1 l).1, 0) else ([], (allL s.1 l).2)
theorem errP_zero {p : Pr} (h : errP p = 0) : keyOk p.1 = true ∧ p.2.length ≤ 16 := by
  unfold errP at h
  split at h
  · cases h
  · rename_i h1
    split at h
    · cases h
    · exact ⟨by simpa using h1, by omega⟩
theorem errP_nine {p : Pr} : errP p = 0 ∨ errP p = 9 ∨ errP p = 10 := by
  unfold errP
  split
  · exact .inr (.inl rfl)
  · split
    · exact .inr (.inr rfl)
    · exact .inl rfl
theorem allL_may : ∀ {l cur : List Pr}, mayB cur = true → (allL cur l).2 = 0 → mayB (allL cur l).1 = true
  | [], cur, h, _ => h
  | p :: l, cur, h, e => by
    unfold allL at e ⊢
    by_cases h0 : errP p = 0
    · rw [if_pos h0] at e ⊢
      obtain ⟨h1, h2⟩ := errP_zero h0
      exact allL_may (set_may h h1 h2) e
    · rw [if_neg h0] at e; exact absurd e h0
end Go.Proofs.YtjpjcojabjkaaaaDoor
namespace Go.Proofs.YtjpjcojabjkaaaaDoor
open Go.RowKit
set_option maxRecDepth 20000
set_option linter.unusedVariables false

/-- What is known behind so many pairs. -/
structure AllR (s l : List Pr) (k : Nat) (d : List Nd) (cur : List Pr) : Prop where
  may : mayB cur = true
  drf : Drf d cur
  dk : Dk d
  len : d.length ≤ 10001 + 80 * k
  few : cur.length ≤ 10000 + k
  rest : allL s l = allL cur (l.drop k)
theorem AllR.step {s l : List Pr} {k : Nat} {d d' : List Nd} {cur : List Pr} (h : AllR s l k d cur) (hk : k < l.length) {p : Pr} (hp : l.getD k ([], []) = p) (h0 : errP p = 0) (hD : Drf d' (setL cur p.1 p.2)) (hK : Dk d') (hl : d'.length ≤ d.length + 80) :
    AllR s l (k + 1) d' (setL cur p.1 p.2) := by
  obtain ⟨h1, h2⟩ := errP_zero h0
  refine ⟨set_may h.may h1 h2, hD, hK, by have := h.len; omega, ?_, ?_⟩
  · have h3 := set_len (rise_may h.may) p.1 p.2
    have h4 := h.few
    split at h3 <;> omega
  · rw [h.rest, List.drop_eq_getElem_cons hk]
    have : l[k] = p := by rw [← hp, List.getD_eq_getElem?_getD, List.getElem?_eq_getElem hk]; rfl
    rw [this]
    show (if errP p = 0 then _ else _) = _
    rw [if_pos h0]
theorem AllR.bad {s l : List Pr} {k : Nat} {d : List Nd} {cur : List Pr} (h : AllR s l k d cur) (hk : k < l.length) {p : Pr} (hp : l.getD k ([], []) = p) (h0 : errP p ≠ 0) : allL s l = ([], errP p) := by
  rw [h.rest, List.drop_eq_getElem_cons hk]
  have : l[k] = p := by rw [← hp, List.getD_eq_getElem?_getD, List.getElem?_eq_getElem hk]; rfl
  rw [this]
  show (if errP p = 0 then _ else _) = _
  rw [if_neg h0]
theorem bN_nil : buildN [] = [] := by unfold buildN; rw [trie_nil]; rfl
set_option maxHeartbeats 8000000 in
theorem all_any13 {w : World} {v lv : Value} {t : List Nd} {l : List Pr} (P : Ls w 20 v (t.map ndC)) (K : TOk t) (hT : Tab w) (L : Ls w 2 lv (l.map prC)) (hl : l.length ≤ 5000) :
    Calls Tryd.prog 13 #[v, lv] w fun e w' => ∃ v', e = .returned (.tuple #[v', .int .i64 (allP t l).2]) ∧ Pl w' (Fresh w) 55 20 v' ((allP t l).1.map ndC) ∧ New w w' := by
  have hgd := good_trie P K hT
  have HP : Hid (Ls w 20 v (t.map ndC)) := P
  have HL : Hid (Ls w 2 lv (l.map prC)) := L
  have HK : Hid (TOk t) := K
  have HT : Hid (Tab w) := hT
  obtain ⟨a0, c0, hv0⟩ := P.size
  obtain ⟨al, cl, rfl, hcl, HS⟩ := L.open ([], [])
  cases hr : readF t with
  | none =>
    have ha : allP t l = ([], 1) := by unfold allP; rw [hr]
    rw [ha]
    rw [hr] at hgd
    clear hr ha P K hT L hv0 HS
    go_enter Tryd.func13, Tryd.ntmps13
    go_wp2_with fail
    refine Calls.mono hgd ?_
    rintro _ W1 ⟨rfl, N1⟩
    go_wp2_with fail
    go_ret2
    exact ⟨_, rfl, Pl.nil _ _ _ _, N1⟩
  | some s =>
    obtain ⟨hsm, hst, _⟩ := readF_ok hr
    have hsf := readF_few K hr
    have HA : Hid (allP t l = if (allL s.1 l).2 = 0 then (buildN (allL s.1 l).1, 0) else ([], (allL s.1 l).2)) := by show _ = _; unfold allP; rw [hr]
    have hop := fun {W : World} (n : New w W) => open_any (P.after n) K.k16 K.few
    rw [hr] at hgd
    have HR0 : Hid (AllR s.1 l 0 (openN t) s.1) := by
      refine ⟨hsm, by rw [hst]; exact open_drf hsm, ?_, ?_, by omega, by rw [List.drop_zero]⟩
      · rw [hst]; exact open_dk hsm (by rw [← hst]; exact K)
      · have := K.few
        unfold openN; split
        · simp
        · omega
    clear hr hsm hst hsf P K hT L hv0
    go_enter Tryd.func13, Tryd.ntmps13
    go_wp2_with fail
    refine Calls.mono hgd ?_
    rintro _ W1 ⟨rfl, N1⟩
    clear hgd
    go_wp2_with fail
    refine Calls.mono (hop N1) ?_
    rintro _ W2 ⟨v2, rfl, Q2, N2⟩
    have HQ2 : Hid (Pl W2 (Fresh W1) 55 20 v2 ((openN t).map ndC)) := Q2
    have HN2 : Hid (New w W2) := N1.trans N2
    have HF2 : Hid (∀ b, Fresh W1 b → w.heap.size ≤ b) := fun b hb => Nat.le_trans N1.size hb
    clear hop Q2 N2
    go_wp2_with fail
    go_loopw [6, 17] (fun s6 i wr => ∃ (k : Nat) (F' : Nat → Prop) (dc : List Nd) (cur : List Pr), k ≤ l.length ∧ i = .int .i64 (k : Int) ∧ Hid (Pl wr F' 55 20 s6 (dc.map ndC)) ∧ Hid (∀ b, F' b → w.heap.size ≤ b) ∧ Hid (New w wr) ∧ Hid (AllR s.1 l k dc cur)) (fun _ i _ => l.length - (intOf i).toNat)
    case atStart => exact ⟨0, _, _, s.1, by omega, rfl, HQ2.out, HF2.out, HN2.out, HR0.out⟩
    case round =>
      clear HQ2 HN2 HF2 HR0
      obtain ⟨k, F', dc, cur, hk, rfl, hq, hF, hN, hR⟩ := hrel
      have hpos := drf_pos hR.out.drf
      have hdl := hR.out.len
      have hfw := hR.out.few
      obtain ⟨g, cap, rfl, hFg, hg, hcap⟩ := hq.out.full (by rw [List.length_map]; exact hpos)
      rw [List.length_map] at hcap hq ⊢
      obtain ⟨D, hD⟩ : ∃ x, dc.length = x := ⟨_, rfl⟩
      rw [hD] at hq hpos hdl hcap ⊢
      have HDl : Hid (dc.length = D) := hD
      have hgw := hF.out g hFg
      have HQ : Hid (Pl wr (At g) 55 20 (.slice (some ⟨g, 0, none⟩) D cap) (dc.map ndC)) := hq.out.at
      clear hD hq
      by_cases hlt : k < l.length
      · obtain ⟨gl, o, rfl, hgl, hrr⟩ := HS.out (by omega)
        have R2 := hrr wr hN.out k hlt
        obtain ⟨p, hp⟩ : ∃ p, l.getD k ([], []) = p := ⟨_, rfl⟩
        rw [hp] at R2
        have HPK : Hid (l.getD k ([], []) = p) := hp
        have hki : (k : Int) < (l.length : Int) := by omega
        have hrf := fun W => refused_pr p W
        have hidx : ¬ ((k : Int) < 0) := by omega
        have HLT : Hid (k < l.length) := hlt
        by_cases he : errP p = 0
        · have hez : (errP p != 0) = false := by rw [he]; rfl
          rw [he] at hrf
          obtain ⟨hko, hvl⟩ := errP_zero he
          have hkl := keyOk_len hko
          have hof := fun W => of_any (bs p.1) (by rw [bs_size]; omega) W
          rw [L_bs] at hof
          obtain ⟨d', hput, hdrf⟩ := put_step hR.out.may hR.out.drf hko hvl
          have hpa := fun {W : World} (q : Pl W (At g) 55 20 (.slice (some ⟨g, 0, none⟩) D cap) (dc.map ndC)) => put_any q hR.out.dk (by rw [HDl.out]; omega) (f0 := 36) (by omega) (halves_of p.1) (by rw [ofL_length]; omega) hput
          have HNX : Hid (∀ d'', Drf d'' (setL cur p.1 p.2) → Dk d'' → d''.length ≤ dc.length + 80 → AllR s.1 l (k + 1) d'' (setL cur p.1 p.2)) := fun d'' h1 h2 h3 => hR.out.step hlt hp he h1 h2 h3
          have HDRF : Hid (Drf d' (setL cur p.1 p.2)) := hdrf
          clear hput hdrf hko hvl hkl hez hrr hp he
          go_upto_region 10 with (first
            | refine wpList_load_mid (by rfl) 25 _ (by rfl) gl (o + k * 2) (by rfl) (prC p) _ R2 Tryd.underlying25 rfl i52 ?_
            | (refine wpList_alloc_at (by rfl) 8 (by rfl) 25 (by rfl) _ _ _ info52 ?_; intro W3 R3 N3)
            | (refine wpList_store_new (by rfl) 25 _ _ (by rfl) wr.heap.size (prC p).toArray (by rfl) (by rfl) 25 _ R3 i52 rfl (pr_all p) ?_; intro W4 R4 B4; have N4 : New wr W4 := B4.new N3 (Nat.le_refl _))
            | refine wpList_load_row (by rfl) 25 _ (by rfl) wr.heap.size (by rfl) 25 (prC p).toArray (0, 0) _ R4 Tryd.underlying25 rfl i52 ?_
            | (go_at_call 25; refine Calls.mono (hrf _) ?_; rintro _ W5 ⟨rfl, N5⟩))
          have N5' : New wr W5 := N4.trans N5
          have R5 := R4.after N5
          obtain ⟨pb, hpb⟩ : ∃ x, wr.heap.size = x := ⟨_, rfl⟩
          rw [hpb] at R5 ⊢
          have hgp : g < pb := by omega
          have hS : HasL [(pb, 0, .string (bs p.1)), (pb, 1, .string (bs p.2))] W5.drew := HasL.of fun x hx => by
            have RD := R5.after (New.drew W5)
            simp only [List.mem_cons, List.not_mem_nil, or_false] at hx
            rcases hx with rfl | rfl
            · exact RD.has 0 rfl
            · exact RD.has 1 rfl
          try simp only [Act.put, List.setIfInBounds_toArray, List.set_cons_zero, List.set_cons_succ]
          refine region_take [0, 1, 2, 4, 5] [3, 6] 7 (HasL [(pb, 0, .string (bs p.1)), (pb, 1, .string (bs p.2))]) hS (by kernel_rfl) (by kernel_rfl) (fun d _ _ _ _ h => by cases d <;> exact h) ?_
          simp only [pick, List.getElem?_cons_succ, List.getElem?_cons_zero, Option.toList_some, List.cons_append, List.nil_append]
          have hne : Nonempty (CsW [(pb, 0, .string (bs p.1)), (pb, 1, .string (bs p.2))]) := ⟨hS.choose⟩
          have q0 : ∀ q : CsW [(pb, 0, .string (bs p.1)), (pb, 1, .string (bs p.2))], q.v.cell? ⟨pb, 0, none⟩ = some (.string (bs p.1)) := fun q => q.h (pb, 0, .string (bs p.1)) (by simp)
          have q1 : ∀ q : CsW [(pb, 0, .string (bs p.1)), (pb, 1, .string (bs p.2))], q.v.cell? ⟨pb, 1, none⟩ = some (.string (bs p.2)) := fun q => q.h (pb, 1, .string (bs p.2)) (by simp)
          unfold HasL
          repeat (go_big_quiet_step (fail))
          refine wpQuiet_nil ?_
          clear hne q0 q1
          refine wpPre_call (some 29) 27 #[.string (bs p.1)] (by rfl) (by rfl) (by rfl) (by go_simp) ?_
          refine Calls.mono (hof _) ?_
          rintro _ W6 ⟨rfl, N6⟩
          have N6' : New W5 W6 := (New.drew W5).trans N6
          have hS6 := hS.new N6
          refine ⟨_, rfl, hS6, ?_⟩
          simp only [Act.put, List.setIfInBounds_toArray, List.set_cons_zero, List.set_cons_succ]
          refine wpPre_call (some 32) 26 #[.slice (some ⟨g, 0, none⟩) D cap, .string (bs (ofL p.1)), .string (bs p.2)] (by rfl) (by rfl) (by rfl) (by go_simp) ?_
          refine Calls.mono (hpa (HQ.out.after (N5'.trans N6'))) ?_
          rintro _ W7 ⟨v7, F7, rfl, Q7, K7, L7, S7⟩
          have hS7 : HasL [(pb, 0, .string (bs p.1)), (pb, 1, .string (bs p.2))] W7 := HasL.of fun x hx => by
            have h0 := hS6.tell x hx
            have hlt6 := World.block_lt_of_cell? W6 _ h0
            have hx1 : x.1 = pb := by
              simp only [List.mem_cons, List.not_mem_nil, or_false] at hx
              rcases hx with rfl | rfl <;> rfl
            have e := S7.block x.1 hlt6 (fun h => by have : x.1 = g := h; omega)
            unfold World.cell? at h0 ⊢
            rw [e]; exact h0
          refine ⟨v7, rfl, hS7, ?_⟩
          simp only [Act.put, List.setIfInBounds_toArray, List.set_cons_zero, List.set_cons_succ]
          refine wpPre_nil ?_
          have hN6 : New w W6 := hN.out.trans (N5'.trans N6')
          obtain ⟨hN7, hF7, _⟩ := S7.below hN6 hN6.size (fun b hb => by rw [show b = g from hb]; exact hgw)
          have HQ7 : Hid (Pl W7 F7 55 20 v7 (d'.map ndC)) := Q7
          have HN7 : Hid (New w W7) := hN7
          have HF7 : Hid (∀ b, F7 b → w.heap.size ≤ b) := hF7
          have HA7 : Hid (AllR s.1 l (k + 1) d' (setL cur p.1 p.2)) := HNX.out d' HDRF.out K7 L7
          clear Q7 S7 hS hS6 hS7 hN6 hN7 hF7 hof hpa hrf R4 R5 N4 N5 N6 N6' N5' B4 R3 R2 HNX K7 L7
          go_wp2_with fail
          exact ⟨⟨k + 1, F7, d', setL cur p.1 p.2, by omega, by go_num, HQ7.out, HF7.out, HN7.out, HA7.out⟩, by simp [intOf]; omega⟩
        · have HBAD : Hid (allP t l = ([], errP p)) := by
            show _ = _
            rw [HA.out, hR.out.bad hlt hp he, if_neg he]
          have hE : errP p = 9 ∨ errP p = 10 := errP_nine.resolve_left he
          obtain ⟨E, hEe⟩ : ∃ x, errP p = x := ⟨_, rfl⟩
          rw [hEe] at hrf HBAD hE
          clear hEe hrr hp he hgl
          rcases hE with rfl | rfl
          all_goals
            go_wp2_with (first
              | refine wpList_load_mid (by rfl) 25 _ (by rfl) gl (o + k * 2) (by rfl) (prC p) _ R2 Tryd.underlying25 rfl i52 ?_
              | (refine wpList_alloc_at (by rfl) 8 (by rfl) 25 (by rfl) _ _ _ info52 ?_; intro W3 R3 N3)
              | (refine wpList_store_new (by rfl) 25 _ _ (by rfl) wr.heap.size (prC p).toArray (by rfl) (by rfl) 25 _ R3 i52 rfl (pr_all p) ?_; intro W4 R4 B4; have N4 : New wr W4 := B4.new N3 (Nat.le_refl _))
              | refine wpList_load_row (by rfl) 25 _ (by rfl) wr.heap.size (by rfl) 25 (prC p).toArray (0, 0) _ R4 Tryd.underlying25 rfl i52 ?_)
            refine Calls.mono (hrf _) ?_
            rintro _ W5 ⟨rfl, N5⟩
            clear hrf R3 R4 B4 R2
            go_wp2_with fail
            go_ret2
            refine ⟨.slice none 0 0, by rw [HBAD.out]; rfl, by rw [HBAD.out]; exact Pl.nil _ _ _ _, (hN.out.trans N4).trans N5⟩
      · obtain rfl : k = l.length := by omega
        have hrest := hR.out.rest
        rw [List.drop_length] at hrest
        have hrest2 : allL s.1 l = (cur, 0) := hrest
        have HFIN : Hid (allP t l = (buildN cur, 0)) := by
          show _ = _
          rw [HA.out, hrest2, if_pos rfl]
        have hlr := lay_root (HQ.out.lsA) hR.out.drf hR.out.may hR.out.dk (by rw [HDl.out]; omega) (by omega) (fun g h => h.2)
        clear hrest hrest2
        go_wp2_with fail
        refine Calls.mono hlr ?_
        rintro _ W5 ⟨v5, rfl, Q5, N5⟩
        have HQ5 : Hid (Pl W5 (Fresh wr) 55 20 v5 ((buildN cur).map ndC)) := Q5
        clear hlr Q5
        go_wp2_with fail
        go_ret2
        refine ⟨v5, by rw [HFIN.out]; rfl, by rw [HFIN.out]; exact HQ5.out.mono fun b hb _ => Nat.le_trans hN.out.size hb, hN.out.trans N5⟩
theorem one_ls {w : World} {g : Nat} {p : Pr} (R : Row w g (prC p).toArray 25) : Ls w 2 (.slice (some ⟨g, 0, none⟩) 1 1) ([p].map prC) :=
  ⟨some ⟨g, 0, none⟩, 1, rfl, Nat.le_refl _, fun _ => ⟨g, 0, rfl, R.lt, fun i hi j u hu => by
    obtain rfl : i = 0 := by simpa using hi
    have hu' : (prC p)[j]? = some u := hu
    rw [Nat.zero_mul, Nat.zero_add]
    exact R.has j (by rw [List.getElem?_toArray]; exact hu')⟩⟩
/-- A trie with a pair more, or why there is none. -/
theorem of_any13 {w : World} {v : Value} {t : List Nd} (P : Ls w 20 v (t.map ndC)) (K : TOk t) (hT : Tab w) (k u : Bt) :
    Calls Tryd.prog 11 #[v, .string (bs k), .string (bs u)] w fun e w' => ∃ v', e = .returned (.tuple #[v', .int .i64 (allP t [(k, u)]).2]) ∧ Pl w' (Fresh w) 55 20 v' ((allP t [(k, u)]).1.map ndC) ∧ New w w' := by
  have hall := fun {W : World} {lv : Value} (n : New w W) (L : Ls W 2 lv ([(k, u)].map prC)) => all_any13 (P.after n) K (hT.kept n) L (by simp)
  have hb := run_build52b k u
  obtain ⟨a0, c0, hv0⟩ := P.size
  clear P K hT hv0
  go_enter Tryd.func11, Tryd.ntmps11
  go_wp2_with (first
    | refine wpList_build2 (by rfl) 25 _ _ (by rfl) (.string (bs k)) (.string (bs u)) (by rfl) (by rfl) (prC (k, u)).toArray hb ?_
    | (refine wpList_build_one (by rfl) 26 _ (by rfl) Tryd.underlying26 _ _ info52 (prC (k, u)).toArray (by rfl) rfl (by decide) (by decide) ?_; intro W4 R4 N4))
  have L4 := one_ls R4
  refine Calls.mono (hall N4 L4) ?_
  rintro _ W5 ⟨v5, rfl, Q5, N5⟩
  have HQ5 : Hid (Pl W5 (Fresh W4) 55 20 v5 ((allP t [(k, u)]).1.map ndC)) := Q5
  clear hall Q5 R4 L4 hb
  go_wp2_with fail
  go_ret2
  exact ⟨v5, rfl, HQ5.out.mono fun b hb _ => Nat.le_trans N4.size hb, N4.trans N5⟩
end Go.Proofs.YtjpjcojabjkaaaaDoor
namespace Go.Proofs.YtjpjcojabjkaaaaDoor
open Go.RowKit
set_option maxRecDepth 20000
set_option linter.unusedVariables false

/-- A step of it. -/
def preS (k v : Bt) (s : List Pr × Bool) (p : Pr) : List Pr × Bool := if s.2 = false ∧ upB p.1 k = false then (s.1 ++ [(k, v)], true) else s
theorem preS_yes {k v : Bt} {acc : List Pr} {p : Pr} (h : upB p.1 k = false) : preS k v (acc, false) p = (acc ++ [(k, v)], true) := if_pos ⟨rfl, h⟩
theorem preS_no {k v : Bt} {s : List Pr × Bool} {p : Pr} (h : ¬ (s.2 = false ∧ upB p.1 k = false)) : preS k v s p = s := if_neg h
def stepS (k v : Bt) (s : List Pr × Bool) (p : Pr) : List Pr × Bool := if p.1 = k then preS k v s p else ((preS k v s p).1 ++ [p], (preS k v s p).2)
def endS (k v : Bt) (s : List Pr × Bool) : List Pr := if s.2 = true then s.1 else s.1 ++ [(k, v)]
theorem fold_done (k v : Bt) : ∀ (l : List Pr) (acc : List Pr), (∀ p ∈ l, p.1 ≠ k) → l.foldl (stepS k v) (acc, true) = (acc ++ l, true)
  | [], acc, _ => by simp
  | p :: l, acc, h => by
    have e : stepS k v (acc, true) p = (acc ++ [p], true) := by
      unfold stepS
      rw [preS_no (fun x => by cases x.1), if_neg (h p (by simp))]
    rw [List.foldl_cons, e, fold_done k v l _ fun q hq => h q (by simp [hq])]
    simp
theorem fold_set (k v : Bt) : ∀ (l : List Pr) (acc : List Pr), Rise l → endS k v (l.foldl (stepS k v) (acc, false)) = acc ++ setL l k v
  | [], acc, _ => rfl
  | p :: l, acc, h => by
    have hp := List.pairwise_cons.1 h
    rw [List.foldl_cons]
    show _ = acc ++ (if upB p.1 k then p :: setL l k v else if p.1 = k then (k, v) :: l else (k, v) :: p :: l)
    by_cases h1 : upB p.1 k = true
    · have hne : p.1 ≠ k := fun e => by
        have := (up_iff _ _).1 h1
        rw [e] at this; exact ltL_irrefl _ this
      have e : stepS k v (acc, false) p = (acc ++ [p], false) := by
        unfold stepS
        rw [preS_no (fun x => by rw [h1] at x; cases x.2), if_neg hne]
      rw [e, fold_set k v l _ hp.2, if_pos h1]
      simp
    · have h1' : upB p.1 k = false := by simpa using h1
      rw [if_neg h1]
      have hge : ∀ q ∈ l, q.1 ≠ k := fun q hq e => by
        have h2 := hp.1 q hq
        rw [e] at h2
        exact h1 ((up_iff _ _).2 h2)
      by_cases h2 : p.1 = k
      · have e : stepS k v (acc, false) p = (acc ++ [(k, v)], true) := by
          unfold stepS
          rw [preS_yes h1', if_pos h2]
        rw [e, fold_done k v l _ hge, if_pos h2]
        unfold endS; rw [if_pos rfl]; simp
      · have e : stepS k v (acc, false) p = (acc ++ [(k, v)] ++ [p], true) := by
          unfold stepS
          rw [preS_yes h1', if_neg h2]
        rw [e, fold_done k v l _ hge, if_neg h2]
        unfold endS; rw [if_pos rfl]; simp
def foldK (l : List Pr) (k v : Bt) (n : Nat) : List Pr × Bool := (l.take n).foldl (stepS k v) ([], false)
theorem foldK_step {l : List Pr} {k v : Bt} {n : Nat} (h : n < l.length) {p : Pr} (hp : l.getD n ([], []) = p) : foldK l k v (n + 1) = stepS k v (foldK l k v n) p := by
  unfold foldK
  rw [List.take_add_one, getD_some (d := ([], [])) h, hp, Option.toList_some, List.foldl_append]; rfl
theorem foldK_len (l : List Pr) (k v : Bt) : ∀ n, (foldK l k v n).1.length ≤ 2 * n
  | 0 => by simp [foldK]
  | n + 1 => by
    by_cases h : n < l.length
    · rw [foldK_step h rfl]
      have := foldK_len l k v n
      unfold stepS preS
      split <;> split <;> simp <;> omega
    · unfold foldK
      rw [List.take_of_length_le (by omega)]
      have := foldK_len l k v n
      unfold foldK at this
      rw [List.take_of_length_le (by omega)] at this
      omega
theorem setEnd {l : List Pr} (h : Rise l) (k v : Bt) : endS k v (foldK l k v l.length) = setL l k v := by
  have := fold_set k v l [] h
  unfold foldK
  rw [List.take_length, this, List.nil_append]
theorem pr_build (k v : Bt) : Tryd.prog.built 25 [(0, .string (bs k)), (1, .string (bs v))] = some (prC (k, v)).toArray := run_build52b k v
theorem beq_texts (a b : Bt) : ((bs a).toList == (bs b).toList) = (a == b) := by rw [toList_L, toList_L, L_bs, L_bs]
theorem less_texts (a b : Bt) : Op.bytesLess (bs a).toList (bs b).toList = upB a b := by rw [toList_L, toList_L, L_bs, L_bs]; rfl
set_option maxHeartbeats 8000000 in
theorem set_any {w : World} {lv : Value} {l : List Pr} (L : Ls w 2 lv (l.map prC)) (hl : l.length ≤ 20000) (k v : Bt) :
    Calls Tryd.prog 23 #[lv, .string (bs k), .string (bs v)] w fun e w' => ∃ v', e = .returned v' ∧ Pl w' (Fresh w) 25 2 v' ((endS k v (foldK l k v l.length)).map prC) ∧ New w w' := by
  obtain ⟨al, cl, rfl, hcl, HS⟩ := L.open ([], [])
  have hb := pr_build k v
  clear L
  go_enter Tryd.func23, Tryd.ntmps23
  go_wp2_with fail
  go_loopw [7, 8, 9] (fun s7 s8 i wr => ∃ (n : Nat) (F' : Nat → Prop), n ≤ l.length ∧ i = .int .i64 (n : Int) ∧ s8 = .bool (foldK l k v n).2 ∧ Hid (Pl wr F' 25 2 s7 ((foldK l k v n).1.map prC)) ∧ Hid (∀ b, F' b → w.heap.size ≤ b) ∧ Hid (New w wr)) (fun _ _ i _ => l.length - (intOf i).toNat)
  case atStart => exact ⟨0, fun _ => False, by omega, rfl, rfl, Pl.nil _ _ _ _, fun b h => h.elim, New.refl w⟩
  case round =>
    obtain ⟨n, F', hn, rfl, rfl, hq, hF, hN⟩ := hrel
    have hfl := foldK_len l k v n
    by_cases hlt : n < l.length
    · obtain ⟨g, o, rfl, hg, hrr⟩ := HS.out (by omega)
      have R2 := hrr wr hN.out n hlt
      obtain ⟨p, hp⟩ : ∃ p, l.getD n ([], []) = p := ⟨_, rfl⟩
      rw [hp] at R2
      have HST : Hid (foldK l k v (n + 1) = stepS k v (foldK l k v n) p) := foldK_step hlt hp
      have c0 : wr.cell? ⟨g, o + n * 2, none⟩ = some (.string (bs p.1)) := by have := R2 0 (.string (bs p.1)) rfl; simpa using this
      have hni : (n : Int) < (l.length : Int) := by omega
      have hgr : g < wr.heap.size := Nat.lt_of_lt_of_le hg hN.out.size
      have ht1 := beq_texts p.1 k
      have ht2 := less_texts p.1 k
      clear hp hrr
      generalize foldK l k v n = st at HST hq hfl ⊢
      obtain ⟨acc, dn⟩ := st
      have hfl2 : acc.length ≤ 2 * n := hfl
      clear hfl
      have hq' : Hid (Pl wr F' 25 2 u7 (acc.map prC)) := hq
      obtain ⟨av, cv, hv, hcv⟩ := hq'.out.form
      subst hv
      rw [List.length_map] at hcv hq' ⊢
      clear hq
      cases dn
      · cases hu : upB p.1 k
        · rw [hu] at ht2
          by_cases hk : p.1 = k
          · have hkb : (p.1 == k) = true := by rw [beq_iff_eq]; exact hk
            rw [hkb] at ht1
            clear hkb
            have hst : stepS k v (acc, false) p = (acc ++ [(k, v)], true) := by
              unfold stepS
              rw [preS_yes hu, if_pos hk]
            rw [hst] at HST
            clear hst hk
            go_upto_region 8 with (first
              | refine wpList_build2 (by rfl) 25 _ _ (by rfl) (.string (bs k)) (.string (bs v)) (by rfl) (by rfl) (prC (k, v)).toArray hb ?_
              | (refine wpList_build_one (by rfl) 26 _ (by rfl) Tryd.underlying26 _ _ info52 (prC (k, v)).toArray (by rfl) rfl (by decide) (by decide) ?_; intro W4 R4 N4; have Q4 := hq'.out.after N4)
              | (refine wpList_append_pl Q4 (by rfl) _ _ 26 (by rfl) Tryd.underlying26 _ _ info52 rfl (by decide) _ (prC (k, v)) 25 R4 rfl (prC_one _) (by rw [List.length_map]; omega) (by decide) (by rfl) (by rfl) ?_; intro g5 c5 W5 Q5 G5))
            have hN5 : New w W5 := (hN.out.trans N4).grown G5 (fun b hb => hF.out b (hq'.out.foot b hb))
            have c5' : W5.cell? ⟨g, o + n * 2, none⟩ = some (.string (bs p.1)) := (hN5.cell hg).trans ((hN.out.cell hg).symm.trans c0)
            have HQ5 : Hid (Pl W5 (fun b => F' b ∨ W4.heap.size ≤ b) 25 2 (.slice (some ⟨g5, 0, none⟩) ((acc.map prC).length + 1) c5) ((acc ++ [(k, v)]).map prC)) := by show Pl _ _ _ _ _ _; rw [List.map_append]; exact Q5
            have HF5 : Hid (∀ b, (fun b => F' b ∨ W4.heap.size ≤ b) b → w.heap.size ≤ b) := fun b hb => hb.elim (hF.out b) (fun h => Nat.le_trans (hN.out.trans N4).size h)
            have HN5 : Hid (New w W5) := hN5
            have R25 : W5.rangeAt g (o + n * 2) (prC p) := fun j u hu => (hN5.cell hg).trans ((hN.out.cell hg).symm.trans (R2 j u hu))
            have hLL : (acc ++ [(k, v)]).length = acc.length + 1 := by simp
            rw [List.length_map] at HQ5
            obtain ⟨F5, hF5⟩ : ∃ X, (fun b => F' b ∨ W4.heap.size ≤ b) = X := ⟨_, rfl⟩
            rw [hF5] at HQ5 HF5
            clear hF5 Q5 G5 R4 N4 Q4 hN5 c0 R2 hq' hF hN
            generalize acc ++ [(k, v)] = acc2 at HQ5 HST hLL
            go_wp2_with fail
            refine ⟨⟨n + 1, _, by omega, by go_num, by rw [HST.out], ?_, HF5.out, HN5.out⟩, by simp [intOf]; omega⟩
            show Pl _ _ _ _ _ _
            rw [HST.out]; exact HQ5.out
          · have hkb : (p.1 == k) = false := by rw [beq_eq_false_iff_ne]; exact hk
            rw [hkb] at ht1
            clear hkb
            have hst : stepS k v (acc, false) p = (acc ++ [(k, v)] ++ [p], true) := by
              unfold stepS
              rw [preS_yes hu, if_neg hk]
            rw [hst] at HST
            clear hst hk
            go_upto_region 8 with (first
              | refine wpList_build2 (by rfl) 25 _ _ (by rfl) (.string (bs k)) (.string (bs v)) (by rfl) (by rfl) (prC (k, v)).toArray hb ?_
              | (refine wpList_build_one (by rfl) 26 _ (by rfl) Tryd.underlying26 _ _ info52 (prC (k, v)).toArray (by rfl) rfl (by decide) (by decide) ?_; intro W4 R4 N4; have Q4 := hq'.out.after N4)
              | (refine wpList_append_pl Q4 (by rfl) _ _ 26 (by rfl) Tryd.underlying26 _ _ info52 rfl (by decide) _ (prC (k, v)) 25 R4 rfl (prC_one _) (by rw [List.length_map]; omega) (by decide) (by rfl) (by rfl) ?_; intro g5 c5 W5 Q5 G5))
            have hN5 : New w W5 := (hN.out.trans N4).grown G5 (fun b hb => hF.out b (hq'.out.foot b hb))
            have c5' : W5.cell? ⟨g, o + n * 2, none⟩ = some (.string (bs p.1)) := (hN5.cell hg).trans ((hN.out.cell hg).symm.trans c0)
            have HQ5 : Hid (Pl W5 (fun b => F' b ∨ W4.heap.size ≤ b) 25 2 (.slice (some ⟨g5, 0, none⟩) ((acc.map prC).length + 1) c5) ((acc ++ [(k, v)]).map prC)) := by show Pl _ _ _ _ _ _; rw [List.map_append]; exact Q5
            have HF5 : Hid (∀ b, (fun b => F' b ∨ W4.heap.size ≤ b) b → w.heap.size ≤ b) := fun b hb => hb.elim (hF.out b) (fun h => Nat.le_trans (hN.out.trans N4).size h)
            have HN5 : Hid (New w W5) := hN5
            have R25 : W5.rangeAt g (o + n * 2) (prC p) := fun j u hu => (hN5.cell hg).trans ((hN.out.cell hg).symm.trans (R2 j u hu))
            have hLL : (acc ++ [(k, v)]).length = acc.length + 1 := by simp
            rw [List.length_map] at HQ5
            obtain ⟨F5, hF5⟩ : ∃ X, (fun b => F' b ∨ W4.heap.size ≤ b) = X := ⟨_, rfl⟩
            rw [hF5] at HQ5 HF5
            clear hF5 Q5 G5 R4 N4 Q4 hN5 c0 R2 hq' hF hN
            generalize acc ++ [(k, v)] = acc2 at HQ5 HST hLL
            go_wp2_with (first
              | refine wpList_load_mid (by rfl) 25 _ (by rfl) g (o + n * 2) (by rfl) (prC p) _ R25 Tryd.underlying25 rfl i52 ?_
              | (refine wpList_build_one (by rfl) 26 _ (by rfl) Tryd.underlying26 _ _ info52 (prC p).toArray (by rfl) rfl (by decide) (by decide) ?_; intro W6 R6 N6; have Q6 := HQ5.out.after N6)
              | (refine wpList_append_pl Q6 (by rfl) _ _ 26 (by rfl) Tryd.underlying26 _ _ info52 rfl (by decide) _ (prC p) 25 R6 rfl (prC_one _) (by rw [List.length_map]; omega) (by decide) (by rfl) (by rfl) ?_; intro g7 c7 W7 Q7 G7))
            refine ⟨⟨n + 1, (fun b => _ ∨ W6.heap.size ≤ b), by omega, by go_num, by rw [HST.out], ?_, fun b hb => hb.elim (HF5.out b) (fun h => Nat.le_trans (HN5.out.trans N6).size h), (HN5.out.trans N6).grown G7 (fun b hb => HF5.out b (HQ5.out.foot b hb))⟩, by simp [intOf]; omega⟩
            show Pl _ _ _ _ _ _
            rw [HST.out, List.map_append]
            rw [List.length_map, hLL] at Q7
            exact Q7
        · rw [hu] at ht2
          by_cases hk : p.1 = k
          · have hkb : (p.1 == k) = true := by rw [beq_iff_eq]; exact hk
            rw [hkb] at ht1
            clear hkb
            have hst : stepS k v (acc, false) p = (acc, false) := by
              unfold stepS
              rw [preS_no (fun x => by rw [hu] at x; cases x.2), if_pos hk]
            rw [hst] at HST
            clear hst hk
            go_wp2_with fail
            refine ⟨⟨n + 1, _, by omega, by go_num, by rw [HST.out], ?_, hF.out, hN.out⟩, by simp [intOf]; omega⟩
            show Pl _ _ _ _ _ _
            rw [HST.out]; exact hq'.out
          · have hkb : (p.1 == k) = false := by rw [beq_eq_false_iff_ne]; exact hk
            rw [hkb] at ht1
            clear hkb
            have hst : stepS k v (acc, false) p = (acc ++ [p], false) := by
              unfold stepS
              rw [preS_no (fun x => by rw [hu] at x; cases x.2), if_neg hk]
            rw [hst] at HST
            clear hst hk
            go_wp2_with (first
              | refine wpList_load_mid (by rfl) 25 _ (by rfl) g (o + n * 2) (by rfl) (prC p) _ R2 Tryd.underlying25 rfl i52 ?_
              | (refine wpList_build_one (by rfl) 26 _ (by rfl) Tryd.underlying26 _ _ info52 (prC p).toArray (by rfl) rfl (by decide) (by decide) ?_; intro W6 R6 N6; have Q6 := hq'.out.after N6)
              | (refine wpList_append_pl Q6 (by rfl) _ _ 26 (by rfl) Tryd.underlying26 _ _ info52 rfl (by decide) _ (prC p) 25 R6 rfl (prC_one _) (by rw [List.length_map]; omega) (by decide) (by rfl) (by rfl) ?_; intro g7 c7 W7 Q7 G7))
            refine ⟨⟨n + 1, (fun b => _ ∨ W6.heap.size ≤ b), by omega, by go_num, by rw [HST.out], ?_, fun b hb => hb.elim (hF.out b) (fun h => Nat.le_trans (hN.out.trans N6).size h), (hN.out.trans N6).grown G7 (fun b hb => hF.out b (hq'.out.foot b hb))⟩, by simp [intOf]; omega⟩
            show Pl _ _ _ _ _ _
            rw [HST.out, List.map_append]
            rw [List.length_map] at Q7
            exact Q7
      · by_cases hk : p.1 = k
        · have hkb : (p.1 == k) = true := by rw [beq_iff_eq]; exact hk
          rw [hkb] at ht1
          clear hkb
          have hst : stepS k v (acc, true) p = (acc, true) := by
            unfold stepS
            rw [preS_no (fun x => by cases x.1), if_pos hk]
          rw [hst] at HST
          clear hst hk
          go_wp2_with fail
          refine ⟨⟨n + 1, _, by omega, by go_num, by rw [HST.out], ?_, hF.out, hN.out⟩, by simp [intOf]; omega⟩
          show Pl _ _ _ _ _ _
          rw [HST.out]; exact hq'.out
        · have hkb : (p.1 == k) = false := by rw [beq_eq_false_iff_ne]; exact hk
          rw [hkb] at ht1
          clear hkb
          have hst : stepS k v (acc, true) p = (acc ++ [p], true) := by
            unfold stepS
            rw [preS_no (fun x => by cases x.1), if_neg hk]
          rw [hst] at HST
          clear hst hk
          go_wp2_with (first
            | refine wpList_load_mid (by rfl) 25 _ (by rfl) g (o + n * 2) (by rfl) (prC p) _ R2 Tryd.underlying25 rfl i52 ?_
            | (refine wpList_build_one (by rfl) 26 _ (by rfl) Tryd.underlying26 _ _ info52 (prC p).toArray (by rfl) rfl (by decide) (by decide) ?_; intro W6 R6 N6; have Q6 := hq'.out.after N6)
            | (refine wpList_append_pl Q6 (by rfl) _ _ 26 (by rfl) Tryd.underlying26 _ _ info52 rfl (by decide) _ (prC p) 25 R6 rfl (prC_one _) (by rw [List.length_map]; omega) (by decide) (by rfl) (by rfl) ?_; intro g7 c7 W7 Q7 G7))
          refine ⟨⟨n + 1, (fun b => _ ∨ W6.heap.size ≤ b), by omega, by go_num, by rw [HST.out], ?_, fun b hb => hb.elim (hF.out b) (fun h => Nat.le_trans (hN.out.trans N6).size h), (hN.out.trans N6).grown G7 (fun b hb => hF.out b (hq'.out.foot b hb))⟩, by simp [intOf]; omega⟩
          show Pl _ _ _ _ _ _
          rw [HST.out, List.map_append]
          rw [List.length_map] at Q7
          exact Q7
    · obtain rfl : n = l.length := by omega
      obtain ⟨st, hst⟩ : ∃ x, foldK l k v l.length = x := ⟨_, rfl⟩
      have HE : Hid (foldK l k v l.length = st) := hst
      rw [hst] at hq hfl ⊢
      clear hst
      obtain ⟨acc, dn⟩ := st
      have hfl2 : acc.length ≤ 2 * l.length := hfl
      have hq' : Hid (Pl wr F' 25 2 u7 (acc.map prC)) := hq
      obtain ⟨av, cv, hv, hcv⟩ := hq'.out.form
      subst hv
      rw [List.length_map] at hcv hq' ⊢
      clear hq hfl
      cases dn
      · go_wp2_with (first
          | refine wpList_build2 (by rfl) 25 _ _ (by rfl) (.string (bs k)) (.string (bs v)) (by rfl) (by rfl) (prC (k, v)).toArray hb ?_
          | (refine wpList_build_one (by rfl) 26 _ (by rfl) Tryd.underlying26 _ _ info52 (prC (k, v)).toArray (by rfl) rfl (by decide) (by decide) ?_; intro W4 R4 N4)
          | (refine wpList_append_pl (hq'.out.after N4) (by rfl) _ _ 26 (by rfl) Tryd.underlying26 _ _ info52 rfl (by decide) _ (prC (k, v)) 25 R4 rfl (prC_one _) (by rw [List.length_map]; omega) (by decide) (by rfl) (by rfl) ?_; intro g5 c5 W5 Q5 G5))
        go_ret
        refine ⟨_, rfl, ?_, (hN.out.trans N4).grown G5 (fun b hb => hF.out b (hq'.out.foot b hb))⟩
        rw [HE.out]
        unfold endS
        rw [if_neg (by simp), List.map_append]
        rw [List.length_map] at Q5
        exact Q5.mono fun b hb _ => hb.elim (hF.out b) (fun h => Nat.le_trans (hN.out.trans N4).size h)
      · go_wp2_with fail
        go_ret
        refine ⟨_, rfl, ?_, hN.out⟩
        rw [HE.out]
        unfold endS
        rw [if_pos rfl]
        exact hq'.out.mono fun b hb _ => hF.out b hb
end Go.Proofs.YtjpjcojabjkaaaaDoor
