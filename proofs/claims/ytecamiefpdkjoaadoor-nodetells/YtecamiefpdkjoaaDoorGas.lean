/-
  The reference's Decode, of a text that is not empty.
-/
import Derived.Test.YtecamiefpdkjoaaDoorGaq
namespace Go.Proofs.YtecamiefpdkjoaaDoor
open Go.RowKit
set_option maxRecDepth 20000
set_option linter.unusedVariables false

def rM0 (s : List UInt8) : Nat := if byteN s 0 = 3 then byteN s 1 * 256 + byteN s 2 else 0
theorem c_unpack (s : ByteArray) (hs : s.size ≤ 4000) (l : List UInt8) (hl : L s = l) : ∀ W, Says 25 #[.string s] (.agg #[.string (bs (if unpackB l then unN l else [])), .int .i64 ((if unpackB l then unUsed l else 0 : Nat) : Int), .bool (unpackB l)]) W := fun W => by
  have h := refUnpack_any s hs W
  rw [hl] at h
  cases hu : unpackB l
  · rw [hu] at h
    exact h
  · rw [hu] at h
    exact h
theorem exec_store_bool {o : Oper} {a : Act} {w : World} {x y : Operand} {g off : Nat} {b : Bool} {u : Value} (ho : o.op = .store 4 x y) (hx : a.eval x = .pointer (some ⟨g, off, none⟩)) (hy : a.eval y = .bool b) (hc : w.cell? ⟨g, off, none⟩ = some u) (hf : w.frozen? ⟨g, off, none⟩ = false) :
    (execOp a.eval o).run Tryd.prog w = .ok .skip (w.setCell ⟨g, off, none⟩ (.bool b)) := by
  unfold execOp
  simp only [ho, hx, hy]
  simp [hc, hf, go_sem]
section
variable {P : Program} {ops : Array Oper} {Q : Exit → Act → World → Prop} {S : World → Prop} {rest : List Oper} {ks : List Nat} {k : Nat} {o : Oper} {a : Act} {w : World}
theorem wpPre_skip (d : Option Tmp) (w' : World) (ho : ops[k]? = some o) (hd : o.dst = d) (hw : Region.wanted o (yielded ops a.tmps) = true) (hrun : (execOp a.eval o).run P w = .ok .skip w') (hS : S w')
    (h : wpPre P ops Q S rest ks (a.put d undef) w') : wpPre P ops Q S rest (k :: ks) a w := by
  refine wpOp_wp ho hw ?_
  subst hd
  unfold Oper.wp
  rw [hrun]
  exact ⟨hS, h⟩
end
structure AnyW where
  v : World
def upC (p : List UInt8) (n : Nat) (b : Bool) : Array Value := #[.string (bs p), .int .i64 (n : Int), .bool b]
theorem upC_one (p : List UInt8) (n : Nat) (b : Bool) : (upC p n b).all (·.oneCell') = true := by simp [upC, Value.oneCell']
theorem upC_size (p : List UInt8) (n : Nat) (b : Bool) : (Tryd.prog.info? 52).map (·.size) = some (upC p n b).size := i52
set_option maxHeartbeats 8000000 in
theorem rdec_full (s : ByteArray) (h : 0 < s.size) (hs : s.size ≤ 2000) (w : World) :
    Calls Tryd.prog 12 #[.string s] w fun e w' => MadeR w (decB (L s)) (rIt (L s)) e w' := by
  obtain ⟨bb, inf⟩ := info32
  obtain ⟨bu, inu⟩ := info52
  have HSZ : Hid ((L s).length = s.size) := L_size s
  have e1 : s.toList.isEmpty = false := by rw [toList_L, List.isEmpty_eq_false_iff]; intro e; have := congrArg List.length e; rw [L_size, List.length_nil] at this; omega
  have e2 : (s.toList == []) = false := by rw [toList_L]; exact beq_eq_false_iff_ne.2 (by intro e; have := congrArg List.length e; rw [L_size, List.length_nil] at this; omega)
  have hne1 : emptyB (L s) = false := emptyB_false.2 (by intro e; have := congrArg List.length e; rw [L_size, List.length_nil] at this; omega)
  have HNE := hide hne1
  clear hne1
  obtain ⟨k, hk⟩ : ∃ k, byteN (L s) 0 = k := ⟨_, rfl⟩
  have HK := hide hk
  have h0' : (0 : Int) < (s.size : Int) := by omega
  have hk0 : (s[0]'h).toNat = k := by rw [← hk]; exact byte_at s 0 h
  have hk256 : k < 256 := by rw [← hk0]; exact UInt8.toNat_lt _
  have hwk : IntKind.i64.wrap (k : Int) = (k : Int) := wraps_i64 _ (Int.natCast_nonneg _) (by omega)
  clear hk
  go_enter Tryd.func12, Tryd.ntmps12
  go_upto_if 20 with (first
    | (refine wpList_alloc_at (by rfl) 2 (by rfl) 32 (by rfl) _ _ _ inf ?_; intro W1 R1 N1)
    | refine wpList_build1 (by rfl) 24 _ (by rfl) _ (by rfl) (itR (k : Int) [] false [] 0 (.slice none 0 0)) (built24_one _) ?_
    | (refine wpList_alloc_at (by rfl) 3 (by rfl) 24 (by rfl) _ _ _ info24 ?_; intro W2 R2 N2)
    | (refine wpList_store_new (by rfl) 24 _ _ (by rfl) W1.heap.size (itR (k : Int) [] false [] 0 (.slice none 0 0)) (by rfl) (by rfl) 24 itZ R2 i24 rfl (itR_one _ _ _ _ _ _ _ _) ?_; intro W3 R3 B3; have c0 : W3.cell? ⟨W1.heap.size, 0, none⟩ = some (.int .i64 (k : Int)) := R3.cell 0))
  have lw := N1.size
  have l1 := R1.lt
  replace R1 : Row W3 w.heap.size gotZ 32 := (R1.after N2).but B3 (by omega)
  have N : New w W3 := B3.new (N1.trans N2) (by omega)
  have hwz : w.heap.size ≤ w.heap.size := Nat.le_refl _
  have hzg : w.heap.size < W1.heap.size := l1
  have hgl := R3.lt
  clear R2 N1 N2 B3 lw l1
  generalize hz : w.heap.size = z at R1 hzg ⊢
  generalize W1.heap.size = g at *
  have hwz : w.heap.size ≤ z := by omega
  have HZ := hide hz
  clear hz
  go_cut [4, 5] from 6 to 55 (fun s4 s5 wx => s4 = .int .i64 ((rAt (L s) : Nat) : Int) ∧ s5 = .bool (rHas (L s)) ∧ Row wx g (itR (k : Int) (rPath (L s)) false [] ((rM0 (L s) : Nat) : Int) (.slice none 0 0)) 24 ∧ Row wx z gotZ 32 ∧ New w wx ∧ rHeadB (L s) = true ∧ g < wx.heap.size ∧ 1 ≤ rAt (L s) ∧ rAt (L s) ≤ 300)
  case first =>
    by_cases k3 : k = 3
    · have d3 : ((k : Int) == 3) = true := by rw [int_beq]; exact decide_eq_true (by omega)
      have f3 : ((k : Int) == 1) = false := by rw [int_beq]; exact decide_eq_false (by omega)
      have Hk3 : Hid (byteN (L s) 0 = 3) := by show _ = _; rw [HK.out]; exact k3
      by_cases h4 : 4 ≤ s.size
      · have q1 : decide ((s.size : Int) < 4) = false := decide_eq_false (by omega)
        have q1' : decide (s.size < 4) = false := decide_eq_false (by omega)
        obtain ⟨n1, hn1⟩ : ∃ x, byteN (L s) 1 = x := ⟨_, rfl⟩
        have Hn1 := hide hn1
        have x1 : (s[1]'(by omega)).toNat = n1 := by rw [← hn1]; exact byte_at s 1 (by omega)
        have y1 : n1 < 256 := by rw [← x1]; exact UInt8.toNat_lt _
        have z1 : IntKind.i64.wrap (n1 : Int) = (n1 : Int) := wraps_i64 _ (Int.natCast_nonneg _) (by omega)
        obtain ⟨n2, hn2⟩ : ∃ x, byteN (L s) 2 = x := ⟨_, rfl⟩
        have Hn2 := hide hn2
        have x2 : (s[2]'(by omega)).toNat = n2 := by rw [← hn2]; exact byte_at s 2 (by omega)
        have y2 : n2 < 256 := by rw [← x2]; exact UInt8.toNat_lt _
        have z2 : IntKind.i64.wrap (n2 : Int) = (n2 : Int) := wraps_i64 _ (Int.natCast_nonneg _) (by omega)
        obtain ⟨n3, hn3⟩ : ∃ x, byteN (L s) 3 = x := ⟨_, rfl⟩
        have Hn3 := hide hn3
        have x3 : (s[3]'(by omega)).toNat = n3 := by rw [← hn3]; exact byte_at s 3 (by omega)
        have y3 : n3 < 256 := by rw [← x3]; exact UInt8.toNat_lt _
        have z3 : IntKind.i64.wrap (n3 : Int) = (n3 : Int) := wraps_i64 _ (Int.natCast_nonneg _) (by omega)
        have h43 : (3 : Int) < (s.size : Int) := by omega
        have h41 : (1 : Int) < (s.size : Int) := by omega
        have h42 : (2 : Int) < (s.size : Int) := by omega
        by_cases hb : n3 ≤ 1
        · have q2 : decide ((1 : Int) < (n3 : Int)) = false := decide_eq_false (by omega)
          have q2' : decide (1 < n3) = false := decide_eq_false (by omega)
          obtain ⟨mm, hmm⟩ : ∃ x, n1 * 256 + n2 = x := ⟨_, rfl⟩
          have hws : IntKind.i64.wrap ((n1 : Int) * 256) = (n1 : Int) * 256 := wraps_i64 _ (by omega) (by omega)
          have hor : bits .or .i64 ((n1 : Int) * 256) (n2 : Int) = (mm : Int) := by rw [← x2, or_byte_int n1 _ (by omega), x2, hmm]
          have HM : Hid (rM0 (L s) = mm) := by show _ = _; unfold rM0; rw [Hk3.out, if_pos rfl, Hn1.out, Hn2.out, hmm]
          have HP : Hid (rPath (L s) = []) := by show _ = _; unfold rPath; rw [Hk3.out, if_pos rfl]
          have HA : Hid (rAt (L s) = 4) := by show _ = _; unfold rAt; rw [Hk3.out, if_pos rfl]
          have HH : Hid (rHas (L s) = ((n3 : Int) == 1)) := by show _ = _; unfold rHas; rw [Hk3.out, if_pos rfl, Hn3.out, int_beq]; exact decide_eq_decide.2 (by omega)
          have HB : Hid (rHeadB (L s) = true) := by show _ = _; unfold rHeadB; rw [Hk3.out, if_pos rfl, Hn3.out, decide_eq_true (by rw [HSZ.out]; exact h4), decide_eq_true hb]; rfl
          have y4 : W3.cell? ⟨g, 4, none⟩ = some (.int .i64 0) := R3.cell 4
          have f4 := R3.frozen 4
          clear k3 hmm
          go_upto_region 9 with fail
          have hne := NewW.ne W3
          refine region_first 8 2 W3 (New.refl W3) (by kernel_rfl) (by kernel_rfl) ?_
          simp only [List.take_succ_cons, List.take_zero, List.drop_succ_cons, List.drop_zero]
          repeat (go_big_quiet_step (fail))
          refine wpQuiet_nil ?_
          rintro Wq ⟨⟨_, kq⟩, rfl⟩
          have Rq := R3.after kq
          have Zq := R1.after kq
          have Nq := N.trans kq
          have z4 := (kq.cell hgl).trans y4
          have g4 := Rq.frozen 4
          have lq := kq.size
          clear c0 y4 f4 hne
          go_wp2_with fail
          go_meet
          case rel =>
            rw [HM.out, HP.out, HA.out, HH.out]
            exact ⟨rfl, rfl, Rq.set 4 _, Zq.setOther (a := ⟨g, 4, none⟩) (by show z ≠ g; omega) _, Nq.setCell (a := ⟨g, 4, none⟩) (by show w.heap.size ≤ g; omega) _, HB.out, by simp [World.setCell]; omega, by omega, by omega⟩
        · have q2 : decide ((1 : Int) < (n3 : Int)) = true := decide_eq_true (by omega)
          have q2' : decide (1 < n3) = true := decide_eq_true (by omega)
          have HF : Hid (rOkB (L s) = false) := by show _ = _; unfold rOkB rHeadB; rw [Hk3.out, if_pos rfl, Hn3.out, decide_eq_false hb, Bool.and_false, Bool.false_and, Bool.and_false]
          go_wp2_with (first
            | refine wpList_build0 (by rfl) 32 (by rfl) gotZ built32_none ?_
            | (refine wpList_store_new (by rfl) 32 _ _ (by rfl) z gotZ (by rfl) (by rfl) 32 gotZ R1 i32 rfl gotZ_one ?_; intro Wf Rf Bf))
          exact bodyPost_ret (results_cell_row rfl _ _ z 32 gotZ (0, 0) _ rfl Rf Tryd.underlying32 rfl i32) rfl (MadeR.no (dec_none HF.out) (Bf.new N hwz))
      · have q1 : decide ((s.size : Int) < 4) = true := decide_eq_true (by omega)
        have q1' : decide (s.size < 4) = true := decide_eq_true (by omega)
        have HF : Hid (rOkB (L s) = false) := by show _ = _; unfold rOkB rHeadB; rw [Hk3.out, if_pos rfl, decide_eq_false (show ¬ 4 ≤ (L s).length by rw [HSZ.out]; exact h4), Bool.false_and, Bool.false_and, Bool.and_false]
        go_wp2_with (first
          | refine wpList_build0 (by rfl) 32 (by rfl) gotZ built32_none ?_
          | (refine wpList_store_new (by rfl) 32 _ _ (by rfl) z gotZ (by rfl) (by rfl) 32 gotZ R1 i32 rfl gotZ_one ?_; intro Wf Rf Bf))
        exact bodyPost_ret (results_cell_row rfl _ _ z 32 gotZ (0, 0) _ rfl Rf Tryd.underlying32 rfl i32) rfl (MadeR.no (dec_none HF.out) (Bf.new N hwz))
    · have d3 : ((k : Int) == 3) = false := by rw [int_beq]; exact decide_eq_false (by omega)
      have Hk3 : Hid (¬ byteN (L s) 0 = 3) := by show ¬ _; rw [HK.out]; exact k3
      have hLd : L (s.extract 1 s.size) = (L s).drop 1 := by rw [L_extract, List.take_of_length_le (by rw [L_size]; omega)]
      have hxs : (s.extract 1 s.size).size ≤ 2000 := by rw [ByteArray.size_extract]; omega
      have HU := c_unpack (s.extract 1 s.size) (by omega) _ hLd
      have hx1 : decide ((s.size : Int) < 1) = false := decide_eq_false (by omega)
      have hx2 : decide (s.size < 1) = false := decide_eq_false (by omega)
      clear hLd k3
      cases hub : unpackB ((L s).drop 1)
      · rw [hub] at HU
        have HF : Hid (rOkB (L s) = false) := by show _ = _; unfold rOkB rHeadB; rw [if_neg Hk3.out, hub, Bool.false_and, Bool.and_false]
        clear hub
        replace HU : ∀ W, Says 25 #[.string (s.extract 1 s.size)] (.agg #[.string (bs []), .int .i64 0, .bool false]) W := HU
        generalize hsx : s.extract 1 s.size = sx at *
        go_wp2_with fail
        refine (HU _).mono ?_
        rintro _ V1 ⟨rfl, kk⟩
        replace R1 := R1.after kk
        replace N := N.trans kk
        have lv := N.size
        have lz := R1.lt
        go_wp2_with (first
      | (refine wpList_alloc_at (by rfl) 6 (by rfl) 52 (by rfl) _ _ _ inu ?_; intro Y1 Ra Na)
        | (refine wpList_store_new (by rfl) 52 _ _ (by rfl) V1.heap.size (upC [] 0 false) (by rfl) (by rfl) 52 #[.string ⟨#[]⟩, .int .i64 0, .bool false] Ra (upC_size _ _ _) rfl (upC_one _ _ _) ?_; intro Y2 Rb Bb; have hnv : z ≠ V1.heap.size := (by omega); replace R1 := (R1.after Na).but Bb hnv; replace N := Bb.new (N.trans Na) lv; have u2 : Y2.cell? ⟨V1.heap.size, 2, none⟩ = some (.bool false) := Rb.cell 2)
      | refine wpList_build0 (by rfl) 32 (by rfl) gotZ built32_none ?_
      | (refine wpList_store_new (by rfl) 32 _ _ (by rfl) z gotZ (by rfl) (by rfl) 32 gotZ R1 i32 rfl gotZ_one ?_; intro Wf Rf Bf))
        exact bodyPost_ret (results_cell_row rfl _ _ z 32 gotZ (0, 0) _ rfl Rf Tryd.underlying32 rfl i32) rfl (MadeR.no (dec_none HF.out) (Bf.new N hwz))
      · rw [hub] at HU
        obtain ⟨pn, hpn⟩ : ∃ x, unN ((L s).drop 1) = x := ⟨_, rfl⟩
        obtain ⟨un, hun⟩ : ∃ x, unUsed ((L s).drop 1) = x := ⟨_, rfl⟩
        have hun9 : un ≤ 9 := by rw [← hun]; exact unUsed_le _ hub
        have HM : Hid (rM0 (L s) = 0) := by show _ = _; unfold rM0; rw [if_neg Hk3.out]
        have HP : Hid (rPath (L s) = pn) := by show _ = _; unfold rPath; rw [if_neg Hk3.out, hpn]
        have HA : Hid (rAt (L s) = 1 + un) := by show _ = _; unfold rAt; rw [if_neg Hk3.out, hun]
        have HH : Hid (rHas (L s) = ((k : Int) == 1)) := by show _ = _; unfold rHas; rw [if_neg Hk3.out, HK.out, int_beq]; exact decide_eq_decide.2 (by omega)
        have HB : Hid (rHeadB (L s) = true) := by show _ = _; unfold rHeadB; rw [if_neg Hk3.out, hub]
        replace HU : ∀ W, Says 25 #[.string (s.extract 1 s.size)] (.agg #[.string (bs pn), .int .i64 (un : Int), .bool true]) W := by rw [← hpn, ← hun]; exact HU
        clear hub hpn hun
        generalize hsx : s.extract 1 s.size = sx at *
        go_wp2_with fail
        refine (HU _).mono ?_
        rintro _ V1 ⟨rfl, kk⟩
        replace R1 := R1.after kk
        replace R3 := R3.after kk
        replace N := N.trans kk
        have lv := N.size
        have lz := R1.lt
        have lg := R3.lt
        go_wp2_with (first
      | (refine wpList_alloc_at (by rfl) 6 (by rfl) 52 (by rfl) _ _ _ inu ?_; intro Y1 Ra Na)
        | (refine wpList_store_new (by rfl) 52 _ _ (by rfl) V1.heap.size (upC pn un true) (by rfl) (by rfl) 52 #[.string ⟨#[]⟩, .int .i64 0, .bool false] Ra (upC_size _ _ _) rfl (upC_one _ _ _) ?_; intro Y2 Rb Bb; have hnv : z ≠ V1.heap.size := (by omega); have hng : g ≠ V1.heap.size := (by omega); have hng2 : V1.heap.size ≠ g := (by omega); replace R1 := (R1.after Na).but Bb hnv; replace R3 := (R3.after Na).but Bb hng; replace N := Bb.new (N.trans Na) lv; have lY := R3.lt; have u0 : Y2.cell? ⟨V1.heap.size, 0, none⟩ = some (.string (bs pn)) := Rb.cell 0; have u1 : Y2.cell? ⟨V1.heap.size, 1, none⟩ = some (.int .i64 (un : Int)) := Rb.cell 1; have u2 : Y2.cell? ⟨V1.heap.size, 2, none⟩ = some (.bool true) := Rb.cell 2; have y1 : Y2.cell? ⟨g, 1, none⟩ = some (.string (bs [])) := R3.cell 1; have f1 := R3.frozen 1))
        go_meet
        case rel =>
          rw [HM.out, HP.out, HA.out, HH.out]
          exact ⟨by go_num, rfl, (set_ip _ _ _ _ _ _ _) ▸ R3.set 1 _, R1.setOther (a := ⟨g, 1, none⟩) (by show z ≠ g; omega) _, N.setCell (a := ⟨g, 1, none⟩) (by show w.heap.size ≤ g; omega) _, HB.out, by simp [World.setCell]; omega, by omega, by omega⟩
  case rest =>
    obtain ⟨rfl, rfl, R3, R1, N, hhd, hglt, hA1, hA3⟩ := hcut
    have HHd := hide hhd
    obtain ⟨A, hA⟩ : ∃ x, rAt (L s) = x := ⟨_, rfl⟩
    have EA := hide hA
    obtain ⟨hv, hhv⟩ : ∃ x, rHas (L s) = x := ⟨_, rfl⟩
    have Ehv := hide hhv
    obtain ⟨P, hP⟩ : ∃ x, rPath (L s) = x := ⟨_, rfl⟩
    have EP := hide hP
    obtain ⟨M, hM⟩ : ∃ x, rM0 (L s) = x := ⟨_, rfl⟩
    have EM := hide hM
    rw [hA] at hA1 hA3
    rw [hP, hM] at R3
    rw [hA, hhv]
    clear hA hhv hP hM hhd c0
    obtain ⟨O, hO⟩ : ∃ x, rO (L s) hv A = x := ⟨_, rfl⟩
    obtain ⟨V, hV⟩ : ∃ x, rV (L s) hv A = x := ⟨_, rfl⟩
    have EO := hide hO
    have EV := hide hV
    clear hO hV
    have hwg : w.heap.size ≤ g := by omega
    go_upto_if 56 with fail
    go_cut [4] from 6 to 91 (fun s4 wx => s4 = .int .i64 (O : Int) ∧ Row wx g (itR (k : Int) P hv V (M : Int) (.slice none 0 0)) 24 ∧ Row wx z gotZ 32 ∧ New w wx ∧ rOkB (L s) = true ∧ g < wx.heap.size ∧ V.length ≤ 255 ∧ 1 ≤ O ∧ O ≤ 600)
    case first =>
      cases hv
      · have hO : O = A := EO.out.symm
        have hV : V = [] := EV.out.symm
        have HB : Hid (rOkB (L s) = true) := by show _ = _; unfold rOkB; rw [HNE.out, HHd.out, Ehv.out]; rfl
        subst hO; subst hV
        go_wp2_with fail
        go_meet
        case rel => exact ⟨rfl, R3, R1, N, HB.out, hglt, by simp, by omega, by omega⟩
      · by_cases hA : A < s.size
        · have q1 : decide ((s.size : Int) ≤ (A : Int)) = false := decide_eq_false (by omega)
          have q1' : decide (s.size ≤ A) = false := decide_eq_false (by omega)
          have hAI : (A : Int) < (s.size : Int) := by omega
          obtain ⟨b, hb⟩ : ∃ x, byteN (L s) A = x := ⟨_, rfl⟩
          have x1 : (s[A]'hA).toNat = b := by rw [← hb]; exact byte_at s A hA
          have hb256 : b < 256 := by rw [← x1]; exact UInt8.toNat_lt _
          have hwb : IntKind.i64.wrap (b : Int) = (b : Int) := wraps_i64 _ (Int.natCast_nonneg _) (by omega)
          obtain ⟨a1, ha1⟩ : ∃ x, A + 1 = x := ⟨_, rfl⟩
          obtain ⟨f, hf⟩ : ∃ x, a1 + b = x := ⟨_, rfl⟩
          have r1 : (A : Int) + 1 = (a1 : Int) := by omega
          have r2 : (a1 : Int) + (b : Int) = (f : Int) := by omega
          by_cases hfs : f ≤ s.size
          · have q2 : decide ((s.size : Int) < (f : Int)) = false := decide_eq_false (by omega)
            have q2' : decide (s.size < f) = false := decide_eq_false (by omega)
            have q3 : decide ((f : Int) < (a1 : Int)) = false := decide_eq_false (by omega)
            have q3' : decide (f < a1) = false := decide_eq_false (by omega)
            have q4 : (a1 : Int) ≤ (f : Int) := by omega
            have q5 : (f : Int) ≤ (s.size : Int) := by omega
            have HO : Hid (O = A + (1 + b)) := by show _ = _; rw [← EO.out]; unfold rO; rw [if_pos rfl, hb]
            have HV : Hid (s.extract a1 f = bs V) := by
              show _ = _
              refine eq_of_L ?_
              rw [L_bs, ← EV.out, L_extract]
              unfold rV
              rw [if_pos rfl, hb, ha1, List.drop_take, show f - a1 = b by omega]
            have HVl : Hid (V.length ≤ 255) := by show _ ≤ _; rw [← EV.out]; unfold rV; rw [if_pos rfl, hb, List.length_take]; omega
            have HB : Hid (rOkB (L s) = true) := by show _ = _; unfold rOkB rValB; rw [HNE.out, HHd.out, Ehv.out, EA.out, hb, decide_eq_true (by rw [HSZ.out]; exact hA), decide_eq_true (by rw [HSZ.out]; omega)]; rfl
            have y2 : wc.cell? ⟨g, 2, none⟩ = some (.bool false) := R3.cell 2
            have f2 := R3.frozen 2
            have y3 : wc.cell? ⟨g, 3, none⟩ = some (.string (bs [])) := R3.cell 3
            have f3 := R3.frozen 3
            clear hb
            go_upto_region 21 with fail
            have hne : Nonempty AnyW := ⟨⟨wc⟩⟩
            refine region_take [0, 1, 2, 3, 4, 5, 6, 7, 8] [9, 10] 11 (fun w' => ∃ p : AnyW, w' = p.v) ⟨⟨_⟩, rfl⟩ (by kernel_rfl) (by kernel_rfl) (fun d _ _ _ _ h => by first | exact h | (cases d <;> exact h)) ?_
            simp only [pick, List.getElem?_cons_succ, List.getElem?_cons_zero, Option.toList_some, List.cons_append, List.nil_append]
            repeat (go_big_quiet_step (fail))
            refine wpQuiet_nil ?_
            clear hne
            have Rq : Row wc.drew g _ 24 := R3
            have Zq : Row wc.drew z gotZ 32 := R1
            have Nq : New w wc.drew := N.drewR
            refine wpPre_skip none (wc.drew.setCell ⟨g, 2, none⟩ (.bool true)) (by rfl) (by rfl) (by rfl) (exec_store_bool (u := .bool false) (by rfl) (by rfl) (by rfl) y2 f2) ⟨⟨_⟩, rfl⟩ ?_
            simp only [Act.put]
            refine wpPre_run (some 87) (.pointer (some ⟨g, 3, none⟩)) (wc.drew.setCell ⟨g, 2, none⟩ (.bool true)) (by rfl) (by rfl) (by rfl) (by go_simp) ⟨⟨_⟩, rfl⟩ (wpPre_nil ?_)
            simp only [Act.put, List.setIfInBounds_toArray, List.set_cons_zero, List.set_cons_succ]
            replace Rq := Rq.set 2 (.bool true)
            replace Zq := Zq.setOther (a := ⟨g, 2, none⟩) (by show z ≠ g; omega) (.bool true)
            replace Nq := Nq.setCell (a := ⟨g, 2, none⟩) hwg (.bool true)
            have lq : wc.heap.size ≤ (wc.drew.setCell ⟨g, 2, none⟩ (.bool true)).heap.size := by simp [World.setCell]
            generalize wc.drew.setCell ⟨g, 2, none⟩ (.bool true) = Wq at *
            have z3 : Wq.cell? ⟨g, 3, none⟩ = some (.string (bs [])) := Rq.cell 3
            have g3 := Rq.frozen 3
            clear y2 f2 y3 f3
            go_wp2_with fail
            go_meet
            case rel =>
              rw [HV.out]
              have RR := Rq.set 3 (.string (bs V))
              exact ⟨by rw [HO.out]; go_num, RR, Zq.setOther (a := ⟨g, 3, none⟩) (by show z ≠ g; omega) _, Nq.setCell (a := ⟨g, 3, none⟩) hwg _, HB.out, by simp [World.setCell]; omega, HVl.out, by rw [HO.out]; omega, by rw [HO.out]; omega⟩
          · have q2 : decide ((s.size : Int) < (f : Int)) = true := decide_eq_true (by omega)
            have q2' : decide (s.size < f) = true := decide_eq_true (by omega)
            have HF : Hid (rOkB (L s) = false) := by show _ = _; unfold rOkB rValB; rw [Ehv.out, EA.out, hb, decide_eq_false (show ¬ A + 1 + b ≤ (L s).length by rw [HSZ.out]; omega), Bool.and_false]; simp
            go_wp2_with (first
              | refine wpList_build0 (by rfl) 32 (by rfl) gotZ built32_none ?_
              | (refine wpList_store_new (by rfl) 32 _ _ (by rfl) z gotZ (by rfl) (by rfl) 32 gotZ R1 i32 rfl gotZ_one ?_; intro Wf Rf Bf))
            exact bodyPost_ret (results_cell_row rfl _ _ z 32 gotZ (0, 0) _ rfl Rf Tryd.underlying32 rfl i32) rfl (MadeR.no (dec_none HF.out) (Bf.new N hwz))
        · have q1 : decide ((s.size : Int) ≤ (A : Int)) = true := decide_eq_true (by omega)
          have q1' : decide (s.size ≤ A) = true := decide_eq_true (by omega)
          have HF : Hid (rOkB (L s) = false) := by show _ = _; unfold rOkB rValB; rw [Ehv.out, EA.out, decide_eq_false (show ¬ A < (L s).length by rw [HSZ.out]; omega), Bool.false_and]; simp
          go_wp2_with (first
            | refine wpList_build0 (by rfl) 32 (by rfl) gotZ built32_none ?_
            | (refine wpList_store_new (by rfl) 32 _ _ (by rfl) z gotZ (by rfl) (by rfl) 32 gotZ R1 i32 rfl gotZ_one ?_; intro Wf Rf Bf))
          exact bodyPost_ret (results_cell_row rfl _ _ z 32 gotZ (0, 0) _ rfl Rf Tryd.underlying32 rfl i32) rfl (MadeR.no (dec_none HF.out) (Bf.new N hwz))
    case rest =>
      clear R1 R3 N hglt
      obtain ⟨rfl, R3, R1, N, hok, hglt, hVl, hO1, hO6⟩ := hcut
      have HOk := hide hok
      clear hok
      obtain ⟨M2, hM2⟩ : ∃ x, rMask (L s) = x := ⟨_, rfl⟩
      have EM2 := hide hM2
      clear hM2
      have c0 : wc.cell? ⟨g, 0, none⟩ = some (.int .i64 (k : Int)) := R3.cell 0
      go_upto_if 94 with fail
      go_cut [] from 6 to 95 (fun wx => Row wx g (itR (k : Int) P hv V (M2 : Int) (.slice none 0 0)) 24 ∧ Row wx z gotZ 32 ∧ New w wx ∧ g < wx.heap.size)
      case first =>
        by_cases k2 : k = 2
        · have d2 : ((k : Int) == 2) = true := by rw [int_beq]; exact decide_eq_true (by omega)
          have HM2 : Hid (M2 = 1) := by show _ = _; rw [← EM2.out]; unfold rMask; rw [HK.out, if_neg (by omega), if_pos k2]
          have y4 : wc.cell? ⟨g, 4, none⟩ = some (.int .i64 (M : Int)) := R3.cell 4
          have f4 := R3.frozen 4
          clear k2
          go_wp2_with fail
          go_meet
          case rel =>
            rw [HM2.out]
            exact ⟨R3.set 4 _, R1.setOther (a := ⟨g, 4, none⟩) (by show z ≠ g; omega) _, N.setCell (a := ⟨g, 4, none⟩) hwg _, by simp [World.setCell]; omega⟩
        · have d2 : ((k : Int) == 2) = false := by rw [int_beq]; exact decide_eq_false (by omega)
          have HM2 : Hid (M2 = M) := by show _ = _; rw [← EM2.out, ← EM.out]; unfold rMask rM0; rw [HK.out]; by_cases h3 : k = 3; (rw [if_pos h3, if_pos h3]); (rw [if_neg h3, if_neg h3, if_neg k2])
          clear k2
          go_wp2_with fail
          go_meet
          case rel => rw [HM2.out]; exact ⟨R3, R1, N, hglt⟩
      case rest =>
        clear R1 R3 N hglt c0
        obtain ⟨R3, R1, N, hglt⟩ := hcut
        obtain ⟨cN, hcN⟩ : ∃ x, (s.size - O) / 32 = x := ⟨_, rfl⟩
        obtain ⟨hsx, hhs⟩ : ∃ x, rHs (L s) O = x := ⟨_, rfl⟩
        have EHS := hide hhs
        have hcut1 : hsx = cutH ((L s).drop O) cN := by rw [← hhs]; unfold rHs; rw [HSZ.out, hcN]
        have ECUT := hide hcut1
        have hlenx : hsx.length = cN := by rw [hcut1]; exact cutH_length _ _
        have ELEN := hide hlenx
        have hcN62 : cN ≤ 62 := by omega
        clear hhs hcut1 hlenx
        obtain ⟨i0, hi0, hz0, hz1', hz2⟩ := info_parts info9
        obtain ⟨B, hBB⟩ : ∃ x, wc.heap.size = x := ⟨_, rfl⟩
        have hgB : g < B := by omega
        have hwB : w.heap.size ≤ B := by have := N.size; omega
        have hzB : z < B := by omega
        have hBle : B ≤ wc.heap.size := by omega
        clear hBB
        go_wp2_with fail
        go_loopw [4] (fun i wr => ∃ j q : Nat, j ≤ cN ∧ q = O + 32 * j ∧ i = .int .i64 (q : Int) ∧ ∃ v, Row wr g (itR (k : Int) P hv V (M2 : Int) v) 24 ∧ wr.ownsRow B 9 1 v j ((hsx.take j).map fun h => Value.string (bs h)) ∧ Row wr z gotZ 32 ∧ New w wr ∧ B ≤ wr.heap.size) (fun i _ => s.size + 64 - (intOf i).toNat)
        case atStart => exact ⟨0, O, by omega, rfl, rfl, _, R3, World.ownsRow_nil _ _ _ _, R1, N, hBle⟩
        case round =>
          clear R3 R1 N hBle hglt
          obtain ⟨j, q, hj, hq, rfl, v, R, hown, Rz, N, hBle⟩ := hrel
          have HQ := hide hq
          obtain ⟨q2, hq2⟩ : ∃ x, q + 32 = x := ⟨_, rfl⟩
          have r2 : (q : Int) + 32 = (q2 : Int) := by omega
          by_cases hlt : q2 ≤ s.size
          · have t1 : decide ((q2 : Int) ≤ (s.size : Int)) = true := decide_eq_true (by omega)
            have t1' : decide (q2 ≤ s.size) = true := decide_eq_true hlt
            have t2 : decide ((s.size : Int) < (q2 : Int)) = false := decide_eq_false (by omega)
            have t2' : decide (s.size < q2) = false := decide_eq_false (by omega)
            have t3 : decide ((q2 : Int) < (q : Int)) = false := decide_eq_false (by omega)
            have t3' : decide (q2 < q) = false := decide_eq_false (by omega)
            have t4 : (q : Int) ≤ (q2 : Int) := by omega
            have t5 : (q2 : Int) ≤ (s.size : Int) := by omega
            have hjc : j < cN := by omega
            have hjc' : (j : Int) < (cN : Int) := by omega
            have hqs : q ≤ 2000 := by omega
            obtain ⟨y, hy⟩ : ∃ y, ((L s).drop q).take 32 = y := ⟨_, rfl⟩
            have hyj : hsx[j]? = some y := by
              rw [ECUT.out]
              unfold cutH
              rw [List.getElem?_map, List.getElem?_range hjc, ← hy, hq, ← List.drop_drop]
              rfl
            have hyx : s.extract q q2 = bs y := by
              refine eq_of_L ?_
              rw [L_bs, ← hy, L_extract, List.drop_take, show q2 - q = 32 by omega]
            have HS : Hid ((hsx.take j).map (fun h => Value.string (bs h)) ++ [.string (bs y)] = (hsx.take (j + 1)).map fun h => Value.string (bs h)) := by
              show _ = _
              rw [List.take_add_one, hyj, List.map_append]; rfl
            have HYX := hide hyx
            have c5 : wr.cell? ⟨g, 5, none⟩ = some v := R.cell 5
            generalize (hsx.take j).map (fun h => Value.string (bs h)) = xs at *
            clear hy hyj hq hyx
            go_upto_region 26 with fail
            refine region_take [0, 1, 2, 3, 4, 5, 6] [7, 8, 9] 10 (HasCell ⟨g, 5, none⟩ v) ⟨⟨wr.drew, c5⟩, rfl⟩ (by kernel_rfl) (by kernel_rfl) (fun d _ _ _ _ h => by first | exact h | (cases d <;> exact h)) ?_
            simp only [pick, List.getElem?_cons_succ, List.getElem?_cons_zero, Option.toList_some, List.cons_append, List.nil_append]
            have hne : Nonempty (CellW ⟨g, 5, none⟩ v) := ⟨⟨wr, c5⟩⟩
            have q5 : ∀ q : CellW ⟨g, 5, none⟩ v, q.v.cell? ⟨g, 5, none⟩ = some v := fun q => q.h
            unfold HasCell
            repeat (go_big_quiet_step (fail))
            refine wpQuiet_nil ?_
            clear q5 hne
            rw [HYX.out]
            have M5 : New wr wr.drew := New.drew wr
            have hb1b := run_buildCell (P := Tryd.prog) wr.drew 22 9 (.string (bs y)) _ _ Tryd.underlying22 info9 rfl
            have M6 : New wr (wr.drew.alloc (.cells #[.string (bs y)] 9)) := M5.alloc _
            have hnews : Row (wr.drew.alloc (.cells #[.string (bs y)] 9)) wr.drew.heap.size #[.string (bs y)] 9 := Row.new wr.drew _ 9
            have hsz : (wr.drew.alloc (.cells #[.string (bs y)] 9)).heap.size = wr.drew.heap.size + 1 := by simp
            replace R := R.after M6
            replace Rz := Rz.after M6
            replace N := N.trans M6
            have hown5 := owns_of hown (fun b _ hlt => M6.block b hlt)
            have hbl := fun j hj => (hown.lt j hj).1
            generalize wr.drew.alloc (.cells #[.string (bs y)] 9) = w7 at *
            refine wpPre_run (some 108) _ w7 (by rfl) (by rfl) (by rfl) (exec_buildSlice (by rfl) (by rfl) hb1b) ⟨⟨w7, R.cell 5⟩, rfl⟩ ?_
            simp only [Act.put, List.setIfInBounds_toArray, List.set_cons_zero, List.set_cons_succ]
            obtain ⟨gg, cap, w6, hr6, hown6, hgrow, _, _⟩ := run_append_lies (P := Tryd.prog) w7 22 22 B 9 i0 _ 1 16 Tryd.underlying22 hi0 hz0 hz1' hz2 rfl (by decide) v j xs hown5 ⟨wr.drew.heap.size, 0, none⟩ 1 1 [.string (bs y)] rfl (World.news_of_block (cs := #[.string (bs y)]) hnews) (by simp [Value.oneCell']) (by decide) (by unfold maxLen; omega) (by omega) (by have : wr.drew.heap.size = wr.heap.size := rfl; omega) w7.heap.size rfl
            clear hown hown5 hb1b hnews M5
            have hn1 : ∀ x, x < B → v.ownBlock ≠ some x := fun x hx h => by have := hbl x h; omega
            have hs6 := hgrow.size
            have hd6 : wr.drew.heap.size = wr.heap.size := rfl
            have R6 := R.of (hgrow.block g R.lt (fun e => hn1 g hgB e.symm))
            have Rz6 := Rz.of (hgrow.block z Rz.lt (fun e => hn1 z hzB e.symm))
            have N6 := N.grown hgrow (fun x hx => by have := hbl x hx; omega)
            have y5 : w6.cell? ⟨g, 5, none⟩ = some v := R6.cell 5
            have f5 := R6.frozen 5
            refine wpPre_run (some 109) _ w6 (by rfl) (by rfl) (by rfl) (exec_append (by rfl) (by rfl) (by rfl) hr6) ⟨⟨w6, y5⟩, rfl⟩ ?_
            simp only [Act.put, List.setIfInBounds_toArray, List.set_cons_zero, List.set_cons_succ]
            refine wpPre_run (some 110) (.pointer (some ⟨g, 5, none⟩)) w6 (by rfl) (by rfl) (by rfl) (by go_simp) ⟨⟨w6, y5⟩, rfl⟩ ?_
            simp only [Act.put, List.setIfInBounds_toArray, List.set_cons_zero, List.set_cons_succ]
            refine wpPre_nil ?_
            clear R Rz N hgrow hr6 c5 M6
            rw [HS.out] at hown6
            go_wp2_with fail
            exact ⟨⟨j + 1, q2, by omega, by have := HQ.out; omega, by go_num, .slice (some ⟨gg, 0, none⟩) (j + 1) cap, (set_ih (k : Int) P hv V (M2 : Int) v _) ▸ R6.set 5 _, owns_of hown6 (fun x hx _ => Below.heap_setCell _ _ _ _ (by show x ≠ g; omega)), Rz6.setOther (a := ⟨g, 5, none⟩) (by show z ≠ g; omega) _, N6.setCell (a := ⟨g, 5, none⟩) hwg _, by simp [World.setCell]; omega⟩, by simp [intOf]; omega⟩
          · have t1 : decide ((q2 : Int) ≤ (s.size : Int)) = false := decide_eq_false (by omega)
            have t1' : decide (q2 ≤ s.size) = false := decide_eq_false hlt
            obtain rfl : j = cN := by omega
            have hlen : (hsx.take j).length = j := by rw [List.length_take, ELEN.out]; omega
            obtain ⟨a, c, rfl, hT, hTB⟩ := owns_tx hlen hown
            rw [hlen] at R
            have htk : hsx.take j = hsx := List.take_of_length_le (by rw [ELEN.out]; exact Nat.le_refl _)
            rw [htk] at hT
            have hJ : rIt (L s) = ⟨(k : Int), P, hv, V, (M2 : Int), hsx⟩ := by
              unfold rIt
              rw [HK.out, EP.out, Ehv.out, EA.out, EV.out, EM2.out, EO.out, EHS.out]
            have hJs : (rIt (L s)).hs = hsx := by rw [hJ]
            have hIt : itC (rIt (L s)) a c = itR (k : Int) P hv V (M2 : Int) (.slice a j c) := by
              rw [hJ]
              unfold itC itR
              rw [ELEN.out]
            have hGt : gotC (rIt (L s)) a c = #[.int .i64 (k : Int), .string (bs P), .bool hv, .string (bs V), .int .i64 (M2 : Int), .slice a j c, .bool true] := by
              rw [hJ]
              unfold gotC
              rw [ELEN.out]
            have hSm : Small (rIt (L s)) := by
              rw [hJ]
              refine ⟨?_, by show V.length ≤ 4000; omega, by show hsx.length ≤ _; rw [ELEN.out]; omega, fun x hx => ?_⟩
              · show P.length ≤ 4000
                rw [← EP.out]
                unfold rPath
                split
                · simp
                · exact Nat.le_trans (unN_le _) (by omega)
              · have hx' : x ∈ hsx := hx
                rw [ECUT.out] at hx'
                unfold cutH at hx'
                obtain ⟨i, _, rfl⟩ := List.mem_map.1 hx'
                rw [List.length_take]; omega
            have KE := c_renc (rIt (L s)) hSm a c
            rw [hIt] at KE
            have s24 : (Tryd.prog.info? 24).map (·.size) = some (itR (k : Int) P hv V (M2 : Int) (.slice a j c)).size := i24
            have hown0 := hTB
            clear hown hIt hSm hJ htk
            go_wp2_with (first
              | refine wpList_load_want (by rfl) 24 _ (by rfl) g (by rfl) 24 _ _ R Tryd.underlying24 rfl s24 ?_
              | refine wpList_load_row (by rfl) 24 _ (by rfl) g (by rfl) 24 _ (0, 0) _ R Tryd.underlying24 rfl s24 ?_)
            refine (KE _ (hJs ▸ hT)).mono ?_
            rintro _ V2 ⟨rfl, kk⟩
            replace R := R.after kk
            replace Rz := Rz.after kk
            replace N := N.trans kk
            replace hT := hT.after kk
            by_cases hE : encB (rIt (L s)) = L s
            · have hD := dec_it HOk.out hE
              have b1 : ((bs (encB (rIt (L s)))).toList != s.toList) = false := by rw [hE, bs_L]; exact bne_self_eq_false _
              have b2 : ((bs (encB (rIt (L s)))).toList == s.toList) = true := by rw [hE, bs_L]; exact beq_self_eq_true _
              have HD := hide hD.1
              generalize bs (encB (rIt (L s))) = se at *
              have oG := gotC_one (rIt (L s)) a c
              rw [hGt] at oG
              have hB2 := built32_two (k : Int) (bs P) hv (bs V) (M2 : Int) a j c
              clear hD hE
              go_wp2_with (first
                | refine wpList_load_row (by rfl) 24 _ (by rfl) g (by rfl) 24 _ (0, 0) _ R Tryd.underlying24 rfl s24 ?_
                | refine wpList_build2 (by rfl) 32 _ _ (by rfl) _ _ (by rfl) (by rfl) _ hB2 ?_
                | (refine wpList_store_new (by rfl) 32 _ _ (by rfl) z #[.int .i64 (k : Int), .string (bs P), .bool hv, .string (bs V), .int .i64 (M2 : Int), .slice a j c, .bool true] (by rfl) (by rfl) 32 gotZ Rz i32 rfl oG ?_; intro Wf Rf Bf))
              refine bodyPost_ret (results_cell_row rfl _ _ z 32 _ (0, 0) _ rfl Rf Tryd.underlying32 rfl i32) rfl ?_
              rw [← hGt]
              exact MadeR.yes HD.out (Bf.new N hwz) a c (by rw [hJs]; exact hT.of fun x hx _ => Bf.block _ (by have := hTB x hx; omega))
            · have hD := dec_not hE
              have b2 : ((bs (encB (rIt (L s)))).toList == s.toList) = false := by
                rw [beq_eq_false_iff_ne, toList_L, toList_L, L_bs]
                exact hE
              have b1 : ((bs (encB (rIt (L s)))).toList != s.toList) = true := by
                rw [bne_iff_ne, Ne, toList_L, toList_L, L_bs]
                exact hE
              have HD := hide hD
              generalize bs (encB (rIt (L s))) = se at *
              clear hD hE
              go_wp2_with (first
                | refine wpList_build0 (by rfl) 32 (by rfl) gotZ built32_none ?_
                | (refine wpList_store_new (by rfl) 32 _ _ (by rfl) z gotZ (by rfl) (by rfl) 32 gotZ Rz i32 rfl gotZ_one ?_; intro Wf Rf Bf))
              exact bodyPost_ret (results_cell_row rfl _ _ z 32 gotZ (0, 0) _ rfl Rf Tryd.underlying32 rfl i32) rfl (MadeR.no HD.out (Bf.new N hwz))

theorem c_rdec (s : ByteArray) (hs : s.size ≤ 2000) (w : World) : Calls Tryd.prog 12 #[.string s] w fun e w' => MadeR w (decB (L s)) (rIt (L s)) e w' := by
  by_cases h : 0 < s.size
  · exact rdec_full s h hs w
  · have hl : L s = [] := List.eq_nil_of_length_eq_zero (by rw [L_size]; omega)
    have hd : decB (L s) = false := dec_none (by rw [hl]; rfl)
    rw [hd]
    exact rdec_empty s (by omega) w

end Go.Proofs.YtecamiefpdkjoaaDoor
