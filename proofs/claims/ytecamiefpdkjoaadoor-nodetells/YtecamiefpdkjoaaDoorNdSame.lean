/-
  Whether two lists of texts, and two Items, are alike.
-/
import Derived.Test.YtecamiefpdkjoaaDoorNdLaw
namespace Go.Proofs.YtecamiefpdkjoaaDoor
open Go.RowKit
set_option maxRecDepth 20000
set_option linter.unusedVariables false

set_option maxHeartbeats 1000000 in
theorem texts_any (hs js : List (List UInt8)) (a b : Option Addr) (c d : Nat) (hl : hs.length ≤ 4611686018427387904) (w : World) (hT : Tx w a hs) (hU : Tx w b js) :
    Calls Tryd.prog 33 #[.slice a hs.length c, .slice b js.length d] w fun e w' => e = .returned (.bool (hs == js)) ∧ New w w' := by
  have HT : Hid (Tx w a hs) := hT
  have HU : Hid (Tx w b js) := hU
  clear hT hU
  by_cases he : hs.length = js.length
  · have hd : ((hs.length : Int) != (js.length : Int)) = false := by rw [bne_eq_false_iff_eq]; omega
    go_enter Tryd.func33, Tryd.ntmps33
    go_wp2_with fail
    go_loopw [5] (fun i wr => ∃ k : Nat, k ≤ hs.length ∧ i = .int .i64 (k : Int) ∧ (∀ j, j < k → hs[j]? = js[j]?) ∧ New w wr) (fun i _ => hs.length - (intOf i).toNat)
    case atStart => exact ⟨0, by omega, rfl, fun j hj => absurd hj (by omega), New.refl w⟩
    case round =>
      obtain ⟨k, hk, rfl, hall, N⟩ := hrel
      have HA : Hid (∀ j, j < k → hs[j]? = js[j]?) := hall
      clear hall
      by_cases hlt : k < hs.length
      · have hlt' : (k : Int) < (hs.length : Int) := by omega
        have hlt2 : (k : Int) < (js.length : Int) := by omega
        obtain ⟨x, rfl, hx⟩ := (HT.out.after N) (by omega)
        obtain ⟨y, rfl, hy⟩ := (HU.out.after N) (by omega)
        have hc1 := hx k hs[k] (List.getElem?_eq_getElem hlt)
        have hc2 := hy k js[k] (List.getElem?_eq_getElem (by omega))
        have d1 : ∀ p : NewW wr, p.v.cell? (x.add k) = some (.string (bs hs[k])) := fun p => (p.h.cell (World.block_lt_of_cell? wr _ hc1)).trans hc1
        have d2 : ∀ p : NewW wr, p.v.cell? (y.add k) = some (.string (bs js[k])) := fun p => (p.h.cell (World.block_lt_of_cell? wr _ hc2)).trans hc2
        have hne := NewW.ne wr
        have hq : ((bs hs[k]).toList == (bs js[k]).toList) = (hs[k] == js[k]) := beq_bs _ _
        have hq2 : ((bs hs[k]).toList != (bs js[k]).toList) = !(hs[k] == js[k]) := by rw [← hq]; rfl
        clear hx hy hc1 hc2
        by_cases heq : hs[k] = js[k]
        · have HE : Hid (hs[k]? = js[k]?) := by show _ = _; rw [List.getElem?_eq_getElem hlt, List.getElem?_eq_getElem (by omega), heq]
          have hb : (hs[k] == js[k]) = true := by rw [beq_iff_eq]; exact heq
          rw [hb] at hq hq2
          clear heq hb
          generalize bs hs[k] = s1 at *
          generalize bs js[k] = s2 at *
          go_wp2_with fail
          refine region_new wr (New.refl wr) (by kernel_rfl) (by kernel_rfl) ?_
          repeat (go_big_quiet_step (fail))
          refine wpQuiet_nil ?_
          rintro w5 ⟨⟨_, k5⟩, rfl⟩
          go_wp2_with fail
          exact ⟨⟨k + 1, by omega, by go_num, fun j hj => by
            by_cases e : j = k
            · subst e; exact HE.out
            · exact HA.out j (by omega), N.trans k5⟩, by simp [intOf]; omega⟩
        · have hb : (hs[k] == js[k]) = false := by rw [beq_eq_false_iff_ne]; exact heq
          have HF : Hid ((hs == js) = false) := by
            show _ = _
            rw [beq_eq_false_iff_ne]
            intro e
            exact heq (by subst e; rfl)
          rw [hb] at hq hq2
          clear heq hb
          generalize bs hs[k] = s1 at *
          generalize bs js[k] = s2 at *
          go_wp2_with fail
          refine region_new wr (New.refl wr) (by kernel_rfl) (by kernel_rfl) ?_
          repeat (go_big_quiet_step (fail))
          refine wpQuiet_nil ?_
          rintro w5 ⟨⟨_, k5⟩, rfl⟩
          go_wp2_with fail
          go_ret
          exact ⟨ret_bool HF.out.symm, N.trans k5⟩
      · obtain rfl : k = hs.length := by omega
        have HF : Hid ((hs == js) = true) := by
          show _ = _
          rw [beq_iff_eq]
          apply List.ext_getElem?
          intro j
          by_cases hj : j < hs.length
          · exact HA.out j hj
          · rw [List.getElem?_eq_none (by omega), List.getElem?_eq_none (by omega)]
        go_wp2_with fail
        go_ret
        exact ⟨ret_bool HF.out.symm, N⟩
  · have hd : ((hs.length : Int) != (js.length : Int)) = true := by rw [bne_iff_ne]; omega
    have HF : Hid ((hs == js) = false) := by
      show _ = _
      rw [beq_eq_false_iff_ne]
      intro e
      exact he (by rw [e])
    go_enter Tryd.func33, Tryd.ntmps33
    go_wp2_with fail
    go_ret
    exact ⟨ret_bool HF.out.symm, New.refl w⟩

def eqIt (I J : It) : Bool := decide (I.k = J.k) && (I.p == J.p && (I.has == J.has && (I.v == J.v && (decide (I.m = J.m) && I.hs == J.hs))))
theorem eqIt_iff (I J : It) : eqIt I J = true ↔ I = J := by
  obtain ⟨a, b, c, d, e, f⟩ := I
  obtain ⟨a', b', c', d', e', f'⟩ := J
  simp only [eqIt, Bool.and_eq_true, beq_iff_eq, It.mk.injEq, decide_eq_true_eq]

set_option maxHeartbeats 2000000 in
theorem same_any (I J : It) (a b : Option Addr) (c d : Nat) (hl : I.hs.length ≤ 4611686018427387904) (w : World) (hT : Tx w a I.hs) (hU : Tx w b J.hs) :
    Calls Tryd.prog 17 #[itV I a c, itV J b d] w fun e w' => e = .returned (.bool (eqIt I J)) ∧ New w w' := by
  have HX := fun W h k => texts_any I.hs J.hs a b c d hl W h k
  obtain ⟨k, p, has, v, m, hs⟩ := I
  obtain ⟨k', p', has', v', m', js⟩ := J
  have HT : Hid (Tx w a hs) := hT
  have HU : Hid (Tx w b js) := hU
  obtain ⟨b1, hb1⟩ : ∃ x, decide (k = k') = x := ⟨_, rfl⟩
  obtain ⟨b2, hb2⟩ : ∃ x, (p == p') = x := ⟨_, rfl⟩
  obtain ⟨b3, hb3⟩ : ∃ x, (has == has') = x := ⟨_, rfl⟩
  obtain ⟨b4, hb4⟩ : ∃ x, (v == v') = x := ⟨_, rfl⟩
  obtain ⟨b5, hb5⟩ : ∃ x, decide (m = m') = x := ⟨_, rfl⟩
  have HL : Hid (eqIt ⟨k, p, has, v, m, hs⟩ ⟨k', p', has', v', m', js⟩ = (b1 && (b2 && (b3 && (b4 && (b5 && hs == js)))))) := by show _ = _; unfold eqIt; rw [hb1, hb2, hb3, hb4, hb5]
  rw [HL.out]
  have e1 : (k == k') = b1 := by rw [← hb1]; exact int_beq _ _
  have e2 : ((bs p).toList == (bs p').toList) = b2 := by rw [← hb2]; exact beq_bs _ _
  have e4 : ((bs v).toList == (bs v').toList) = b4 := by rw [← hb4]; exact beq_bs _ _
  have e5 : (m == m') = b5 := by rw [← hb5]; exact int_beq _ _
  have N0 : New w ((w.alloc (.cells #[.int .i64 k, .string (bs p), .bool has, .string (bs v), .int .i64 m, .slice a hs.length c] 24)).alloc (.cells #[.int .i64 k', .string (bs p'), .bool has', .string (bs v'), .int .i64 m', .slice b js.length d] 24)) := ((New.refl w).alloc _).alloc _
  clear HL hb1 hb2 hb4 hb5 hT hU hl
  show Calls Tryd.prog 17 #[.agg #[.int .i64 k, .string (bs p), .bool has, .string (bs v), .int .i64 m, .slice a hs.length c], .agg #[.int .i64 k', .string (bs p'), .bool has', .string (bs v'), .int .i64 m', .slice b js.length d]] w _
  replace HX : ∀ W, Tx W a hs → Tx W b js → Calls Tryd.prog 33 #[.slice a hs.length c, .slice b js.length d] W fun e w' => e = .returned (.bool (hs == js)) ∧ New W w' := HX
  generalize (hs == js) = b6 at *
  generalize bs p = sp at *
  generalize bs v = sv at *
  generalize bs p' = sp' at *
  generalize bs v' = sv' at *
  have hx : (b1 && (b2 && (b3 && (b4 && b5)))) = false ∨ (b1 = true ∧ b2 = true ∧ b3 = true ∧ b4 = true ∧ b5 = true) := by
    cases b1 <;> cases b2 <;> cases b3 <;> cases b4 <;> cases b5 <;> simp
  rcases hx with hf | ⟨rfl, rfl, rfl, rfl, rfl⟩
  · have HR : Hid ((b1 && (b2 && (b3 && (b4 && (b5 && b6))))) = false) := by
      show _ = _
      cases b1 <;> cases b2 <;> cases b3 <;> cases b4 <;> cases b5 <;> simp_all
    rw [HR.out]
    clear HR HX
    cases b1
    · clear hf
      go_enter Tryd.func17, Tryd.ntmps17
      go_wp2_with fail
      go_ret
      exact ⟨rfl, N0⟩
    · cases b2
      · clear hf
        go_enter Tryd.func17, Tryd.ntmps17
        go_wp2_with fail
        go_ret
        exact ⟨rfl, N0⟩
      · cases b3
        · clear hf
          go_enter Tryd.func17, Tryd.ntmps17
          go_wp2_with fail
          go_ret
          exact ⟨rfl, N0⟩
        · cases b4
          · clear hf
            go_enter Tryd.func17, Tryd.ntmps17
            go_wp2_with fail
            go_ret
            exact ⟨rfl, N0⟩
          · cases b5
            · clear hf
              go_enter Tryd.func17, Tryd.ntmps17
              go_wp2_with fail
              go_ret
              exact ⟨rfl, N0⟩
            · cases hf
  · go_enter Tryd.func17, Tryd.ntmps17
    go_wp2_with fail
    refine (HX _ (HT.out.after N0) (HU.out.after N0)).mono ?_
    rintro e w1 ⟨rfl, g1⟩
    cases b6
    all_goals
      go_wp2_with fail
      go_ret
      exact ⟨rfl, N0.trans g1⟩

end Go.Proofs.YtecamiefpdkjoaaDoor
