/-
  The document's own May: the same as mayBe.
-/
import Derived.Test.YtelaiblhnhbgiaaDoorTrLeaf
namespace Go.Proofs.YtelaiblhnhbgiaaDoor
open Go.RowKit
set_option maxRecDepth 20000

theorem less_total : ∀ a b : Bt, (Op.bytesLess a b || (a == b)) = !Op.bytesLess b a
  | [], [] => rfl
  | _ :: _, [] => rfl
  | [], _ :: _ => rfl
  | a :: l, b :: m => by
    rw [less_cons, less_cons, Bool.eq_iff_iff]
    have ih := less_total l m
    rw [Bool.eq_iff_iff] at ih
    simp only [Bool.or_eq_true, Bool.and_eq_true, decide_eq_true_eq, Bool.not_eq_true', Bool.or_eq_false_iff, Bool.and_eq_false_iff, decide_eq_false_iff_not, beq_iff_eq, List.cons.injEq, ← UInt8.toNat_inj] at ih ⊢
    constructor
    · rintro ((h | ⟨h, h2⟩) | ⟨h, h2⟩)
      · exact ⟨by omega, .inl (by omega)⟩
      · exact ⟨by omega, .inr (ih.1 (.inl h2))⟩
      · exact ⟨by omega, .inr (ih.1 (.inr h2))⟩
    · rintro ⟨h1, h | h⟩
      · exact .inl (.inl (by omega))
      · by_cases e : a.toNat = b.toNat
        · rcases ih.2 h with h | h
          · exact .inl (.inr ⟨e, h⟩)
          · exact .inr ⟨e, h⟩
        · exact .inl (.inl (by omega))
theorem leq_run (a b : Bt) : (Op.bytesLess (bs a).toList (bs b).toList || ((bs a).toList == (bs b).toList)) = !upB b a := by
  rw [toList_L, toList_L, L_bs, L_bs]; exact less_total a b
theorem ok_bits (p : Pr) {b1 b2 b3 : Bool} (h1 : decide ((bs p.1).size < 1) = b1) (h2 : decide (8 < (bs p.1).size) = b2) (h3 : decide (16 < (bs p.2).size) = b3) : okP p = !(b1 || b2 || b3) := by
  subst h1 h2 h3
  rw [bs_size, bs_size]
  unfold okP
  rw [Bool.eq_iff_iff]
  simp only [Bool.or_eq_false_iff, Bool.not_eq_true', Bool.and_eq_true, decide_eq_true_eq, decide_eq_false_iff_not]
  omega
theorem nat_int {a b : Nat} {c : Bool} (h : decide (a < b) = c) : decide ((a : Int) < (b : Int)) = c := by
  rw [← h, Bool.eq_iff_iff, decide_eq_true_eq, decide_eq_true_eq]; omega

set_option maxHeartbeats 2000000 in
theorem refMay_any {w : World} {v : Value} {l : List Pr} (P : Ls w 2 v (l.map prC)) (hl : l.length ≤ 10000) (hk : ∀ p ∈ l, p.1.length ≤ 4000 ∧ p.2.length ≤ 4000) :
    Calls Tryd.prog 21 #[v] w fun e w' => e = .returned (.bool (mayB l)) ∧ New w w' := by
  obtain ⟨a, c, rfl, hc, HS⟩ := P.open ([], [])
  have HM : Hid (∀ i, i < l.length → (l.getD i ([], [])).1.length ≤ 4000 ∧ (l.getD i ([], [])).2.length ≤ 4000) := fun i h => hk _ (getD_mem h)
  have HB : Hid (mayB l = true ↔ ∀ i, i < l.length → atB l i = true) := mayB_iff l
  clear hk P
  go_enter Tryd.func21, Tryd.ntmps21
  go_wp2_with fail
  go_loopw [3] (fun i wr => ∃ k : Nat, k ≤ l.length ∧ i = .int .i64 (k : Int) ∧ Hid (∀ j, j < k → atB l j = true) ∧ New w wr) (fun i _ => l.length - (intOf i).toNat)
  case atStart => exact ⟨0, by omega, rfl, fun j h => absurd h (by omega), New.refl w⟩
  case round =>
    obtain ⟨k, hk, rfl, hall, N⟩ := hrel
    by_cases hlt : k < l.length
    · obtain ⟨g, o, rfl, hg, hr⟩ := HS.out (by omega)
      have R2 := hr wr N k hlt
      obtain ⟨p, hp⟩ : ∃ p, l.getD k ([], []) = p := ⟨_, rfl⟩
      have HP : Hid (l.getD k ([], []) = p) := hp
      rw [hp] at R2
      clear hp
      have HQ : Hid (∀ W, New w W → ∀ i, i < l.length → W.rangeAt g (o + i * 2) (prC (l.getD i ([], [])))) := hr
      clear hr
      have q0 := NewW.cell (W := wr) (g := g) (o := o + k * 2) (v := .string (bs p.1)) (R2 0 _ rfl)
      have q1 := NewW.cell (W := wr) (g := g) (o := o + k * 2 + 1) (v := .string (bs p.2)) (R2 1 _ rfl)
      clear R2
      have hne := NewW.ne wr
      obtain ⟨b1, h1⟩ : ∃ b, decide ((bs p.1).size < 1) = b := ⟨_, rfl⟩
      obtain ⟨b2, h2⟩ : ∃ b, decide (8 < (bs p.1).size) = b := ⟨_, rfl⟩
      obtain ⟨b3, h3⟩ : ∃ b, decide (16 < (bs p.2).size) = b := ⟨_, rfl⟩
      have HO : Hid (okP p = !(b1 || b2 || b3)) := ok_bits p h1 h2 h3
      have i1 : decide (((bs p.1).size : Int) < 1) = b1 := nat_int h1
      have i2 : decide ((8 : Int) < ((bs p.1).size : Int)) = b2 := nat_int h2
      have i3 : decide ((16 : Int) < ((bs p.2).size : Int)) = b3 := nat_int h3
      by_cases hb : (b1 || b2 || b3) = true
      · have HN : Hid (mayB l = false) := mayB_no HB.out hlt (atB_bad HP.out (by rw [HO.out, hb]; rfl))
        cases b1 <;> cases b2 <;> cases b3
        case false.false.false => cases hb
        all_goals
          clear hb
          go_wp2_with fail
          refine region_new wr (New.refl wr) (by kernel_rfl) (by kernel_rfl) ?_
          repeat (go_big_quiet_step (fail))
          refine wpQuiet_nil ?_
          rintro W3 ⟨⟨_, k3⟩, rfl⟩
          go_wp2_with fail
          go_ret
          exact ⟨ret_bool HN.out.symm, N.trans k3⟩
      · obtain ⟨rfl, rfl, rfl⟩ : b1 = false ∧ b2 = false ∧ b3 = false := by cases b1 <;> cases b2 <;> cases b3 <;> simp at hb ⊢
        clear hb
        by_cases hk0 : k = 0
        · have hd0 : decide ((0 : Int) < (k : Int)) = false := decide_eq_false (by omega)
          have hd1 : decide (0 < k) = false := decide_eq_false (by omega)
          have HK : Hid (k = 0) := hk0
          clear hk0
          go_wp2_with fail
          refine region_new wr (New.refl wr) (by kernel_rfl) (by kernel_rfl) ?_
          repeat (go_big_quiet_step (fail))
          refine wpQuiet_nil ?_
          rintro W3 ⟨⟨_, k3⟩, rfl⟩
          go_wp2_with fail
          go_roundw
          case rel =>
            refine ⟨k + 1, by omega, by go_num, fun j hj => ?_, N.trans k3⟩
            by_cases e : j = k
            · subst e
              exact atB_zero HK.out HP.out HO.out
            · exact hall.out j (by omega)
          case measure => simp [intOf]; omega
        · obtain ⟨m, hm⟩ : ∃ m, k = m + 1 := ⟨k - 1, by omega⟩
          have hd0 : decide ((0 : Int) < (k : Int)) = true := decide_eq_true (by omega)
          have hd1 : decide (0 < k) = true := decide_eq_true (by omega)
          have hkm : (k : Int) - 1 = (m : Int) := by omega
          have hml : m < l.length := by omega
          have HK : Hid (k = m + 1) := hm
          clear hk0 hm
          obtain ⟨q, hq⟩ : ∃ q, l.getD m ([], []) = q := ⟨_, rfl⟩
          have HQm : Hid (l.getD m ([], []) = q) := hq
          clear hq
          have RQ := HQ.out wr N m hml
          rw [HQm.out] at RQ
          have q2 := NewW.cell (W := wr) (g := g) (o := o + m * 2) (v := .string (bs q.1)) (RQ 0 _ rfl)
          have hup := leq_run p.1 q.1
          have HA : Hid (atB l k = (okP p && upB q.1 p.1)) := atB_succ HK.out HP.out HQm.out
          generalize upB q.1 p.1 = up at hup HA
          clear RQ
          cases up
          all_goals
            go_wp2_with fail
            refine region_new wr (New.refl wr) (by kernel_rfl) (by kernel_rfl) ?_
            repeat (go_big_quiet_step (fail))
            refine wpQuiet_nil ?_
            rintro W3 ⟨⟨_, k3⟩, rfl⟩
            go_wp2_with fail
          · go_ret
            exact ⟨ret_bool (mayB_no HB.out hlt (by rw [HA.out, HO.out]; rfl)).symm, N.trans k3⟩
          · go_roundw
            case rel =>
              refine ⟨k + 1, by omega, by go_num, fun j hj => ?_, N.trans k3⟩
              by_cases e : j = k
              · subst e
                rw [HA.out, HO.out]; rfl
              · exact hall.out j (by omega)
            case measure => simp [intOf]; omega
    · go_wp2_with fail
      go_ret
      refine ⟨ret_bool ?_, N⟩
      refine ((HB.out).2 fun i hi => hall.out i (by omega)).symm

end Go.Proofs.YtelaiblhnhbgiaaDoor
