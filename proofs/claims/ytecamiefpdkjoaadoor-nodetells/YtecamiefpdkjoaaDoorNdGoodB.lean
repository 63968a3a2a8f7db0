/-
  Whether an Item may be: goodLeaf, goodExt, goodBranch, Good.
-/
import Derived.Test.YtecamiefpdkjoaaDoorNdGood
namespace Go.Proofs.YtecamiefpdkjoaaDoor
open Go.RowKit
set_option maxRecDepth 20000
set_option linter.unusedVariables false

theorem int_beq (m z : Int) : (m == z) = decide (m = z) := by by_cases h : m = z <;> simp [h]
theorem nat_beq (n z : Nat) : ((n : Int) == (z : Int)) = decide (n = z) := by rw [int_beq]; exact decide_eq_decide.2 (by omega)
theorem isEmpty_bs (l : List UInt8) : (bs l).toList.isEmpty = emptyB l := by rw [toList_L, L_bs]; cases l <;> rfl
theorem beq_nil_bs (l : List UInt8) : ((bs l).toList == []) = emptyB l := by rw [toList_L, L_bs]; cases l <;> rfl
theorem bne_nil_bs (l : List UInt8) : ((bs l).toList != []) = !emptyB l := by rw [toList_L, L_bs]; cases l <;> rfl

set_option maxHeartbeats 1000000 in
theorem goodLeaf_any (I : It) (hp : I.p.length ≤ 4000) (hv : I.v.length ≤ 4000) (a : Option Addr) (c : Nat) (w : World) :
    Calls Tryd.prog 26 #[itV I a c] w fun e w' => e = .returned (.bool (goodLf I)) ∧ New w w' := by
  obtain ⟨k, p, has, v, m, hs⟩ := I
  obtain ⟨b1, hb1⟩ : ∃ b, goodB p = b := ⟨_, rfl⟩
  obtain ⟨b3, hb3⟩ : ∃ b, goodV ⟨k, p, has, v, m, hs⟩ = b := ⟨_, rfl⟩
  obtain ⟨b4, hb4⟩ : ∃ b, decide (m = 0) = b := ⟨_, rfl⟩
  obtain ⟨b5, hb5⟩ : ∃ b, decide (hs.length = 0) = b := ⟨_, rfl⟩
  have HB : Hid (goodLf ⟨k, p, has, v, m, hs⟩ = (b1 && (has && (b3 && (b4 && b5))))) := by show _ = _; unfold goodLf; rw [hb1, hb3, hb4, hb5]
  rw [HB.out]
  have e4 : (m == 0) = b4 := by rw [← hb4]; exact int_beq _ _
  have e5 : ((hs.length : Int) == 0) = b5 := by rw [← hb5]; exact nat_beq hs.length 0
  have HP : ∀ w, Calls Tryd.prog 48 #[.string (bs p)] w fun e w' => e = .returned (.bool b1) ∧ w' = w := by rw [← hb1]; exact good_any (bs p) hp
  have HV : ∀ w, Calls Tryd.prog 49 #[.agg #[.int .i64 k, .string (bs p), .bool has, .string (bs v), .int .i64 m, .slice a hs.length c]] w fun e w' => e = .returned (.bool b3) ∧ New w w' := by rw [← hb3]; exact goodValue_any ⟨k, p, has, v, m, hs⟩ hv a c
  clear HB hb1 hb3 hb4 hb5 hp hv
  show Calls Tryd.prog 26 #[.agg #[.int .i64 k, .string (bs p), .bool has, .string (bs v), .int .i64 m, .slice a hs.length c]] w _
  generalize bs p = sp at *
  generalize bs v = sv at *
  have R0 := Row.new w #[.int .i64 k, .string sp, .bool has, .string sv, .int .i64 m, .slice a hs.length c] 24
  cases b1
  · go_enter Tryd.func26, Tryd.ntmps26
    go_wp2_with fail
    refine (HP _).mono ?_
    rintro e w1 ⟨rfl, rfl⟩
    go_wp2_with fail
    go_ret
    exact ⟨rfl, (New.refl w).alloc _⟩
  · cases has
    · go_enter Tryd.func26, Tryd.ntmps26
      go_wp2_with fail
      refine (HP _).mono ?_
      rintro e w1 ⟨rfl, rfl⟩
      go_wp2_with fail
      go_ret
      exact ⟨rfl, (New.refl w).alloc _⟩
    · go_enter Tryd.func26, Tryd.ntmps26
      go_wp2_with fail
      refine (HP _).mono ?_
      rintro e w1 ⟨rfl, rfl⟩
      go_wp2_with fail
      refine (HV _).mono ?_
      rintro e w1 ⟨rfl, g1⟩
      have R1 := R0.after g1
      have c4 : w1.cell? ⟨w.heap.size, 4, none⟩ = some (.int .i64 m) := R1.cell 4
      have c5 : w1.cell? ⟨w.heap.size, 5, none⟩ = some (.slice a hs.length c) := R1.cell 5
      have N1 : New w w1 := ((New.refl w).alloc _).trans g1
      clear R0 R1 g1
      cases b3 <;> cases b4 <;> cases b5
      all_goals
        go_wp2_with fail
        go_ret
        exact ⟨rfl, N1⟩

set_option maxHeartbeats 1000000 in
theorem goodExt_any (I : It) (hp : I.p.length ≤ 4000) (hv : I.v.length ≤ 4000) (a : Option Addr) (c : Nat) (hl : I.hs.length ≤ 4611686018427387904) (w : World) (hT : Tx w a I.hs) (h4 : ∀ h ∈ I.hs, h.length ≤ 4611686018427387904) :
    Calls Tryd.prog 27 #[itV I a c] w fun e w' => e = .returned (.bool (goodEx I)) ∧ New w w' := by
  obtain ⟨k, p, has, v, m, hs⟩ := I
  obtain ⟨b0, hb0⟩ : ∃ b, emptyB p = b := ⟨_, rfl⟩
  obtain ⟨b1, hb1⟩ : ∃ b, goodB p = b := ⟨_, rfl⟩
  obtain ⟨b2, hb2⟩ : ∃ b, emptyB v = b := ⟨_, rfl⟩
  obtain ⟨b3, hb3⟩ : ∃ b, decide (m = 1) = b := ⟨_, rfl⟩
  obtain ⟨b4, hb4⟩ : ∃ b, goodH hs 1 = b := ⟨_, rfl⟩
  have HB : Hid (goodEx ⟨k, p, has, v, m, hs⟩ = (!b0 && (b1 && (!has && (b2 && (b3 && b4)))))) := by show _ = _; unfold goodEx; rw [hb0, hb1, hb2, hb3, hb4]
  rw [HB.out]
  have e01 : (bs p).toList.isEmpty = b0 := by rw [← hb0]; exact isEmpty_bs p
  have e02 : ((bs p).toList == []) = b0 := by rw [← hb0]; exact beq_nil_bs p
  have e21 : (bs v).toList.isEmpty = b2 := by rw [← hb2]; exact isEmpty_bs v
  have e22 : ((bs v).toList == []) = b2 := by rw [← hb2]; exact beq_nil_bs v
  have e23 : ((bs v).toList != []) = !b2 := by rw [← hb2]; exact bne_nil_bs v
  have e3 : (m == 1) = b3 := by rw [← hb3]; exact int_beq _ _
  have HP : ∀ w, Calls Tryd.prog 48 #[.string (bs p)] w fun e w' => e = .returned (.bool b1) ∧ w' = w := by rw [← hb1]; exact good_any (bs p) hp
  have HH : ∀ w, Tx w a hs → Calls Tryd.prog 50 #[.slice a hs.length c, .int .i64 1] w fun e w' => e = .returned (.bool b4) ∧ w' = w := fun w hT => by rw [← hb4]; exact goodHashes_any hs a c 1 (by omega) hl w hT h4
  have HT : Hid (Tx w a hs) := hT
  clear HB hb0 hb1 hb2 hb3 hb4 hp hv hl h4 hT
  show Calls Tryd.prog 27 #[.agg #[.int .i64 k, .string (bs p), .bool has, .string (bs v), .int .i64 m, .slice a hs.length c]] w _
  generalize bs p = sp at *
  generalize bs v = sv at *
  cases b0
  · cases b1
    · go_enter Tryd.func27, Tryd.ntmps27
      go_wp2_with fail
      refine (HP _).mono ?_
      rintro e w1 ⟨rfl, rfl⟩
      go_wp2_with fail
      go_ret
      exact ⟨rfl, (New.refl w).alloc _⟩
    · cases has
      · cases b2
        · go_enter Tryd.func27, Tryd.ntmps27
          go_wp2_with fail
          refine (HP _).mono ?_
          rintro e w1 ⟨rfl, rfl⟩
          go_wp2_with fail
          go_ret
          exact ⟨rfl, (New.refl w).alloc _⟩
        · cases b3
          · go_enter Tryd.func27, Tryd.ntmps27
            go_wp2_with fail
            refine (HP _).mono ?_
            rintro e w1 ⟨rfl, rfl⟩
            go_wp2_with fail
            go_ret
            exact ⟨rfl, (New.refl w).alloc _⟩
          · go_enter Tryd.func27, Tryd.ntmps27
            go_wp2_with fail
            refine (HP _).mono ?_
            rintro e w1 ⟨rfl, rfl⟩
            go_wp2_with fail
            refine (HH _ (HT.out.after ((New.refl w).alloc _))).mono ?_
            rintro e w1 ⟨rfl, rfl⟩
            cases b4
            all_goals
              go_wp2_with fail
              go_ret
              exact ⟨rfl, (New.refl w).alloc _⟩
      · go_enter Tryd.func27, Tryd.ntmps27
        go_wp2_with fail
        refine (HP _).mono ?_
        rintro e w1 ⟨rfl, rfl⟩
        go_wp2_with fail
        go_ret
        exact ⟨rfl, (New.refl w).alloc _⟩
  · go_enter Tryd.func27, Tryd.ntmps27
    go_wp2_with fail
    go_ret
    exact ⟨rfl, (New.refl w).alloc _⟩

set_option maxHeartbeats 1000000 in
theorem goodBranch_any (I : It) (hp : I.p.length ≤ 4000) (hv : I.v.length ≤ 4000) (a : Option Addr) (c : Nat) (hl : I.hs.length ≤ 4611686018427387904) (w : World) (hT : Tx w a I.hs) (h4 : ∀ h ∈ I.hs, h.length ≤ 4611686018427387904) :
    Calls Tryd.prog 28 #[itV I a c] w fun e w' => e = .returned (.bool (goodBr I)) ∧ New w w' := by
  obtain ⟨k, p, has, v, m, hs⟩ := I
  obtain ⟨b0, hb0⟩ : ∃ b, emptyB p = b := ⟨_, rfl⟩
  have e01 : (bs p).toList.isEmpty = b0 := by rw [← hb0]; exact isEmpty_bs p
  have e02 : ((bs p).toList == []) = b0 := by rw [← hb0]; exact beq_nil_bs p
  have e03 : ((bs p).toList != []) = !b0 := by rw [← hb0]; exact bne_nil_bs p
  have HT : Hid (Tx w a hs) := hT
  by_cases hm1 : 0 ≤ m
  · have d1 : decide (m < 0) = false := decide_eq_false (by omega)
    by_cases hm2 : m ≤ 65535
    · have d2 : decide ((65535 : Int) < m) = false := decide_eq_false (by omega)
      obtain ⟨n, rfl⟩ : ∃ n : Nat, m = (n : Int) := ⟨m.toNat, by omega⟩
      have hn : n < 65536 := by omega
      obtain ⟨q, hq⟩ : ∃ q, popN n = q := ⟨_, rfl⟩
      have hq16 : q ≤ 16 := by rw [← hq]; exact popN_le n
      obtain ⟨b3, hb3⟩ : ∃ b, goodV ⟨k, p, has, v, (n : Int), hs⟩ = b := ⟨_, rfl⟩
      obtain ⟨b4, hb4⟩ : ∃ b, goodH hs q = b := ⟨_, rfl⟩
      have HV : ∀ w, Calls Tryd.prog 49 #[.agg #[.int .i64 k, .string (bs p), .bool has, .string (bs v), .int .i64 (n : Int), .slice a hs.length c]] w fun e w' => e = .returned (.bool b3) ∧ New w w' := by rw [← hb3]; exact goodValue_any ⟨k, p, has, v, (n : Int), hs⟩ hv a c
      have HC : ∀ w, Calls Tryd.prog 44 #[.int .i64 (n : Int)] w fun e w' => e = .returned (.int .i64 (q : Int)) ∧ w' = w := by rw [← hq]; exact children_any n hn
      have HH : ∀ w, Tx w a hs → Calls Tryd.prog 50 #[.slice a hs.length c, .int .i64 (q : Int)] w fun e w' => e = .returned (.bool b4) ∧ w' = w := fun w hT => by rw [← hb4]; exact goodHashes_any hs a c q (by omega) hl w hT h4
      obtain ⟨b5, hb5⟩ : ∃ b, decide (2 ≤ q + if has then 1 else 0) = b := ⟨_, rfl⟩
      have HB : Hid (goodBr ⟨k, p, has, v, (n : Int), hs⟩ = (b0 && (b3 && (b5 && b4)))) := by
        show _ = _
        unfold goodBr leadsN
        simp only [Int.toNat_natCast, hb0, hb3, hq, hb5, hb4, decide_eq_true (show (0 : Int) ≤ (n : Int) by omega), decide_eq_true hm2, Bool.true_and]
      rw [HB.out]
      clear HB hb0 hb3 hb4 hq hp hv hl h4 hT hm1 hm2
      show Calls Tryd.prog 28 #[.agg #[.int .i64 k, .string (bs p), .bool has, .string (bs v), .int .i64 (n : Int), .slice a hs.length c]] w _
      generalize bs p = sp at *
      generalize bs v = sv at *
      have R0 := Row.new w #[.int .i64 k, .string sp, .bool has, .string sv, .int .i64 (n : Int), .slice a hs.length c] 24
      have N0 : New w (w.alloc (.cells #[.int .i64 k, .string sp, .bool has, .string sv, .int .i64 (n : Int), .slice a hs.length c] 24)) := (New.refl w).alloc _
      cases b0
      · clear R0
        go_enter Tryd.func28, Tryd.ntmps28
        go_wp2_with fail
        go_ret
        exact ⟨rfl, N0⟩
      · go_enter Tryd.func28, Tryd.ntmps28
        go_wp2_with fail
        refine (HV _).mono ?_
        rintro e w1 ⟨rfl, g1⟩
        have R1 := R0.after g1
        have c2 : w1.cell? ⟨w.heap.size, 2, none⟩ = some (.bool has) := R1.cell 2
        have c4 : w1.cell? ⟨w.heap.size, 4, none⟩ = some (.int .i64 (n : Int)) := R1.cell 4
        have c5 : w1.cell? ⟨w.heap.size, 5, none⟩ = some (.slice a hs.length c) := R1.cell 5
        have N1 : New w w1 := N0.trans g1
        clear R0 R1 g1 N0
        cases b3
        · go_wp2_with fail
          go_ret
          exact ⟨rfl, N1⟩
        · go_wp2_with fail
          refine (HC _).mono ?_
          rintro e w2 ⟨rfl, rfl⟩
          cases has
          · have d5 : decide (2 ≤ (q : Int)) = b5 := by rw [← hb5]; exact decide_eq_decide.2 (by simp; omega)
            clear hb5
            cases b5
            · go_wp2_with fail
              go_ret
              exact ⟨rfl, N1⟩
            · go_wp2_with fail
              refine (HH _ (HT.out.after N1)).mono ?_
              rintro e w3 ⟨rfl, rfl⟩
              cases b4
              all_goals
                go_wp2_with fail
                go_ret
                exact ⟨rfl, N1⟩
          · have d5 : decide (2 ≤ (q : Int) + 1) = b5 := by rw [← hb5]; exact decide_eq_decide.2 (by simp; omega)
            clear hb5
            cases b5
            · go_wp2_with fail
              go_ret
              exact ⟨rfl, N1⟩
            · go_wp2_with fail
              refine (HH _ (HT.out.after N1)).mono ?_
              rintro e w3 ⟨rfl, rfl⟩
              cases b4
              all_goals
                go_wp2_with fail
                go_ret
                exact ⟨rfl, N1⟩
    · have d2 : decide ((65535 : Int) < m) = true := decide_eq_true (by omega)
      have HB : Hid (goodBr ⟨k, p, has, v, m, hs⟩ = false) := by
        show _ = _
        unfold goodBr
        simp only [decide_eq_false hm2, Bool.false_and, Bool.and_false]
      rw [HB.out]
      clear HB hb0 hp hv hl h4 hT hm1 hm2
      show Calls Tryd.prog 28 #[.agg #[.int .i64 k, .string (bs p), .bool has, .string (bs v), .int .i64 m, .slice a hs.length c]] w _
      generalize bs p = sp at *
      generalize bs v = sv at *
      cases b0
      all_goals
        go_enter Tryd.func28, Tryd.ntmps28
        go_wp2_with fail
        go_ret
        exact ⟨rfl, (New.refl w).alloc _⟩
  · have d1 : decide (m < 0) = true := decide_eq_true (by omega)
    have HB : Hid (goodBr ⟨k, p, has, v, m, hs⟩ = false) := by
      show _ = _
      unfold goodBr
      simp only [decide_eq_false hm1, Bool.false_and, Bool.and_false]
    rw [HB.out]
    clear HB hb0 hp hv hl h4 hT hm1
    show Calls Tryd.prog 28 #[.agg #[.int .i64 k, .string (bs p), .bool has, .string (bs v), .int .i64 m, .slice a hs.length c]] w _
    generalize bs p = sp at *
    generalize bs v = sv at *
    cases b0
    all_goals
      go_enter Tryd.func28, Tryd.ntmps28
      go_wp2_with fail
      go_ret
      exact ⟨rfl, (New.refl w).alloc _⟩

/-- An Item that is read: small enough, its hashes in memory. -/
structure Small (I : It) : Prop where
  p : I.p.length ≤ 4000
  v : I.v.length ≤ 4000
  n : I.hs.length ≤ 4611686018427387904
  h : ∀ h ∈ I.hs, h.length ≤ 4611686018427387904

set_option maxHeartbeats 1000000 in
theorem Good_any (I : It) (hS : Small I) (a : Option Addr) (c : Nat) (w : World) (hT : Tx w a I.hs) :
    Calls Tryd.prog 13 #[itV I a c] w fun e w' => e = .returned (.bool (goodI I)) ∧ New w w' := by
  have H1 := goodLeaf_any I hS.p hS.v a c
  have H2 := fun w hT => goodExt_any I hS.p hS.v a c hS.n w hT hS.h
  have H3 := fun w hT => goodBranch_any I hS.p hS.v a c hS.n w hT hS.h
  obtain ⟨k, p, has, v, m, hs⟩ := I
  have HT : Hid (Tx w a hs) := hT
  have N0 : New w (w.alloc (.cells #[.int .i64 k, .string (bs p), .bool has, .string (bs v), .int .i64 m, .slice a hs.length c] 24)) := (New.refl w).alloc _
  have HG : Hid (goodI ⟨k, p, has, v, m, hs⟩ = if k = 1 then goodLf ⟨k, p, has, v, m, hs⟩ else if k = 2 then goodEx ⟨k, p, has, v, m, hs⟩ else if k = 3 then goodBr ⟨k, p, has, v, m, hs⟩ else false) := rfl
  rw [HG.out]
  clear HG hT hS
  generalize goodLf ⟨k, p, has, v, m, hs⟩ = b1 at *
  generalize goodEx ⟨k, p, has, v, m, hs⟩ = b2 at *
  generalize goodBr ⟨k, p, has, v, m, hs⟩ = b3 at *
  show Calls Tryd.prog 13 #[.agg #[.int .i64 k, .string (bs p), .bool has, .string (bs v), .int .i64 m, .slice a hs.length c]] w _
  replace H1 : ∀ w, Calls Tryd.prog 26 #[.agg #[.int .i64 k, .string (bs p), .bool has, .string (bs v), .int .i64 m, .slice a hs.length c]] w _ := H1
  replace H2 : ∀ w, Tx w a hs → Calls Tryd.prog 27 #[.agg #[.int .i64 k, .string (bs p), .bool has, .string (bs v), .int .i64 m, .slice a hs.length c]] w _ := H2
  replace H3 : ∀ w, Tx w a hs → Calls Tryd.prog 28 #[.agg #[.int .i64 k, .string (bs p), .bool has, .string (bs v), .int .i64 m, .slice a hs.length c]] w _ := H3
  generalize bs p = sp at *
  generalize bs v = sv at *
  by_cases k1 : k = 1
  · rw [if_pos k1]
    have d1 : (k == 1) = true := by rw [int_beq]; exact decide_eq_true k1
    have HK : Hid (k = 1) := k1
    clear k1 H2 H3
    go_enter Tryd.func13, Tryd.ntmps13
    go_wp2_with fail
    refine (H1 _).mono ?_
    rintro e w1 ⟨rfl, g1⟩
    go_wp2_with fail
    go_ret
    exact ⟨rfl, N0.trans g1⟩
  · rw [if_neg k1]
    have d1 : (k == 1) = false := by rw [int_beq]; exact decide_eq_false k1
    by_cases k2 : k = 2
    · rw [if_pos k2]
      have d2 : (k == 2) = true := by rw [int_beq]; exact decide_eq_true k2
      clear k1 k2 H1 H3
      go_enter Tryd.func13, Tryd.ntmps13
      go_wp2_with fail
      refine (H2 _ (HT.out.after N0)).mono ?_
      rintro e w1 ⟨rfl, g1⟩
      go_wp2_with fail
      go_ret
      exact ⟨rfl, N0.trans g1⟩
    · rw [if_neg k2]
      have d2 : (k == 2) = false := by rw [int_beq]; exact decide_eq_false k2
      by_cases k3 : k = 3
      · rw [if_pos k3]
        have d3 : (k == 3) = true := by rw [int_beq]; exact decide_eq_true k3
        clear k1 k2 k3 H1 H2
        go_enter Tryd.func13, Tryd.ntmps13
        go_wp2_with fail
        refine (H3 _ (HT.out.after N0)).mono ?_
        rintro e w1 ⟨rfl, g1⟩
        go_wp2_with fail
        go_ret
        exact ⟨rfl, N0.trans g1⟩
      · rw [if_neg k3]
        have d3 : (k == 3) = false := by rw [int_beq]; exact decide_eq_false k3
        clear k1 k2 k3 H1 H2 H3
        go_enter Tryd.func13, Tryd.ntmps13
        go_wp2_with fail
        go_ret
        exact ⟨rfl, N0⟩

end Go.Proofs.YtecamiefpdkjoaaDoor
