/-
  NibbleCommon's walk: whatever two texts, the call returns true, where the table of upper halves lies as its initialiser lays it.
-/
import Derived.Test.YtopnagligeihgaaDoorComA
import Derived.Test.YtopnagligeihgaaDoorQuiet
namespace Go.Proofs.YtopnagligeihgaaDoor
open Go.RowKit

set_option maxHeartbeats 1000000 in
theorem com_long (a b : ByteArray) (h : 500 < a.size ∨ 500 < b.size) (w : World) (hT : Tab w) :
    Calls Tryd.prog 5 #[.string a, .string b] w fun e w' => e = .returned (.bool true) ∧ Kept w w' := by
  by_cases ha : 500 < a.size
  · have hd : decide ((500 : Int) < (a.size : Int)) = true := decide_eq_true (by omega)
    go_enter Tryd.func5, Tryd.ntmps5
    go_wp2_with fail
    refine (wakes_any _ hT).mono ?_
    rintro e w1 ⟨rfl, g1⟩
    go_wp2_with fail
    go_ret
    exact ⟨rfl, g1⟩
  · have hd : decide ((500 : Int) < (a.size : Int)) = false := decide_eq_false (by omega)
    have hd2 : decide ((500 : Int) < (b.size : Int)) = true := decide_eq_true (by omega)
    go_enter Tryd.func5, Tryd.ntmps5
    go_wp2_with fail
    refine (wakes_any _ hT).mono ?_
    rintro e w1 ⟨rfl, g1⟩
    go_wp2_with fail
    go_ret
    exact ⟨rfl, g1⟩

theorem common_self (a : ByteArray) (ha : a.size ≤ 4000) (w : World) :
    Calls Tryd.prog 17 #[.string a, .string a] w fun e w' => e = .returned (.int .i64 (a.size : Nat)) ∧ Kept w w' := by
  have := common_any a a ha ha w
  rwa [comN_self, L_size] at this

/-- What the law's tests see of how many are in common. -/
def Ways (a b : ByteArray) (K N : Nat) : Prop :=
  (decide ((K : Int) < (a.size : Int)) = false ∧ ((N : Int) == 2 * (K : Int)) = true) ∨
  (decide ((K : Int) < (a.size : Int)) = true ∧ decide ((K : Int) < (b.size : Int)) = false ∧ ((N : Int) == 2 * (K : Int)) = true) ∨
  (∃ (ha : K < a.size) (hb : K < b.size), ((a[K].toNat : Int) == (b[K].toNat : Int)) = false ∧ ((N : Int) == 2 * (K : Int)) = true) ∨
  (∃ (ha : K < a.size) (hb : K < b.size), ((a[K].toNat : Int) == (b[K].toNat : Int)) = false ∧ ((N : Int) == 2 * (K : Int)) = false ∧ ((N : Int) == 2 * (K : Int) + 1) = true ∧ ((a[K].toNat : Int) / 16 == (b[K].toNat : Int) / 16) = true)

theorem ne_bytes {x y : UInt8} (h : x ≠ y) : ((x.toNat : Int) == (y.toNat : Int)) = false := by
  rw [beq_eq_false_iff_ne]; intro e; exact h (UInt8.toNat_inj.1 (by omega))
theorem ways (a b : ByteArray) : Ways a b (comN (L a) (L b)) (comN (ofL (L a)) (ofL (L b))) := by
  obtain ⟨h1, h2, h3, h4⟩ := comN_facts (L a) (L b)
  have h5 := comN_of (L a) (L b)
  generalize comN (L a) (L b) = K at *
  generalize comN (ofL (L a)) (ofL (L b)) = N at *
  rw [L_size] at h1 h2 h4
  rw [L_size] at h4
  unfold Ways
  rcases h5 with h5 | ⟨h5, x, y, hx, hy, hne, hh⟩
  · have e : ((N : Int) == 2 * (K : Int)) = true := by rw [beq_iff_eq]; omega
    by_cases c1 : K < a.size
    · by_cases c2 : K < b.size
      · rcases h4 with h | h | ⟨x, y, hx, hy, hne⟩
        · omega
        · omega
        · rw [L_get a K c1] at hx
          rw [L_get b K c2] at hy
          cases hx; cases hy
          exact .inr (.inr (.inl ⟨c1, c2, ne_bytes hne, e⟩))
      · exact .inr (.inl ⟨decide_eq_true (by omega), decide_eq_false (by omega), e⟩)
    · exact .inl ⟨decide_eq_false (by omega), e⟩
  · have c1 : K < a.size := by have := (List.getElem?_eq_some_iff.1 hx).1; rwa [L_size] at this
    have c2 : K < b.size := by have := (List.getElem?_eq_some_iff.1 hy).1; rwa [L_size] at this
    rw [L_get a K c1] at hx
    rw [L_get b K c2] at hy
    cases hx; cases hy
    have hh' := congrArg UInt8.toNat hh
    rw [hi_nat, hi_nat] at hh'
    exact .inr (.inr (.inr ⟨c1, c2, ne_bytes hne, by rw [beq_eq_false_iff_ne]; omega, by rw [beq_iff_eq]; omega, by rw [beq_iff_eq]; omega⟩))

set_option maxHeartbeats 4000000 in
theorem com_walk (a b : ByteArray) (ha : a.size ≤ 500) (hb : b.size ≤ 500) (w : World) (hT : Tab w) :
    Calls Tryd.prog 5 #[.string a, .string b] w fun e w' => e = .returned (.bool true) ∧ Kept w w' := by
  have hd : decide ((500 : Int) < (a.size : Int)) = false := decide_eq_false (by omega)
  have hd2 : decide ((500 : Int) < (b.size : Int)) = false := decide_eq_false (by omega)
  obtain ⟨h1, h2, h3, h4⟩ := comN_facts (L a) (L b)
  clear h4
  have hw : Hid (Ways a b (comN (L a) (L b)) (comN (ofL (L a)) (ofL (L b)))) := ways a b
  have hN1 : comN (ofL (L a)) (ofL (L b)) ≤ 1000 := by have := (comN_facts (ofL (L a)) (ofL (L b))).1; rw [ofL_length, L_size] at this; omega
  have HC : Hid (∀ w, Calls Tryd.prog 17 #[.string b, .string a] w fun e w' => e = .returned (.int .i64 (comN (L a) (L b) : Nat)) ∧ Kept w w') := by
    intro w
    have := common_any b a (by omega) (by omega) w
    rwa [comN_symm] at this
  rw [L_size] at h1 h2
  have hne : Nonempty (KeptW w) := ⟨⟨w, Kept.refl w⟩⟩
  go_enter Tryd.func5, Tryd.ntmps5
  go_wp2_with fail
  refine (common_any a b (by omega) (by omega) _).mono ?_
  rintro e w1 ⟨rfl, g1⟩
  go_wp2_with fail
  refine (of_any a (by omega) _).mono ?_
  rintro e w2 ⟨rfl, g2⟩
  go_wp2_with fail
  refine (of_any b (by omega) _).mono ?_
  rintro e w3 ⟨rfl, g3⟩
  go_wp2_with fail
  refine (common_any _ _ (by rw [of_size]; omega) (by rw [of_size]; omega) _).mono ?_
  rintro e w4 ⟨rfl, g4⟩
  rw [L_bs, L_bs]
  generalize comN (L a) (L b) = K at *
  generalize comN (ofL (L a)) (ofL (L b)) = N at *
  have hk0 : decide ((K : Int) < 0) = false := decide_eq_false (by omega)
  have hy1 : decide (a.size < K) = false := decide_eq_false (by omega)
  have hy2 : decide (b.size < K) = false := decide_eq_false (by omega)
  have hx1 : decide ((a.size : Int) < (K : Int)) = false := decide_eq_false (by omega)
  have hx2 : decide ((b.size : Int) < (K : Int)) = false := decide_eq_false (by omega)
  have hpre : ((a.extract 0 K).toList == (b.extract 0 K).toList) = true := by
    rw [toList_L, toList_L, L_extract, L_extract, h3]; simp
  have g : Kept w w4 := g1.trans (g2.trans (g3.trans g4))
  clear g1 g2 g3 g4 h3
  go_wp2_with fail
  refine region_kept w g (by kernel_rfl) (by kernel_rfl) ?_
  repeat (go_big_quiet_step (first | (go_at_call 17; exact Calls.keptw (HC.out _))))
  refine wpQuiet_nil ?_
  rintro _ ⟨⟨w4', hk4⟩, rfl⟩
  go_wp2_with fail
  clear g hpre HC
  obtain ⟨M, hM⟩ : ∃ M, 2 * K = M := ⟨_, rfl⟩
  have hm2 : 2 * (K : Int) = (M : Int) := by omega
  have hm500 : M ≤ 1000 := by omega
  have hw := hw.out
  unfold Ways at hw
  rw [hm2] at hw
  clear hM
  rcases hw with ⟨c1, c3⟩ | ⟨c1, c2, c3⟩ | ⟨c1, c2, c3, c4⟩ | ⟨c1, c2, c3, c4, c5, c6⟩
  · obtain rfl : N = M := by rw [beq_iff_eq] at c3; omega
    have n1 : decide (K < a.size) = false := decide_eq_false (by have := of_decide_eq_false c1; omega)
    clear c3
    refine region_kept w hk4 (by kernel_rfl) (by kernel_rfl) ?_
    repeat (go_big_quiet_step (fail))
    refine wpQuiet_nil ?_
    rintro _ ⟨⟨w5, hk5⟩, rfl⟩
    go_wp2_with fail
    refine region_kept w hk5 (by kernel_rfl) (by kernel_rfl) ?_
    repeat (go_big_quiet_step (first
        | (go_at_call 17; exact Calls.keptw (common_self a (by omega) _))
        | (go_at_call 8; exact Calls.keptw (wakes_any _ (hT.kept (KeptW.h _))))))
    refine wpQuiet_nil ?_
    rintro _ ⟨⟨w6, hk6⟩, rfl⟩
    go_wp2_with fail
    go_ret
    exact ⟨rfl, hk6⟩
  · obtain rfl : N = M := by rw [beq_iff_eq] at c3; omega
    have n1 : decide (K < a.size) = true := decide_eq_true (by have := of_decide_eq_true c1; omega)
    have n2 : decide (K < b.size) = false := decide_eq_false (by have := of_decide_eq_false c2; omega)
    clear c3
    refine region_kept w hk4 (by kernel_rfl) (by kernel_rfl) ?_
    repeat (go_big_quiet_step (fail))
    refine wpQuiet_nil ?_
    rintro _ ⟨⟨w5, hk5⟩, rfl⟩
    go_wp2_with fail
    refine region_kept w hk5 (by kernel_rfl) (by kernel_rfl) ?_
    repeat (go_big_quiet_step (first
        | (go_at_call 17; exact Calls.keptw (common_self a (by omega) _))
        | (go_at_call 8; exact Calls.keptw (wakes_any _ (hT.kept (KeptW.h _))))))
    refine wpQuiet_nil ?_
    rintro _ ⟨⟨w6, hk6⟩, rfl⟩
    go_wp2_with fail
    go_ret
    exact ⟨rfl, hk6⟩
  · obtain rfl : N = M := by rw [beq_iff_eq] at c4; omega
    have n1 : decide (K < a.size) = true := decide_eq_true c1
    have n2 : decide (K < b.size) = true := decide_eq_true c2
    have i1 : decide ((K : Int) < (a.size : Int)) = true := decide_eq_true (by omega)
    have i2 : decide ((K : Int) < (b.size : Int)) = true := decide_eq_true (by omega)
    clear c4
    refine region_kept w hk4 (by kernel_rfl) (by kernel_rfl) ?_
    repeat (go_big_quiet_step (fail))
    refine wpQuiet_nil ?_
    rintro _ ⟨⟨w5, hk5⟩, rfl⟩
    go_wp2_with fail
    refine region_kept w hk5 (by kernel_rfl) (by kernel_rfl) ?_
    repeat (go_big_quiet_step (first
        | (go_at_call 17; exact Calls.keptw (common_self a (by omega) _))
        | (go_at_call 8; exact Calls.keptw (wakes_any _ (hT.kept (KeptW.h _))))))
    refine wpQuiet_nil ?_
    rintro _ ⟨⟨w6, hk6⟩, rfl⟩
    go_wp2_with fail
    go_ret
    exact ⟨rfl, hk6⟩
  · have i1 : decide ((K : Int) < (a.size : Int)) = true := decide_eq_true (by omega)
    have i2 : decide ((K : Int) < (b.size : Int)) = true := decide_eq_true (by omega)
    have hM1 : (M : Int) + 1 = (N : Int) := by rw [beq_iff_eq] at c5; omega
    clear c5
    refine region_kept w hk4 (by kernel_rfl) (by kernel_rfl) ?_
    repeat (go_big_quiet_step (fail))
    refine wpQuiet_nil ?_
    rintro _ ⟨⟨w5, hk5⟩, rfl⟩
    go_wp2_with fail
    refine region_kept w hk5 (by kernel_rfl) (by kernel_rfl) ?_
    repeat (go_big_quiet_step (first
        | (go_at_call 17; exact Calls.keptw (common_self a (by omega) _))
        | (go_at_call 8; exact Calls.keptw (wakes_any _ (hT.kept (KeptW.h _))))))
    refine wpQuiet_nil ?_
    rintro _ ⟨⟨w6, hk6⟩, rfl⟩
    go_wp2_with fail
    go_ret
    exact ⟨rfl, hk6⟩

theorem com_any (a b : ByteArray) (w : World) (hT : Tab w) :
    Calls Tryd.prog 5 #[.string a, .string b] w fun e w' => e = .returned (.bool true) ∧ w.keptBut w' (fun _ => False) := by
  by_cases h : 500 < a.size ∨ 500 < b.size
  · exact com_long a b h w hT
  · exact com_walk a b (by omega) (by omega) w hT

end Go.Proofs.YtopnagligeihgaaDoor
