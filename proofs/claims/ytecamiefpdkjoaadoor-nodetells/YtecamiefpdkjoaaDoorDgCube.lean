/-
  What the document's cube tells, as a plain function.
-/
import Derived.Test.YtecamiefpdkjoaaDoorDgRoot
namespace Go.Proofs.YtecamiefpdkjoaaDoor.Dg
open Go.RowKit
set_option maxRecDepth 20000

theorem cu_ways (v r bit : Nat) (x h u l : Nat) (hx : or6 r (2 ^ bit) = x) (hh : topC x = h) (hu : up6 v = u) (hl : lowT (lowT x x) x = l) :
    (h < u ∧ cuBit v r bit = x) ∨ (¬ h < u ∧ h = u ∧ l = 0 ∧ cuBit v r bit = x) ∨ (¬ h < u ∧ h = u ∧ l ≠ 0 ∧ cuBit v r bit = r) ∨ (¬ h < u ∧ h ≠ u ∧ cuBit v r bit = r) := by
  unfold cuBit
  rw [hx, hh, hu, hl]
  by_cases h1 : h < u
  · exact .inl ⟨h1, if_pos (.inl h1)⟩
  · by_cases h2 : h = u
    · by_cases h3 : l = 0
      · exact .inr (.inl ⟨h1, h2, h3, if_pos (.inr ⟨h2, h3⟩)⟩)
      · exact .inr (.inr (.inl ⟨h1, h2, h3, if_neg (fun e => e.elim h1 (fun e => h3 e.2))⟩))
    · exact .inr (.inr (.inr ⟨h1, h2, if_neg (fun e => e.elim h1 (fun e => h2 e.1))⟩))

set_option maxHeartbeats 1600000 in
theorem cube_any (v : Nat) (w : World) :
    Calls Tryd.prog 69 #[.int .u64 (v : Int)] w fun e w' => e = .returned (.int .u32 ((cubeN v : Nat) : Int)) ∧ w' = w := by
  obtain ⟨u, hu⟩ : ∃ u, up6 v = u := ⟨_, rfl⟩
  have huI : IntKind.u64.wrap ((v : Int) * 4294967296) = (u : Int) := by rw [up_u64, hu]
  have HU : Hid (up6 v = u) := hu
  clear hu
  go_enter Tryd.func69, Tryd.ntmps69
  go_wp2_with fail
  go_loop [3, 4] (fun r i => ∃ k : Nat, k ≤ 36 ∧ i = .int .i64 (35 - (k : Int)) ∧ r = .int .u64 ((cuN v k : Nat) : Int)) (fun _ i => (1 + intOf i).toNat)
  case atStart => exact ⟨0, by omega, rfl, rfl⟩
  case round =>
    obtain ⟨k, hk, rfl, rfl⟩ := hrel
    by_cases hlt : k < 36
    · obtain ⟨d, hd⟩ : ∃ d, 35 - k = d := ⟨_, rfl⟩
      have hdI : (35 : Int) - (k : Int) = (d : Int) := by omega
      have HS : Hid (cuN v (k + 1) = cuBit v (cuN v k) d) := by show cuN v (k + 1) = _; rw [cuN, hd]
      obtain ⟨r, hr⟩ : ∃ r, cuN v k = r := ⟨_, rfl⟩
      rw [hr] at HS ⊢
      obtain ⟨x, hx⟩ : ∃ x, or6 r (2 ^ d) = x := ⟨_, rfl⟩
      obtain ⟨h0, e0⟩ : ∃ h, highT x x = h := ⟨_, rfl⟩
      obtain ⟨l0, e1⟩ : ∃ l, lowT x x = l := ⟨_, rfl⟩
      obtain ⟨h1, e2⟩ : ∃ h, highT l0 x = h := ⟨_, rfl⟩
      obtain ⟨l, e3⟩ : ∃ l, lowT l0 x = l := ⟨_, rfl⟩
      obtain ⟨h2, e4⟩ : ∃ l, highT h0 x = l := ⟨_, rfl⟩
      obtain ⟨l2, e5⟩ : ∃ l, lowT h0 x = l := ⟨_, rfl⟩
      obtain ⟨h, e6⟩ : ∃ h, ad6 h1 l2 = h := ⟨_, rfl⟩
      have hways := cu_ways v r d x h u l hx (by unfold topC; rw [e1, e2, e0, e5, e6]) HU.out (by rw [e1, e3])
      have hc1 := times_any x x w
      rw [e0, e1] at hc1
      have hc2 := times_any l0 x w
      rw [e2, e3] at hc2
      have hc3 := times_any h0 x w
      rw [e4, e5] at hc3
      have hor : bits .or .u64 (r : Int) (IntKind.u64.wrap (2 ^ d)) = (x : Int) := by
        rw [← hx, ← or_u64, wrap_pow d (by omega)]
      have had : IntKind.u64.wrap ((h1 : Int) + (l2 : Int)) = (h : Int) := by rw [ad_u64, e6]
      have hd36 : d ≤ 35 := by omega
      clear hd hr hx e0 e1 e2 e3 e4 e5 e6
      rcases hways with ⟨t1, t2⟩ | ⟨t1, t2, t3, t4⟩ | ⟨t1, t2, t3, t4⟩ | ⟨t1, t2, t3⟩
      · have HT : Hid (cuBit v r d = x) := t2
        clear t2
        go_wp2_with fail
        refine hc1.mono ?_
        rintro _ _ ⟨rfl, rfl⟩
        go_wp2_with fail
        refine hc2.mono ?_
        rintro _ _ ⟨rfl, rfl⟩
        go_wp2_with fail
        refine hc3.mono ?_
        rintro _ _ ⟨rfl, rfl⟩
        go_wp2_with fail
        refine ⟨⟨k + 1, by omega, by go_num, ?_⟩, by simp [intOf]; omega⟩
        rw [HS.out, HT.out]
      · have HT : Hid (cuBit v r d = x) := t4
        clear t4
        go_wp2_with fail
        refine hc1.mono ?_
        rintro _ _ ⟨rfl, rfl⟩
        go_wp2_with fail
        refine hc2.mono ?_
        rintro _ _ ⟨rfl, rfl⟩
        go_wp2_with fail
        refine hc3.mono ?_
        rintro _ _ ⟨rfl, rfl⟩
        go_wp2_with fail
        refine ⟨⟨k + 1, by omega, by go_num, ?_⟩, by simp [intOf]; omega⟩
        rw [HS.out, HT.out]
      · have HT : Hid (cuBit v r d = r) := t4
        clear t4
        go_wp2_with fail
        refine hc1.mono ?_
        rintro _ _ ⟨rfl, rfl⟩
        go_wp2_with fail
        refine hc2.mono ?_
        rintro _ _ ⟨rfl, rfl⟩
        go_wp2_with fail
        refine hc3.mono ?_
        rintro _ _ ⟨rfl, rfl⟩
        go_wp2_with fail
        refine ⟨⟨k + 1, by omega, by go_num, ?_⟩, by simp [intOf]; omega⟩
        rw [HS.out, HT.out]
      · have HT : Hid (cuBit v r d = r) := t3
        clear t3
        go_wp2_with fail
        refine hc1.mono ?_
        rintro _ _ ⟨rfl, rfl⟩
        go_wp2_with fail
        refine hc2.mono ?_
        rintro _ _ ⟨rfl, rfl⟩
        go_wp2_with fail
        refine hc3.mono ?_
        rintro _ _ ⟨rfl, rfl⟩
        go_wp2_with fail
        refine ⟨⟨k + 1, by omega, by go_num, ?_⟩, by simp [intOf]; omega⟩
        rw [HS.out, HT.out]
    · obtain rfl : k = 36 := by omega
      obtain ⟨r, hr⟩ : ∃ r, cuN v 36 = r := ⟨_, rfl⟩
      have HQ : Hid (cubeN v = r % 4294967296) := by show _ = _; unfold cubeN; rw [hr]
      rw [hr]
      clear hr
      go_wp2_with fail
      go_ret
      exact ⟨ret_u32 (by rw [HQ.out]; simp), rfl⟩

end Go.Proofs.YtecamiefpdkjoaaDoor.Dg
