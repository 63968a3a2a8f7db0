/-
  FloatSteps' walk: whatever word, the call returns true.
-/
import Derived.Test.YtcjbbggpnhpbaaaStepA
import Derived.RegionTactic
import Derived.ChangeAlike
namespace Go.Proofs.Ytcjbbggpnhpbaaa
open Go.RowKit
open Plain

theorem or_byte (t : Nat) (c : UInt8) (ht : t < 72057594037927936) : bits .or .u64 ((t : Int) * 256) (IntKind.u64.wrap (c.toNat : Int)) = ((t * 256 + c.toNat : Nat) : Int) := or_step2 t c ht

set_option maxHeartbeats 2000000 in
theorem steps_walk (x : Nat) (hx : x < 18446744073709551616) (w : World) :
    Calls Try.prog 7 #[.int .u64 (x : Int)] w fun e w' => e = .returned (.bool true) ∧ Grown w w' := by
  have hf := call_from
  have hsz := keyS_size
  cases hn : nanB x
  · have hN : (FloatKind.f64.format.order x x != some Ordering.eq) = false := by rw [f64_ne, eqB_self, hn]; rfl
    cases hi : ltB 9218868437227405311 x
    · have hni := not_inf x hi
      have hgl := next_lt x hx
      have HX := next_any x hx hn hni
      have hk := next_key x hx hn hni
      have hz := f64_eq (nextN x) 0
      have hlx := keyN_lt x hx
      have hlg := keyN_lt _ hgl
      have hL : lessB x (nextN x) = true := by
        unfold lessB; refine decide_eq_true ?_; rw [hk]; split <;> omega
      have hT : Op.bytesLess (keyS (keyN x)).toList (keyS (keyN (nextN x))).toList = true := by
        rw [key_less _ _ hlx hlg]; exact hL
      generalize nextN x = g at *
      generalize hZ : eqB g 0 = Z at *
      have HN : Hid (∀ w, _) := HX
      clear HX hZ
      have HK : Hid (keyN g = _) := hk
      clear hk hni
      go_enter Try.func7, Try.ntmps7
      go_wp2_with fail
      refine (isInf_any _ _).mono ?_
      rintro e w' ⟨rfl, rfl⟩
      go_wp2_with fail
      refine (inf_pos _).mono ?_
      rintro e w' ⟨rfl, rfl⟩
      go_wp2_with fail
      refine (HN.out _).mono ?_
      rintro e w' ⟨rfl, rfl⟩
      go_wp2_with fail
      refine (key_any _ hx _).mono ?_
      rintro e w1 ⟨rfl, g1⟩
      go_wp2_with fail
      refine (key_any _ hgl _).mono ?_
      rintro e w2 ⟨rfl, g2⟩
      go_wp2_with fail
      refine (less_any _ _ hx hgl _).mono ?_
      rintro e w3 ⟨rfl, rfl⟩
      go_wp2_with fail
      clear hL hT HN
      go_loopw [7, 8, 9] (fun t u i w' => ∃ k : Nat, k ≤ 8 ∧ i = .int .i64 k ∧ t = .int .u64 (valL ((keyS (keyN x)).data.toList.take k) : Nat) ∧ u = .int .u64 (valL ((keyS (keyN g)).data.toList.take k) : Nat) ∧ Grown w3 w') (fun _ _ i _ => 8 - (intOf i).toNat)
      case atStart => exact ⟨0, by omega, rfl, rfl, rfl, Grown.refl _⟩
      case round =>
        obtain ⟨k, hk8, rfl, rfl, rfl, g3⟩ := hrel
        by_cases hlt8 : k < 8
        · have hv := valL_take (keyS (keyN x)) k hk8
          have hu := valL_take (keyS (keyN g)) k hk8
          have hp : 256 ^ k ≤ 256 ^ 7 := Nat.pow_le_pow_right (by omega) (by omega)
          have HT : Hid (valL ((keyS (keyN x)).data.toList.take (k + 1)) = valL ((keyS (keyN x)).data.toList.take k) * 256 + ((keyS (keyN x))[k]'hlt8).toNat) := by
            show _ = _
            rw [take_snoc (keyS (keyN x)) k hlt8, valL_snoc]
          have HU : Hid (valL ((keyS (keyN g)).data.toList.take (k + 1)) = valL ((keyS (keyN g)).data.toList.take k) * 256 + ((keyS (keyN g))[k]'hlt8).toNat) := by
            show _ = _
            rw [take_snoc (keyS (keyN g)) k hlt8, valL_snoc]
          have ht : valL ((keyS (keyN x)).data.toList.take k) < 72057594037927936 := by omega
          have hu' : valL ((keyS (keyN g)).data.toList.take k) < 72057594037927936 := by omega
          clear hv hu hp
          generalize valL ((keyS (keyN x)).data.toList.take k) = t at ht HT
          generalize valL ((keyS (keyN g)).data.toList.take k) = u at hu' HU
          go_wp2_with fail
          go_region
          go_wp2_with fail
          exact ⟨⟨k + 1, by omega, by go_num, by rw [HT.out]; exact congrArg (Value.int .u64) (or_byte t _ ht), by rw [HU.out]; exact congrArg (Value.int .u64) (or_byte u _ hu'), Grown.drew g3⟩, by simp [intOf]; omega⟩
        · obtain rfl : k = 8 := by omega
          have HV : Hid (valL ((keyS (keyN x)).data.toList.take 8) = keyN x) := valL_keyL _ hlx
          have HW : Hid (valL ((keyS (keyN g)).data.toList.take 8) = keyN g) := valL_keyL _ hlg
          generalize valL ((keyS (keyN x)).data.toList.take 8) = t at HV
          generalize valL ((keyS (keyN g)).data.toList.take 8) = u at HW
          obtain rfl : t = keyN x := HV.out
          obtain rfl : u = keyN g := HW.out
          clear HV HW hk8 hlt8
          cases Z
          · have hw : IntKind.u64.wrap ((keyN g : Int) - (keyN x : Int)) = 1 := by
              have e : keyN g = keyN x + 1 := HK.out
              rw [e, IntKind.wrap_u64]; omega
            clear HK
            go_wp2_with fail
            refine (wakes_any _).mono ?_
            rintro e w4 ⟨rfl, g4⟩
            go_wp2_with fail
            go_ret
            exact ⟨rfl, Grown.trans g1 (Grown.trans g2 (Grown.trans g3 g4))⟩
          · have hw : IntKind.u64.wrap ((keyN g : Int) - (keyN x : Int)) = 2 := by
              have e : keyN g = keyN x + 2 := HK.out
              rw [e, IntKind.wrap_u64]; omega
            clear HK
            go_wp2_with fail
            refine (wakes_any _).mono ?_
            rintro e w4 ⟨rfl, g4⟩
            go_wp2_with fail
            go_ret
            exact ⟨rfl, Grown.trans g1 (Grown.trans g2 (Grown.trans g3 g4))⟩
    · go_enter Try.func7, Try.ntmps7
      go_wp2_with fail
      refine (isInf_any _ _).mono ?_
      rintro e w' ⟨rfl, rfl⟩
      go_wp2_with fail
      refine (wakes_any _).mono ?_
      rintro e w4 ⟨rfl, g4⟩
      go_wp2_with fail
      go_ret
      exact ⟨rfl, g4⟩
  · have hN : (FloatKind.f64.format.order x x != some Ordering.eq) = true := by rw [f64_ne, eqB_self, hn]; rfl
    go_enter Try.func7, Try.ntmps7
    go_wp2_with fail
    refine (wakes_any _).mono ?_
    rintro e w4 ⟨rfl, g4⟩
    go_wp2_with fail
    go_ret
    exact ⟨rfl, g4⟩

end Go.Proofs.Ytcjbbggpnhpbaaa
