/-
  What container/heap does with a pile: sift down, sift up, Init.
-/
import Derived.Test.YtmpignlciicaeaaLeaf
namespace Go.Proofs.Ytmpignlciicaeaa
open Go.RowKit

theorem m_len (p : Addr) (w : World) : Sem.run Try.prog (method 199 45 (Value.pointer (some p)) "Len") w = .ok (22, Value.pointer (some p)) w := by kernel_rfl
theorem m_less (p : Addr) (w : World) : Sem.run Try.prog (method 199 45 (Value.pointer (some p)) "Less") w = .ok (62, Value.pointer (some p)) w := by kernel_rfl
theorem m_swap (p : Addr) (w : World) : Sem.run Try.prog (method 199 45 (Value.pointer (some p)) "Swap") w = .ok (65, Value.pointer (some p)) w := by kernel_rfl
theorem m_push (p : Addr) (w : World) : Sem.run Try.prog (method 199 45 (Value.pointer (some p)) "Push") w = .ok (64, Value.pointer (some p)) w := by kernel_rfl
theorem m_pop (p : Addr) (w : World) : Sem.run Try.prog (method 199 45 (Value.pointer (some p)) "Pop") w = .ok (63, Value.pointer (some p)) w := by kernel_rfl
theorem m_first (p : Addr) (w : World) : Sem.run Try.prog (method 199 45 (Value.pointer (some p)) "umbel/queue.first") w = .ok (66, Value.pointer (some p)) w := by kernel_rfl

/-- A pile as the interface has it. -/
def box (a : Nat) : Value := .iface 45 (.pointer (some ⟨a, 0, none⟩))

set_option maxHeartbeats 2000000 in
theorem down_any {w : World} {a b : Nat} {zs : List Int} (hp : Pile w a b zs) (i0 n : Nat) (hn : n ≤ zs.length) (hl : zs.length ≤ 1000000) (hi : i0 ≤ 1000000) (hd : Down i0 i0 n zs) :
    Calls Try.prog 24 #[.iface 45 (.pointer (some ⟨a, 0, none⟩)), .int .i64 (i0 : Int), .int .i64 (n : Int)] w fun e w' =>
      (∃ v, e = .returned v) ∧ ∃ zs', zs'.Perm zs ∧ Heap i0 n zs' ∧ (∀ k, n ≤ k → g zs' k = g zs k) ∧ Pile w' a b zs' ∧ Only a b w w' := by
  have q2 := m_less
  have q3 := m_swap
  go_enter Try.func24, Try.ntmps24
  go_wp2_with fail
  go_loopw [7] (fun u wr => ∃ (i : Nat) (ys : List Int), u = .int .i64 (i : Int) ∧ i ≤ 1000000 ∧ i0 ≤ i ∧ Down i0 i n ys ∧ ys.Perm zs ∧ (∀ k, n ≤ k → g ys k = g zs k) ∧ Pile wr a b ys ∧ Only a b w wr) (fun u _ => 1000000 - (intOf u).toNat)
  case atStart => exact ⟨i0, zs, rfl, hi, Nat.le_refl _, hd, List.Perm.refl _, fun _ _ => rfl, hp, Only.refl _ _ _⟩
  case round =>
    obtain ⟨i, ys, rfl, hi2, hii, hD, hP, hK, hpi, ho⟩ := hrel
    have hlen := hP.length_eq
    have HD : Hid (Down i0 i n ys) := hD
    have HP : Hid (ys.Perm zs) := hP
    have HK : Hid (∀ k, n ≤ k → g ys k = g zs k) := hK
    have hny : n ≤ ys.length := by omega
    have hly : ys.length ≤ 1000000 := by omega
    clear hlen hD hP hK hd hn hl
    by_cases h1 : n ≤ 2 * i + 1
    · have HH : Hid (Heap i0 n ys) := HD.out.leaf h1
      go_wp2_with fail
      go_ret
      exact ⟨⟨_, rfl⟩, ys, HP.out, HH.out, HK.out, hpi, ho⟩
    · obtain ⟨j1, e1⟩ : ∃ j1 : Nat, 2 * (i : Int) + 1 = (j1 : Int) := ⟨2 * i + 1, by omega⟩
      obtain ⟨j2, e2⟩ : ∃ j2 : Nat, (j1 : Int) + 1 = (j2 : Int) := ⟨j1 + 1, by omega⟩
      have E1 : Hid (j1 = 2 * i + 1) := by show j1 = 2 * i + 1; omega
      have E2 : Hid (j2 = 2 * i + 2) := by show j2 = 2 * i + 2; omega
      have hj1 : j1 < n := by omega
      have hb1 : i < j1 := by omega
      by_cases h2 : j2 < n
      · go_wp2_with fail
        refine (less_any hpi j2 j1 (by omega) (by omega)).mono ?_
        rintro _ wa ⟨rfl, pa, oa⟩
        by_cases hs : g ys j2 < g ys j1
        · have hsb : decide (g ys j2 < g ys j1) = true := decide_eq_true hs
          have hmin : ∀ k, k = 2 * i + 1 ∨ k = 2 * i + 2 → k < n → g ys j2 ≤ g ys k := fun k hk _ => by
            have h3 := E1.out
            have h4 := E2.out
            rcases hk with h | h
            · rw [show k = j1 by omega]; omega
            · rw [show k = j2 by omega]; omega
          go_wp2_with fail
          refine (less_any pa j2 i (by omega) (by omega)).mono ?_
          rintro _ wb ⟨rfl, pb, ob⟩
          by_cases ht : g ys j2 < g ys i
          · have htb : decide (g ys j2 < g ys i) = true := decide_eq_true ht
            go_wp2_with fail
            refine (swap_any pb i j2 (by omega) (by omega)).mono ?_
            rintro _ wc ⟨rfl, pc, oc⟩
            clear htb
            go_wp2_with fail
            go_roundw
            case rel => exact ⟨j2, sw ys i j2, rfl, by omega, by omega, HD.out.step (by omega) (by omega) (by omega) hii hmin ht, (sw_perm (by omega) (by omega)).trans HP.out, fun k hk => by rw [g_sw (by omega) (by omega), if_neg (by omega), if_neg (by omega)]; exact HK.out k hk, pc, ((ho.then oa).then ob).then oc⟩
            case measure => simp [intOf]; omega
          · have htb : decide (g ys j2 < g ys i) = false := decide_eq_false ht
            have HH : Hid (Heap i0 n ys) := HD.out.stop fun k hk hkn => by have := hmin k hk hkn; omega
            go_wp2_with fail
            go_ret
            exact ⟨⟨_, rfl⟩, ys, HP.out, HH.out, HK.out, pb, (ho.then oa).then ob⟩
        · have hsb : decide (g ys j2 < g ys j1) = false := decide_eq_false hs
          have hmin : ∀ k, k = 2 * i + 1 ∨ k = 2 * i + 2 → k < n → g ys j1 ≤ g ys k := fun k hk _ => by
            have h3 := E1.out
            have h4 := E2.out
            rcases hk with h | h
            · rw [show k = j1 by omega]; omega
            · rw [show k = j2 by omega]; omega
          go_wp2_with fail
          refine (less_any pa j1 i (by omega) (by omega)).mono ?_
          rintro _ wb ⟨rfl, pb, ob⟩
          by_cases ht : g ys j1 < g ys i
          · have htb : decide (g ys j1 < g ys i) = true := decide_eq_true ht
            go_wp2_with fail
            refine (swap_any pb i j1 (by omega) (by omega)).mono ?_
            rintro _ wc ⟨rfl, pc, oc⟩
            clear htb
            go_wp2_with fail
            go_roundw
            case rel => exact ⟨j1, sw ys i j1, rfl, by omega, by omega, HD.out.step (by omega) (by omega) (by omega) hii hmin ht, (sw_perm (by omega) (by omega)).trans HP.out, fun k hk => by rw [g_sw (by omega) (by omega), if_neg (by omega), if_neg (by omega)]; exact HK.out k hk, pc, ((ho.then oa).then ob).then oc⟩
            case measure => simp [intOf]; omega
          · have htb : decide (g ys j1 < g ys i) = false := decide_eq_false ht
            have HH : Hid (Heap i0 n ys) := HD.out.stop fun k hk hkn => by have := hmin k hk hkn; omega
            go_wp2_with fail
            go_ret
            exact ⟨⟨_, rfl⟩, ys, HP.out, HH.out, HK.out, pb, (ho.then oa).then ob⟩
      · have hmin : ∀ k, k = 2 * i + 1 ∨ k = 2 * i + 2 → k < n → g ys j1 ≤ g ys k := fun k hk _ => by
          have h3 := E1.out
          have h4 := E2.out
          rcases hk with h | h
          · rw [show k = j1 by omega]; omega
          · omega
        go_wp2_with fail
        refine (less_any hpi j1 i (by omega) (by omega)).mono ?_
        rintro _ wb ⟨rfl, pb, ob⟩
        by_cases ht : g ys j1 < g ys i
        · have htb : decide (g ys j1 < g ys i) = true := decide_eq_true ht
          go_wp2_with fail
          refine (swap_any pb i j1 (by omega) (by omega)).mono ?_
          rintro _ wc ⟨rfl, pc, oc⟩
          clear htb
          go_wp2_with fail
          go_roundw
          case rel => exact ⟨j1, sw ys i j1, rfl, by omega, by omega, HD.out.step (by omega) (by omega) (by omega) hii hmin ht, (sw_perm (by omega) (by omega)).trans HP.out, fun k hk => by rw [g_sw (by omega) (by omega), if_neg (by omega), if_neg (by omega)]; exact HK.out k hk, pc, ((ho).then ob).then oc⟩
          case measure => simp [intOf]; omega
        · have htb : decide (g ys j1 < g ys i) = false := decide_eq_false ht
          have HH : Hid (Heap i0 n ys) := HD.out.stop fun k hk hkn => by have := hmin k hk hkn; omega
          go_wp2_with fail
          go_ret
          exact ⟨⟨_, rfl⟩, ys, HP.out, HH.out, HK.out, pb, (ho).then ob⟩

end Go.Proofs.Ytmpignlciicaeaa
