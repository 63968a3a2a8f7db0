/-
  What container/heap does with a pile: sift up, Init, Push, Pop; the least in front.
-/
import Derived.Test.YtmpignlciicaeaaHeap
namespace Go.Proofs.Ytmpignlciicaeaa
open Go.RowKit

set_option maxHeartbeats 2000000 in
theorem up_any {w : World} {a b : Nat} {zs : List Int} (hp : Pile w a b zs) (j n : Nat) (hn : zs.length = n) (hl : n ≤ 1000000) (hj : j < n) (hu : Up j n zs) :
    Calls Try.prog 25 #[.iface 45 (.pointer (some ⟨a, 0, none⟩)), .int .i64 (j : Int)] w fun e w' =>
      e = .returned (.tuple #[]) ∧ ∃ zs', zs'.Perm zs ∧ Heap 0 n zs' ∧ Pile w' a b zs' ∧ Only a b w w' := by
  have q2 := m_less
  have q3 := m_swap
  go_enter Try.func25, Try.ntmps25
  go_wp2_with fail
  go_loopw [1] (fun u wr => ∃ (j : Nat) (ys : List Int), u = .int .i64 (j : Int) ∧ j < n ∧ Up j n ys ∧ ys.Perm zs ∧ Pile wr a b ys ∧ Only a b w wr) (fun u _ => (intOf u).toNat)
  case atStart => exact ⟨j, zs, rfl, hj, hu, List.Perm.refl _, hp, Only.refl _ _ _⟩
  case round =>
    obtain ⟨j, ys, rfl, hj, hU, hP, hpi, ho⟩ := hrel
    have hlen := hP.length_eq
    have HU : Hid (Up j n ys) := hU
    have HP : Hid (ys.Perm zs) := hP
    have hly : ys.length ≤ 1000000 := by omega
    have hny : n ≤ ys.length := by omega
    clear hlen hU hP hu hn
    by_cases h0 : j = 0
    · subst h0
      have HH : Hid (Heap 0 n ys) := HU.out.stop0
      go_wp2_with fail
      go_end0
      exact ⟨rfl, ys, HP.out, HH.out, hpi, ho⟩
    · obtain ⟨i, e1⟩ : ∃ i : Nat, ((j : Int) - 1) / 2 = (i : Int) := ⟨(j - 1) / 2, by omega⟩
      have E1 : Hid ((j - 1) / 2 = i) := by show (j - 1) / 2 = i; omega
      have hij : i < j := by omega
      have hne : ((i : Int) == (j : Int)) = false := by simp; omega
      go_wp2_with fail
      refine (less_any hpi j i (by omega) (by omega)).mono ?_
      rintro _ wa ⟨rfl, pa, oa⟩
      by_cases hs : g ys j < g ys i
      · have hsb : decide (g ys j < g ys i) = true := decide_eq_true hs
        go_wp2_with fail
        refine (swap_any pa i j (by omega) (by omega)).mono ?_
        rintro _ wb ⟨rfl, pb, ob⟩
        have HS : Hid (Up i n (sw ys i j)) := by
          have := HU.out.step (by omega) hj (by omega) (by rw [E1.out]; exact hs)
          rw [E1.out] at this
          exact this
        go_wp2_with fail
        go_roundw
        case rel => exact ⟨i, sw ys i j, rfl, by omega, HS.out, (sw_perm (by omega) (by omega)).trans HP.out, pb, (ho.then oa).then ob⟩
        case measure => simp [intOf]; omega
      · have hsb : decide (g ys j < g ys i) = false := decide_eq_false hs
        have HH : Hid (Heap 0 n ys) := HU.out.stop (by rw [E1.out]; omega)
        go_wp2_with fail
        go_end0
        exact ⟨rfl, ys, HP.out, HH.out, pa, ho.then oa⟩

set_option maxHeartbeats 2000000 in
theorem init_any {w : World} {a b : Nat} {zs : List Int} (hp : Pile w a b zs) (hl : zs.length ≤ 1000000) :
    Calls Try.prog 18 #[.iface 45 (.pointer (some ⟨a, 0, none⟩))] w fun e w' =>
      e = .returned (.tuple #[]) ∧ ∃ zs', zs'.Perm zs ∧ Heap 0 zs.length zs' ∧ Pile w' a b zs' ∧ Only a b w w' := by
  have q1 := m_len
  obtain ⟨n, hn⟩ : ∃ n, zs.length = n := ⟨_, rfl⟩
  have hL := len_any hp
  have HN : Hid (zs.length = n) := hn
  rw [hn] at hl hL ⊢
  clear hn
  go_enter Try.func18, Try.ntmps18
  go_wp2_with fail
  refine hL.mono ?_
  rintro _ w1 ⟨rfl, rfl⟩
  go_wp2_with fail
  go_loopw [3] (fun u wr => ∃ (k : Nat) (ys : List Int), u = .int .i64 ((k : Int) - 1) ∧ k ≤ n ∧ Heap k n ys ∧ ys.Perm zs ∧ Pile wr a b ys ∧ Only a b w1 wr) (fun u _ => (intOf u + 1).toNat)
  case atStart =>
    exact ⟨n / 2, zs, by simp, by omega, Heap.none (by omega), List.Perm.refl _, hp, Only.refl _ _ _⟩
  case round =>
    obtain ⟨k, ys, rfl, hk, hH, hP, hpi, ho⟩ := hrel
    have HP : Hid (ys.Perm zs) := hP
    have HH : Hid (Heap k n ys) := hH
    have hly : ys.length = n := hP.length_eq.trans HN.out
    have HL : Hid (ys.length = n) := hly
    clear hP hH hly
    cases k with
    | zero =>
      go_wp2_with fail
      go_end0
      exact ⟨rfl, ys, HP.out, HH.out, hpi, ho⟩
    | succ m =>
      rw [show (((m + 1 : Nat) : Int) - 1) = (m : Int) by omega]
      go_wp2_with fail
      refine (down_any hpi m n (Nat.le_of_eq HL.out.symm) (Nat.le_trans (Nat.le_of_eq HL.out) hl) (by omega) (Down.start HH.out)).mono ?_
      rintro _ wa ⟨⟨v, rfl⟩, ys', P1, H1, _, pa, oa⟩
      have HP1 : Hid (ys'.Perm ys) := P1
      clear P1
      go_wp2_with fail
      go_roundw
      case rel => exact ⟨m, ys', rfl, by omega, H1, HP1.out.trans HP.out, pa, ho.then oa⟩
      case measure => simp [intOf]

theorem heap_push {w : World} {a b : Nat} {zs : List Int} (hp : Pile w a b zs) (hl : zs.length ≤ 100000) (hh : Heap 0 zs.length zs) (v : Int) :
    Calls Try.prog 19 #[.iface 45 (.pointer (some ⟨a, 0, none⟩)), .iface 3 (.int .i64 v)] w fun e w' =>
      e = .returned (.tuple #[]) ∧ ∃ b' zs', zs'.Perm (v :: zs) ∧ Heap 0 zs'.length zs' ∧ Pile w' a b' zs' ∧ Only a b w w' ∧ (b' = b ∨ w.heap.size ≤ b') := by
  have q1 := m_len
  have q2 := m_push
  go_enter Try.func19, Try.ntmps19
  go_wp2_with fail
  refine (push_any hp (by omega) v).mono ?_
  rintro _ w1 ⟨rfl, b', p1, o1, hb⟩
  have hL := len_any p1
  rw [List.length_append, List.length_singleton] at hL
  have HU : Hid (Up zs.length (zs.length + 1) (zs ++ [v])) := Up.pushed hh v
  have HN : Hid ((zs ++ [v]).length = zs.length + 1) := by show (zs ++ [v]).length = _; simp
  obtain ⟨n, hn⟩ : ∃ n, zs.length = n := ⟨_, rfl⟩
  rw [hn] at hl hL HU HN
  clear hn hh
  go_wp2_with fail
  refine hL.mono ?_
  rintro _ w2 ⟨rfl, rfl⟩
  go_wp2_with fail
  refine (up_any p1 n (n + 1) HN.out (by omega) (by omega) HU.out).mono ?_
  rintro _ w3 ⟨rfl, ys, P2, H2, p2, o2⟩
  have HP : Hid (ys.Perm (zs ++ [v])) := P2
  clear P2
  go_wp2_with fail
  go_end0
  have hlen := HP.out.length_eq.trans HN.out
  refine ⟨rfl, b', ys, HP.out.trans (List.perm_append_singleton _ _), ?_, p2, o1.trans o2 hb, hb⟩
  rw [hlen]
  exact H2

theorem heap_pop {w : World} {a b : Nat} {zs : List Int} (hp : Pile w a b zs) (n : Nat) (hn : zs.length = n + 1) (hl : n ≤ 100000) (hh : Heap 0 zs.length zs) :
    Calls Try.prog 21 #[.iface 45 (.pointer (some ⟨a, 0, none⟩))] w fun e w' =>
      (∃ v, e = .returned v) ∧ ∃ zs', zs.Perm (g zs 0 :: zs') ∧ Heap 0 zs'.length zs' ∧ Pile w' a b zs' ∧ Only a b w w' := by
  have q1 := m_len
  have q2 := m_swap
  have q3 := m_pop
  have hL := len_any hp
  have HN : Hid (zs.length = n + 1) := hn
  rw [hn] at hh hL
  have HD : Hid (Down 0 0 n (sw zs 0 n)) := Down.popped hh hn
  have HS : Hid ((sw zs 0 n).length = n + 1) := (sw_length _ _ _).trans hn
  have hsw := swap_any hp 0 n (by omega) (by omega)
  clear hh hn
  go_enter Try.func21, Try.ntmps21
  go_wp2_with fail
  refine hL.mono ?_
  rintro _ w1 ⟨rfl, rfl⟩
  go_wp2_with fail
  refine hsw.mono ?_
  rintro _ w2 ⟨rfl, p2, o2⟩
  go_wp2_with fail
  refine (down_any p2 0 n (Nat.le_trans (Nat.le_succ n) (Nat.le_of_eq HS.out.symm)) (Nat.le_trans (Nat.le_of_eq HS.out) (by omega)) (by omega) HD.out).mono ?_
  rintro _ w3 ⟨⟨v, rfl⟩, ys, P3, H3, K3, p3, o3⟩
  have HP : Hid (ys.Perm (sw zs 0 n)) := P3
  have HH : Hid (Heap 0 n ys) := H3
  have HK : Hid (∀ k, n ≤ k → g ys k = g (sw zs 0 n) k) := K3
  clear P3 H3 K3
  have hlen : ys.length = n + 1 := HP.out.length_eq.trans HS.out
  have hpo := pop_any p3 n hlen (by omega)
  have HL : Hid (ys.length = n + 1) := hlen
  clear hlen
  go_wp2_with fail
  refine hpo.mono ?_
  rintro _ w4 ⟨⟨v, rfl⟩, p4, o4⟩
  go_wp2_with fail
  go_ret
  have hz := HN.out
  have hy := HL.out
  refine ⟨⟨_, rfl⟩, ys.take n, ?_, HH.out.take (by omega), p4, (o2.then o3).then o4⟩
  have h1 : ys.take n ++ [g zs 0] = ys := by
    have h2 := HK.out n (Nat.le_refl _)
    rw [g_sw (by omega) (by omega), if_pos rfl, g_lt (by omega)] at h2
    have h3 := List.take_append_getElem (l := ys) (i := n) (by omega)
    rw [h2, List.take_of_length_le (i := n + 1) (by omega)] at h3
    exact h3
  have h2 : ys.Perm zs := HP.out.trans (sw_perm (by omega) (by omega))
  have h3 : (ys.take n ++ [g zs 0]).Perm (g zs 0 :: ys.take n) := List.perm_append_singleton _ _
  rw [h1] at h3
  exact h2.symm.trans h3

theorem least_any {w : World} {a b : Nat} {zs : List Int} (hp : Pile w a b zs) (n : Nat) (hn : zs.length = n + 1) :
    Calls Try.prog 20 #[.iface 45 (.pointer (some ⟨a, 0, none⟩))] w fun e w' => e = .returned (.tuple #[.int .i64 (g zs 0), .bool true]) ∧ w' = w := by
  have q1 := m_len
  have q2 := m_first
  have hL := len_any hp
  have hf := first_any hp (by omega)
  rw [hn] at hL
  have ht : (((n + 1 : Nat) : Int) == 0) = false := by simp; omega
  clear hn
  go_enter Try.func20, Try.ntmps20
  go_wp2_with fail
  refine hL.mono ?_
  rintro _ w1 ⟨rfl, rfl⟩
  go_wp2_with fail
  refine hf.mono ?_
  rintro _ w1 ⟨rfl, rfl⟩
  go_wp2_with fail
  go_ret2
  exact ⟨rfl, rfl⟩

theorem least_none {w : World} {a b : Nat} (hp : Pile w a b []) :
    Calls Try.prog 20 #[.iface 45 (.pointer (some ⟨a, 0, none⟩))] w fun e w' => e = .returned (.tuple #[.int .i64 0, .bool false]) ∧ w' = w := by
  have q1 := m_len
  go_enter Try.func20, Try.ntmps20
  go_wp2_with fail
  refine (len_any hp).mono ?_
  rintro _ w1 ⟨rfl, rfl⟩
  go_wp2_with fail
  go_ret2
  exact ⟨rfl, rfl⟩

end Go.Proofs.Ytmpignlciicaeaa
