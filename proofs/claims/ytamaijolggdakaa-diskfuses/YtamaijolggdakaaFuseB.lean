/-
  DiskFuses walked.
-/
import Derived.Test.YtamaijolggdakaaFuseA
namespace Go.Proofs.Ytamaijolggdakaa
open Go.RowKit

theorem ee1 : St.grow ⟨4, [], [], -1, false⟩ 4 = (0, ⟨4, z4, [], -1, false⟩) := by kernel_rfl

theorem fs_zero (k : Nat) : St.setFuse ⟨4, z4, [], -1, false⟩ (k : Int) = fs k 0 [] := rfl

set_option maxRecDepth 40000 in
set_option maxHeartbeats 8000000 in
theorem fuses_walk (n m : Nat) (hn : n < 256) (hm : m < 256) (w : World) : Calls Try.prog 7 #[.int .u8 (n : Int), .int .u8 (m : Int)] w fun e w' => e = .returned (.bool true) ∧ New w w' := by
  obtain ⟨k, hk, hk10⟩ : ∃ k : Nat, (n : Int) % 10 = (k : Int) ∧ k < 10 := ⟨n % 10, by omega, by omega⟩
  obtain ⟨t, ht, ht12⟩ : ∃ t : Nat, (m : Int) % 12 = (t : Int) ∧ t < 12 := ⟨m % 12, by omega, by omega⟩
  have hnew := new_any w 4
  go_enter Try.func7, Try.ntmps7
  go_wp2_with fail
  refine hnew.mono ?_
  rintro _ w1 ⟨N1, p, F1, rfl, D1, hF1⟩
  have A1 : Above w.heap.size w w1 F1 := ⟨N1, hF1, N1.size⟩
  have c1 := grow_any D1 4
  change Calls _ _ _ _ (fun e w' => e = .returned (.int .i64 (St.grow ⟨4, [], [], -1, false⟩ 4).1) ∧ Left F1 p w1 (St.grow ⟨4, [], [], -1, false⟩ 4).2 w') at c1
  rw [ee1] at c1
  clear hnew N1 hF1 D1
  go_wp2_with fail
  refine c1.mono ?_
  rintro _ w2 ⟨rfl, F2, D2, T2⟩
  have A2 := A1.step T2
  clear c1 A1 T2
  go_wp2_with fail
  have c2 := fuse_any D2 (k : Int) (by omega) (by omega)
  rw [fs_zero] at c2
  clear D2
  refine c2.mono ?_
  rintro _ w3 ⟨rfl, D3, T3⟩
  have A3 := A2.step T3
  clear c2 A2 T3
  go_wp2_with fail
  go_loopw [9] (fun u wr => ∃ (i : Nat) (ws : List (Nat × List UInt8)) (F : Nat → Prop), u = .int .i64 (i : Int) ∧ i ≤ t ∧ ws.length = min k i ∧ Disk wr F p (fs k i ws) ∧ Above w.heap.size w wr F) (fun u _ => match u with | .int _ i => ((t : Int) - i).toNat | _ => 0)
  case atStart => exact ⟨0, [], _, rfl, by omega, by simp, D3, A3⟩
  case round =>
    obtain ⟨i, ws, F, rfl, hi, hws, D, A⟩ := hrel
    by_cases hit : i < t
    · obtain ⟨v, hv⟩ : ∃ v : UInt8, ((v.toNat : Nat) : Int) = (i : Int) + 1 := ⟨UInt8.ofNat (i + 1), by rw [UInt8.toNat_ofNat']; omega⟩
      have f1 := fill_any v wr
      rw [hv] at f1
      go_wp2_with fail
      refine f1.mono ?_
      rintro _ w4 ⟨rfl, N4⟩
      have A4 := A.new N4
      obtain ⟨ws', hws', he⟩ := fs_write k i ws hws v
      have c4 := write_any (D.after N4) ((i % 4 : Nat) : Int) (bs (fillL v)) (by show ws.length < 1000; omega)
      rw [L_bs, he, show ((i % 4 : Nat) : Int) = (i : Int) % 4 by omega] at c4
      clear f1 A N4 D he hv
      by_cases hik : i < k
      · rw [if_pos hik] at c4
        go_wp2_with fail
        refine c4.mono ?_
        rintro _ w5 ⟨rfl, F5, D5, T5⟩
        have A5 := A4.step T5
        clear c4 A4 T5
        go_wp2_with fail
        exact ⟨⟨i + 1, ws', F5, rfl, by omega, hws', D5, A5⟩, by simp; omega⟩
      · rw [if_neg hik] at c4
        go_wp2_with fail
        refine c4.mono ?_
        rintro _ w5 ⟨rfl, F5, D5, T5⟩
        have A5 := A4.step T5
        clear c4 A4 T5
        go_wp2_with fail
        exact ⟨⟨i + 1, ws', F5, rfl, by omega, hws', D5, A5⟩, by simp; omega⟩
    · obtain rfl : i = t := by omega
      obtain ⟨q, r, y, hq, hr, hy, hcase⟩ : ∃ (q : Nat) (r y : Int), min k i = q ∧ (if k < i then 2 else 0) = r ∧ (if i < k then 0 else 2) = y ∧ ((k < i ∧ q = k ∧ r = 2 ∧ y = 2) ∨ (k = i ∧ q = k ∧ r = 0 ∧ y = 2) ∨ (i < k ∧ q = i ∧ r = 0 ∧ y = 0)) := by
        refine ⟨_, _, _, rfl, rfl, rfl, ?_⟩
        rcases Nat.lt_trichotomy k i with h | h | h
        · exact .inl ⟨h, by omega, if_pos h, if_neg (by omega)⟩
        · exact .inr (.inl ⟨h, by omega, if_neg (by omega), if_neg (by omega)⟩)
        · exact .inr (.inr ⟨h, by omega, if_neg (by omega), if_pos h⟩)
      have cw := waiting_any D
      have hr2 := fs_read k i ws
      have hy2 := fs_sync k i ws
      have hl2 := fs_lens k i ws
      rw [hr] at hr2
      rw [hy] at hy2
      have HC : Hid ((k < i ∧ q = k ∧ r = 2 ∧ y = 2) ∨ (k = i ∧ q = k ∧ r = 0 ∧ y = 2) ∨ (i < k ∧ q = i ∧ r = 0 ∧ y = 0)) := hcase
      clear hcase
      go_wp2_with fail
      refine cw.mono ?_
      rintro _ w4 ⟨v, rfl, Q4, N4⟩
      obtain ⟨a4, c4, hv, _⟩ := Q4.form
      have hl : (List.map tellL (fs k i ws).ws).length = q := by rw [List.length_map, ← hq]; exact hws
      rw [hl] at hv
      subst hv
      have D4 := D.after N4
      have A4 := A.new N4
      have c5 := read_any D4 0
      rw [hr2] at c5
      clear cw D Q4 N4 A hl hq hr hy hr2 hws
      generalize fs k i ws = S4 at D4 c5 hy2 hl2
      have HY : Hid (S4.sync.1 = y) := hy2
      have HL : Hid (S4.sync.2.ps.length = 4) := hl2
      clear hy2 hl2
      rcases HC.out with ⟨h, rfl, rfl, rfl⟩ | ⟨rfl, rfl, rfl, rfl⟩ | ⟨h, rfl, rfl, rfl⟩
      all_goals
        clear HC
        go_wp2_with fail
        refine c5.mono ?_
        rintro _ w6 ⟨rfl, N6⟩
        have D6 := D4.after N6
        have A6 := A4.new N6
        have c6 := sync_any D6
        rw [HY.out] at c6
        clear c5 D4 A4 N6 D6
        go_wp2_with fail
        refine c6.mono ?_
        rintro _ w7 ⟨rfl, F7, D7, T7⟩
        have A7 := A6.step T7
        have c7 := crash_any D7 none 0 [] (fun h => absurd h (by decide)) (fun x hx => by cases hx) (by decide)
        rw [crash_none] at c7
        clear c6 A6 T7 D7 HY
        go_wp2_with fail
        refine c7.mono ?_
        rintro _ w8 ⟨rfl, F8, D8, T8⟩
        have A8 := A7.step T8
        have c8 := read_any D8 ((0 : Nat) : Int)
        rw [calm_read 0 (by rw [HL.out]; decide)] at c8
        clear c7 A7 T8
        go_wp2_with fail
        refine c8.mono ?_
        rintro _ w9 ⟨rfl, N9⟩
        have D9 := D8.after N9
        have A9 := A8.new N9
        have c9 := sync_any D9
        rw [calm_sync] at c9
        clear c8 A8 N9 D9 D8
        go_wp2_with fail
        refine c9.mono ?_
        rintro _ w10 ⟨rfl, F10, D10, T10⟩
        have A10 := A9.step T10
        have c10 := waiting_any D10
        clear c9 A9 T10
        go_wp2_with fail
        refine c10.mono ?_
        rintro _ w11 ⟨v, rfl, Q11, N11⟩
        obtain ⟨a11, c11, rfl, _⟩ := Q11.form
        have A11 := A10.new N11
        clear c10 Q11 A10 N11 D10
        go_wp2_with fail
        refine (wakes_any w11).mono ?_
        rintro _ w12 ⟨rfl, N12⟩
        have A12 := A11.new N12
        clear A11 N12
        go_wp2_with fail
        go_ret
        exact ⟨rfl, A12.below⟩

end Go.Proofs.Ytamaijolggdakaa
