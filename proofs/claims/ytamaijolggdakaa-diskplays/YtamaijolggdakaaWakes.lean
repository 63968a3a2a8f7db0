/-
  wakes tells true.
-/
import Derived.Test.YtamaijolggdakaaHold
namespace Go.Proofs.Ytamaijolggdakaa
open Go.RowKit

def tornL : List UInt8 := tear zeros (fillL 7) 1
def st0 : St := ⟨3, [], [], -1, false⟩
def st1 : St := ⟨3, [zeros, zeros], [], -1, false⟩
def st2 : St := ⟨3, [zeros, zeros], [(1, fillL 7)], -1, false⟩
def st3 : St := ⟨3, [zeros, tornL], [], -1, false⟩
def st4 : St := ⟨3, [zeros, tornL], [], 1, false⟩
def st5 : St := ⟨3, [zeros, tornL], [(0, fillL 1)], 0, false⟩
def st6 : St := ⟨3, [zeros, tornL], [(0, fillL 1)], 0, true⟩
theorem e1 : st0.grow 2 = (0, st1) := by kernel_rfl
theorem e2 : st1.grow 4 = (3, st1) := by kernel_rfl
theorem e3 : st1.write 1 (fillL 7) = (0, st2) := by kernel_rfl
theorem e4 : st2.read 1 = (0, fillL 7) := by kernel_rfl
theorem e5 : st2.crash [1] = st3 := by kernel_rfl
theorem e6 : st3.read 1 = (0, tornL) := by kernel_rfl
theorem e7 : st3.setFuse 1 = st4 := by kernel_rfl
theorem e8 : st4.write 0 (fillL 1) = (0, st5) := by kernel_rfl
theorem e9 : st5.sync = (2, st6) := by kernel_rfl
theorem e10 : st6.read 0 = (2, []) := by kernel_rfl
theorem e11 : st6.crash [] = st3 := by kernel_rfl
theorem e12 : st3.read 0 = (0, zeros) := by kernel_rfl
theorem torn_text : (bs (fillL 7)).extract 0 64 ++ (bs (fillL 0)).extract 64 256 = bs tornL := by decide +kernel
theorem fill_zero : fillL 0 = zeros := rfl

set_option maxRecDepth 40000 in
set_option maxHeartbeats 8000000 in
theorem wakes_any (w : World) : Calls Try.prog 11 #[] w fun e w' => e = .returned (.bool true) ∧ New w w' := by
  have hnew := new_any w 3
  go_enter Try.func11, Try.ntmps11
  go_wp2_with fail
  refine hnew.mono ?_
  rintro _ w1 ⟨N1, p, F1, rfl, D1, hF1⟩
  have A1 : Above w.heap.size w w1 F1 := ⟨N1, hF1, N1.size⟩
  have c1 := grow_any D1 2
  change Calls _ _ _ _ (fun e w' => e = .returned (.int .i64 (st0.grow 2).1) ∧ Left F1 p w1 (st0.grow 2).2 w') at c1
  rw [e1] at c1
  clear hnew N1 hF1 D1
  go_wp2_with fail
  refine c1.mono ?_
  rintro _ w2 ⟨rfl, F2, D2, T2⟩
  have A2 := A1.step T2
  have c2 := grow_any D2 4
  rw [e2] at c2
  clear c1 A1 T2 D2
  go_wp2_with fail
  refine c2.mono ?_
  rintro _ w3 ⟨rfl, F3, D3, T3⟩
  have A3 := A2.step T3
  clear c2 A2 T3
  have f7 := fill_any 7
  go_wp2_with fail
  refine (f7 _).mono ?_
  rintro _ w4 ⟨rfl, N4⟩
  have D4 := D3.after N4
  have A4 := A3.new N4
  have c4 := write_any D4 1 (bs (fillL 7)) (by decide)
  rw [L_bs, e3] at c4
  clear A3 N4 D3
  go_wp2_with fail
  refine c4.mono ?_
  rintro _ w5 ⟨rfl, F5, D5, T5⟩
  have A5 := A4.step T5
  have c5 := read_any D5 1
  rw [e4] at c5
  clear c4 A4 T5 D4
  go_wp2_with fail
  refine c5.mono ?_
  rintro _ w6 ⟨rfl, N6⟩
  have D6 := D5.after N6
  have A6 := A5.new N6
  clear c5 A5 N6 D5
  have N7 : New w6 (w6.alloc (.cells #[.int .u8 1] 5)) := (New.refl w6).alloc _
  have hB7 : Bytes (w6.alloc (.cells #[.int .u8 1] 5)) (some ⟨w6.heap.size, 0, none⟩) [1] := fun _ => ⟨_, rfl, fun i hi => by
    obtain rfl : i = 0 := by simp at hi; omega
    rw [Addr.add_mid, (Row.new w6 #[.int .u8 1] 5).cell]; rfl⟩
  have hF7 : ∀ x : Addr, some (⟨w6.heap.size, 0, none⟩ : Addr) = some x → ¬ F5 x.block := fun x hx h => by
    cases hx
    exact absurd (D6.inside _ h) (Nat.lt_irrefl _)
  have c7 := crash_any (D6.after N7) (some ⟨w6.heap.size, 0, none⟩) 1 [1] hB7 hF7 (by decide)
  rw [e5] at c7
  have A7 := A6.new N7
  clear hB7 hF7 A6 N7 D6
  go_wp2_with fail
  refine c7.mono ?_
  rintro _ w8 ⟨rfl, F8, D8, T8⟩
  have A8 := A7.step T8
  have c8 := read_any D8 1
  rw [e6] at c8
  clear c7 A7 T8
  go_wp2_with fail
  refine c8.mono ?_
  rintro _ w9 ⟨rfl, N9⟩
  have A9 := A8.new N9
  have c9 := fuse_any (D8.after N9) 1 (by decide) (by decide)
  rw [e7] at c9
  clear c8 A8 N9 D8
  go_wp2_with fail
  refine c9.mono ?_
  rintro _ w10 ⟨rfl, D10, T10⟩
  have A10 := A9.step T10
  have f1 := fill_any 1
  clear c9 A9 T10
  go_wp2_with fail
  refine (f1 _).mono ?_
  rintro _ w11 ⟨rfl, N11⟩
  have A11 := A10.new N11
  have c11 := write_any (D10.after N11) 0 (bs (fillL 1)) (by decide)
  rw [L_bs, e8] at c11
  clear A10 N11 D10 f1
  go_wp2_with fail
  refine c11.mono ?_
  rintro _ w12 ⟨rfl, F12, D12, T12⟩
  have A12 := A11.step T12
  have c12 := sync_any D12
  rw [e9] at c12
  clear c11 A11 T12 D12
  go_wp2_with fail
  refine c12.mono ?_
  rintro _ w13 ⟨rfl, F13, D13, T13⟩
  have A13 := A12.step T13
  have c13 := read_any D13 0
  rw [e10] at c13
  clear c12 A12 T13
  go_wp2_with fail
  refine c13.mono ?_
  rintro _ w14 ⟨rfl, N14⟩
  have A14 := A13.new N14
  have c14 := crash_any (D13.after N14) none 0 [] (fun h => absurd h (by decide)) (fun x hx => by cases hx) (by decide)
  rw [e11] at c14
  clear c13 A13 N14 D13
  go_wp2_with fail
  refine c14.mono ?_
  rintro _ w15 ⟨rfl, F15, D15, T15⟩
  have A15 := A14.step T15
  have c15 := read_any D15 0
  rw [e12] at c15
  clear c14 A14 T15
  go_wp2_with fail
  refine c15.mono ?_
  rintro _ w16 ⟨rfl, N16⟩
  have D16 := D15.after N16
  have A16 := A15.new N16
  clear c15 A15 N16 D15
  go_wp2_with fail
  have f0 := fill_any 0
  rw [fill_zero] at f0
  have htt : (bs (fillL 7)).extract 0 64 ++ (bs zeros).extract 64 256 = bs tornL := torn_text
  have h7 : (bs (fillL 7)).size = 256 := by rw [bs_size, fillL_length]
  have h0 : (bs zeros).size = 256 := by rw [bs_size, zeros_length]
  have cl : ∀ q : NewW w16, Calls Try.prog 27 #[.pointer (some ⟨p, 0, none⟩)] q.v fun e w' => e = .returned (.int .i64 2) ∧ w' = q.v := fun q => length_any (D16.after q.h)
  have ci : ∀ q : NewW w16, Calls Try.prog 28 #[.pointer (some ⟨p, 0, none⟩)] q.v fun e w' => e = .returned (.int .i64 3) ∧ w' = q.v := fun q => limit_any (D16.after q.h)
  have HD : Hid (Disk w16 F15 p st3) := D16
  have HA : Hid (Above w.heap.size w w16 F15) := A16
  clear D16 A16
  generalize bs (fillL 7) = s7 at f7 htt h7 ⊢
  generalize bs zeros = s0 at f0 htt h0 ⊢
  generalize bs tornL = sT at htt ⊢
  have g7 : ∀ w, Calls Try.prog 13 #[.int .u8 7] w fun e w' => e = .returned (.string s7) ∧ New w w' := f7
  have g0 : ∀ w, Calls Try.prog 13 #[.int .u8 0] w fun e w' => e = .returned (.string s0) ∧ New w w' := f0
  clear f7 f0
  have hne := NewW.ne w16
  refine region_first 65 5 w16 (New.refl w16) (by kernel_rfl) (by kernel_rfl) ?_
  simp only [List.append_eq, List.cons_append, List.nil_append, List.take_succ_cons, List.take_zero, List.drop_succ_cons, List.drop_zero, List.take_nil]
  iterate 27 (go_big_quiet_step (exact Calls.neww (g7 _)))
  iterate 38 (go_big_quiet_step (first
    | (go_at_call 13; exact Calls.neww (g0 _))
    | (go_at_call 27; exact Calls.neww_same (cl _))
    | (go_at_call 28; exact Calls.neww_same (ci _))))
  refine wpQuiet_nil ?_
  rintro w17 ⟨⟨_, N17⟩, rfl⟩
  clear cl ci hne g7 g0 htt h7 h0
  have D17 := HD.out.after N17
  have cw := waiting_any D17
  go_wp2_with fail
  refine cw.mono ?_
  rintro _ w18 ⟨v, rfl, Q18, N18⟩
  obtain ⟨a18, c18, rfl, _⟩ := Q18.form
  clear cw D17 Q18
  go_wp2_with fail
  go_ret
  exact ⟨rfl, HA.out.below.trans ((N17.trans N18).mono HA.out.size)⟩

end Go.Proofs.Ytamaijolggdakaa
