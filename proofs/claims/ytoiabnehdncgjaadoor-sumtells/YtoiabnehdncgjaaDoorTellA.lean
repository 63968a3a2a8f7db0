/-
  What SumTells returns: true, for every text and every sum, where the table of steps lies as its initialiser lays it.
-/
import Derived.Test.YtoiabnehdncgjaaDoorWakes
import Derived.Test.YtoiabnehdncgjaaDoorRef
import Derived.Test.YtoiabnehdncgjaaDoorQuiet
namespace Go.Proofs.YtoiabnehdncgjaaDoor
open Go.RowKit

set_option maxHeartbeats 2000000 in
theorem tells_rest (s : ByteArray) (c : Nat) (hc : c < 4294967296) (h2 : ¬ 2000 < s.size) (w : World) (hT : Tab w) :
    Calls Tryd.prog 3 #[.string s, .int .u32 (c : Int)] w fun e w' => e = .returned (.bool true) ∧ w.keptBut w' (fun _ => False) := by
  have hd : decide ((s.size : Int) > 2000) = false := decide_eq_false (by omega)
  have hs : s.size ≤ 140737488351232 := by omega
  have hne : Nonempty (KeptW w) := ⟨⟨w, Kept.refl w⟩⟩
  by_cases h4 : s.size < 4
  · have hd4 : decide ((s.size : Int) ≥ 4) = false := decide_eq_false (by omega)
    have hd4n : decide (s.size ≥ 4) = false := decide_eq_false (by omega)
    go_enter Tryd.func3, Tryd.ntmps3
    go_wp2_with fail
    refine (get_short s h4 _).mono ?_
    rintro e w1 ⟨rfl, rfl⟩
    go_wp2_with fail
    refine region_kept w1 (Kept.refl w1) (by kernel_rfl) (by kernel_rfl) ?_
    repeat (go_big_quiet_step (fail))
    refine wpQuiet_nil ?_
    rintro _ ⟨⟨w2, hk2⟩, rfl⟩
    have hT2 := hT.kept hk2
    go_wp2_with fail
    refine (of_any s hs _ hT2).mono ?_
    rintro e w3 ⟨rfl, rfl⟩
    go_wp2_with fail
    refine (refOf_any s hs _).mono ?_
    rintro e w4 ⟨rfl, rfl⟩
    go_wp2_with fail
    refine (add_any c hc s hs _ hT2).mono ?_
    rintro e w4 ⟨rfl, rfl⟩
    go_wp2_with fail
    refine (refAdd_any c hc s hs _).mono ?_
    rintro e w4 ⟨rfl, rfl⟩
    go_wp2_with fail
    refine (put_any c hc _).mono ?_
    rintro e w5 ⟨rfl, hk5⟩
    go_wp2_with fail
    refine (refPut_any c hc _).mono ?_
    rintro e w6 ⟨rfl, hk6⟩
    go_wp2_with fail
    refine (wakes_any _ (hT2.kept (hk5.trans hk6))).mono ?_
    rintro e w7 ⟨rfl, hk7⟩
    go_wp2_with fail
    go_ret
    exact ⟨rfl, ((hk2.trans hk5).trans hk6).trans hk7⟩
  · have hd4 : decide ((s.size : Int) ≥ 4) = true := decide_eq_true (by omega)
    have hd4n : decide (s.size ≥ 4) = true := decide_eq_true (by omega)
    have h44 : 4 ≤ s.size := by omega
    obtain ⟨n, hn⟩ : ∃ n, beN ((L s).take 4) = n := ⟨_, rfl⟩
    have HN : Hid (beN ((L s).take 4) = n) := hn
    have hnl : n < 4294967296 := by
      have := beN_lt (L s) 4 (by rw [L_size]; exact h44)
      omega
    have hput : bs (putL n) = s.extract 0 4 := eq_of_L (by rw [L_bs, L_extract, ← hn, put_beN _ (by rw [L_size]; exact h44)]; rfl)
    clear hn
    go_enter Tryd.func3, Tryd.ntmps3
    go_wp2_with fail
    refine (get_core s h44 n HN _).mono ?_
    rintro e w1 ⟨rfl, rfl⟩
    have HP : Hid (∀ w : World, Calls Tryd.prog 9 #[.int .u32 (n : Int)] w fun e w' => e = .returned (.string (s.extract 0 4)) ∧ Kept w w') := fun w => hput ▸ refPut_any n hnl w
    clear hput
    go_wp2_with fail
    refine region_kept w1 (Kept.refl w1) (by kernel_rfl) (by kernel_rfl) ?_
    repeat (go_big_quiet_step (first | (go_at_call 9; exact Calls.keptw (HP.out _))))
    refine wpQuiet_nil ?_
    rintro _ ⟨⟨w2, hk2⟩, rfl⟩
    have hT2 := hT.kept hk2
    go_wp2_with fail
    refine (of_any s hs _ hT2).mono ?_
    rintro e w3 ⟨rfl, rfl⟩
    go_wp2_with fail
    refine (refOf_any s hs _).mono ?_
    rintro e w4 ⟨rfl, rfl⟩
    go_wp2_with fail
    refine (add_any c hc s hs _ hT2).mono ?_
    rintro e w4 ⟨rfl, rfl⟩
    go_wp2_with fail
    refine (refAdd_any c hc s hs _).mono ?_
    rintro e w4 ⟨rfl, rfl⟩
    go_wp2_with fail
    refine (put_any c hc _).mono ?_
    rintro e w5 ⟨rfl, hk5⟩
    go_wp2_with fail
    refine (refPut_any c hc _).mono ?_
    rintro e w6 ⟨rfl, hk6⟩
    go_wp2_with fail
    refine (wakes_any _ (hT2.kept (hk5.trans hk6))).mono ?_
    rintro e w7 ⟨rfl, hk7⟩
    go_wp2_with fail
    go_ret
    exact ⟨rfl, ((hk2.trans hk5).trans hk6).trans hk7⟩

theorem tells_walk (s : ByteArray) (c : Nat) (hc : c < 4294967296) (w : World) (hT : Tab w) :
    Calls Tryd.prog 3 #[.string s, .int .u32 (c : Int)] w fun e w' => e = .returned (.bool true) ∧ w.keptBut w' (fun _ => False) := by
  by_cases h2 : 2000 < s.size
  · have hd : decide ((s.size : Int) > 2000) = true := decide_eq_true (by omega)
    go_enter Tryd.func3, Tryd.ntmps3
    go_wp2_with fail
    refine (wakes_any _ hT).mono ?_
    rintro e w1 ⟨rfl, g⟩
    go_wp2_with fail
    go_ret
    exact ⟨rfl, g⟩
  · exact tells_rest s c hc h2 w hT

end Go.Proofs.YtoiabnehdncgjaaDoor
