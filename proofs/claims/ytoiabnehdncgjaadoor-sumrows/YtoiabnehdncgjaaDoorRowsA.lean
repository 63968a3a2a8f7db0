/-
  What SumRows returns: true, for every two texts, where the table of steps lies as its initialiser lays it.
-/
import Derived.Test.YtoiabnehdncgjaaDoorWakes
namespace Go.Proofs.YtoiabnehdncgjaaDoor
open Go.RowKit

set_option maxHeartbeats 2000000 in
theorem rows_walk (s t : ByteArray) (w : World) (hT : Tab w) :
    Calls Tryd.prog 4 #[.string s, .string t] w fun e w' => e = .returned (.bool true) ∧ w.keptBut w' (fun _ => False) := by
  by_cases h1 : 1000 < s.size
  · have hd : decide ((s.size : Int) > 1000) = true := decide_eq_true (by omega)
    go_enter Tryd.func4, Tryd.ntmps4
    go_wp2_with fail
    refine (wakes_any _ hT).mono ?_
    rintro e w1 ⟨rfl, g⟩
    go_wp2_with fail
    go_ret
    exact ⟨rfl, g⟩
  · by_cases h2 : 1000 < t.size
    · have hd : decide ((s.size : Int) > 1000) = false := decide_eq_false (by omega)
      have hd2 : decide ((t.size : Int) > 1000) = true := decide_eq_true (by omega)
      go_enter Tryd.func4, Tryd.ntmps4
      go_wp2_with fail
      refine (wakes_any _ hT).mono ?_
      rintro e w1 ⟨rfl, g⟩
      go_wp2_with fail
      go_ret
      exact ⟨rfl, g⟩
    · have hd : decide ((s.size : Int) > 1000) = false := decide_eq_false (by omega)
      have hd2 : decide ((t.size : Int) > 1000) = false := decide_eq_false (by omega)
      have hs : s.size ≤ 140737488351232 := by omega
      have ht : t.size ≤ 140737488351232 := by omega
      obtain ⟨c, hc⟩ : ∃ c, sumL 0 (L s) = c := ⟨_, rfl⟩
      have hcl : c < 4294967296 := by rw [← hc]; exact sumL_lt (by decide) _
      have HC : Hid (sumL 0 (L s) = c) := hc
      obtain ⟨d, hd3⟩ : ∃ d, sumL c (L t) = d := ⟨_, rfl⟩
      have HD : Hid (sumL c (L t) = d) := hd3
      have HE : Hid (sumL 0 (L (s ++ t)) = d) := by show _ = _; rw [L_append, ← sumL_on, hc, hd3]
      have hst : (s ++ t).size ≤ 140737488351232 := by rw [ByteArray.size_append]; omega
      have hp : 4 ≤ (bs (putL c) ++ t).size := by rw [ByteArray.size_append, bs_size, putL_length]; omega
      have hsz4 : (bs (putL c)).size = 4 := rfl
      have HG : Hid (beN ((L (bs (putL c) ++ t)).take 4) = c) := by show _ = _; rw [L_append, L_bs, beN_put c hcl]
      have HN : Hid (sumL c (L ⟨#[]⟩) = c) := sumL_nil c
      clear hc hd3
      go_enter Tryd.func4, Tryd.ntmps4
      go_wp2_with fail
      refine (of_any s hs _ hT).mono ?_
      rintro e w1 ⟨rfl, rfl⟩
      rw [HC.out]
      go_wp2_with fail
      refine (put_any c hcl _).mono ?_
      rintro e w2 ⟨rfl, g2⟩
      have hT2 := hT.kept g2
      go_wp2_with fail
      refine (get_core _ hp c HG _).mono ?_
      rintro e w1 ⟨rfl, rfl⟩
      go_wp2_with fail
      refine (of_any s hs _ hT2).mono ?_
      rintro e w1 ⟨rfl, rfl⟩
      rw [HC.out]
      go_wp2_with fail
      refine (add_core c hcl t ht _ HD _ hT2).mono ?_
      rintro e w1 ⟨rfl, rfl⟩
      go_wp2_with fail
      refine (of_any (s ++ t) hst _ hT2).mono ?_
      rintro e w1 ⟨rfl, rfl⟩
      rw [HE.out]
      go_wp2_with fail
      refine (of_any s hs _ hT2).mono ?_
      rintro e w1 ⟨rfl, rfl⟩
      rw [HC.out]
      go_wp2_with fail
      refine (add_core c hcl _ (by decide) _ HN _ hT2).mono ?_
      rintro e w1 ⟨rfl, rfl⟩
      go_wp2_with fail
      refine (of_any s hs _ hT2).mono ?_
      rintro e w1 ⟨rfl, rfl⟩
      rw [HC.out]
      go_wp2_with fail
      refine (of_any s hs _ hT2).mono ?_
      rintro e w1 ⟨rfl, rfl⟩
      rw [HC.out]
      go_wp2_with fail
      refine (wakes_any _ hT2).mono ?_
      rintro e w3 ⟨rfl, g3⟩
      go_wp2_with fail
      go_ret
      exact ⟨rfl, g2.trans g3⟩

end Go.Proofs.YtoiabnehdncgjaaDoor
