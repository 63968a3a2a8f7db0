/-
  NibbleBack's walk: whatever three texts, the call returns true, where the table of upper halves lies as its initialiser lays it.
-/
import Derived.Test.YtopnagligeihgaaDoorBackA
namespace Go.Proofs.YtopnagligeihgaaDoor
open Go.RowKit

set_option maxHeartbeats 1000000 in
theorem back_long (a b c : ByteArray) (h : 500 < a.size ∨ 500 < b.size ∨ 500 < c.size) (w : World) (hT : Tab w) :
    Calls Tryd.prog 4 #[.string a, .string b, .string c] w fun e w' => e = .returned (.bool true) ∧ Kept w w' := by
  have hx : decide ((500 : Int) < (a.size : Int)) = true ∨ (decide ((500 : Int) < (a.size : Int)) = false ∧ decide ((500 : Int) < (b.size : Int)) = true) ∨ (decide ((500 : Int) < (a.size : Int)) = false ∧ decide ((500 : Int) < (b.size : Int)) = false ∧ decide ((500 : Int) < (c.size : Int)) = true) := by
    simp only [decide_eq_true_eq, decide_eq_false_iff_not]; omega
  clear h
  rcases hx with h1 | ⟨h1, h2⟩ | ⟨h1, h2, h3⟩
  all_goals
    go_enter Tryd.func4, Tryd.ntmps4
    go_wp2_with fail
    refine (wakes_any _ hT).mono ?_
    rintro e w1 ⟨rfl, g1⟩
    go_wp2_with fail
    go_ret
    exact ⟨rfl, g1⟩

/-- Key of a text's halves. -/
theorem key_of (s : ByteArray) (hs : s.size ≤ 1000) (w : World) (hT : Tab w) :
    Calls Tryd.prog 9 #[.string (bs (ofL (L s)))] w fun e w' => e = .returned (.tuple #[.string s, .bool true]) ∧ Kept w w' := by
  have := key_yes (bs (ofL (L s))) (by rw [of_size]; omega) (by rw [L_bs]; exact keyB_of _) w hT
  rwa [L_bs, join_of, bs_L] at this
/-- Unpack of a Pack, whatever stands behind. -/
theorem unpack_of (n m : ByteArray) (hm : m.size ≤ 3000) (h : goodB (L n) = true) (w : World) :
    Calls Tryd.prog 11 #[.string (bs (packL (L n)) ++ m)] w fun e w' => e = .returned (.tuple #[.string n, .int .i64 ((bs (packL (L n))).size : Nat), .bool true]) ∧ Kept w w' := by
  obtain ⟨h1, h2, h3⟩ := unpack_pack (L n) (L m) h
  have hl : L (bs (packL (L n)) ++ m) = packL (L n) ++ L m := by rw [L_append, L_bs]
  have hp := (goodB_parts h).1
  have := unpack_yes (bs (packL (L n)) ++ m) (by rw [← L_size, hl, List.length_append, pack_length, L_size m]; omega) (by rw [hl]; exact h1) w
  rwa [hl, h2, h3, bs_L] at this
theorem size_of_pack (n : ByteArray) : ((bs (packL (L n))).size : Int) = 1 + ((n.size : Int) + 1) / 2 := by
  rw [bs_size, pack_length, L_size]; omega

/-- What Unpack gives, and Pack of that. -/
def Seen (m : ByteArray) : Prop :=
  (∀ w, Calls Tryd.prog 11 #[.string m] w fun e w' => e = .returned (.tuple #[.string (bs []), .int .i64 0, .bool false]) ∧ Kept w w') ∨
  ∃ (n q : ByteArray) (u : Nat), u ≤ m.size ∧ decide ((1 : Int) ≤ (u : Int)) = true ∧ decide ((u : Int) ≤ (m.size : Int)) = true ∧ (q.toList == (m.extract 0 u).toList) = true ∧
    (∀ w, Calls Tryd.prog 11 #[.string m] w fun e w' => e = .returned (.tuple #[.string n, .int .i64 (u : Nat), .bool true]) ∧ Kept w w') ∧
    (∀ w, Tab w → Calls Tryd.prog 10 #[.string n] w fun e w' => e = .returned (.tuple #[.string q, .bool true]) ∧ Kept w w')
theorem seen (m : ByteArray) (hm : m.size ≤ 3000) : Seen m := by
  cases h : unpackB (L m)
  · exact .inl fun w => unpack_no m (by omega) h w
  · obtain ⟨h1, h2, h3, h4⟩ := pack_unpack (L m) h
    rw [L_size] at h4
    refine .inr ⟨bs (unN (L m)), bs (packL (unN (L m))), unUsed (L m), h4, decide_eq_true (by omega), decide_eq_true (by omega), ?_, fun w => unpack_yes m (by omega) h w, fun w hT => ?_⟩
    · rw [toList_L, toList_L, L_extract, L_bs, h2]; simp
    · have := pack_yes (bs (unN (L m))) (by rw [bs_size]; have := (goodB_parts h1).1; omega) (by rw [L_bs]; exact h1) w hT
      rwa [L_bs] at this

set_option maxHeartbeats 4000000 in
theorem back_walk (a n m : ByteArray) (ha : a.size ≤ 500) (hn : n.size ≤ 500) (hm : m.size ≤ 500) (w : World) (hT : Tab w) :
    Calls Tryd.prog 4 #[.string a, .string n, .string m] w fun e w' => e = .returned (.bool true) ∧ Kept w w' := by
  have hd : decide ((500 : Int) < (a.size : Int)) = false := decide_eq_false (by omega)
  have hd2 : decide ((500 : Int) < (n.size : Int)) = false := decide_eq_false (by omega)
  have hd3 : decide ((500 : Int) < (m.size : Int)) = false := decide_eq_false (by omega)
  have hne : (((bs (ofL (L a))).size : Int) != 2 * (a.size : Int)) = false := by rw [of_size]; simp
  have HK : Hid (∀ w, Tab w → _) := fun w hT => key_of a (by omega) w hT
  have HS : Hid (Seen m) := seen m (by omega)
  have HP : Hid (∀ w, Tab w → _) := fun w hT => pack_any n (by omega) w hT
  have HU : Hid (goodB (L n) = true → ∀ w, _) := fun h w => unpack_of n m (by omega) h w
  have hz1 : ((bs (packL (L n))).size : Int) = 1 + ((n.size : Int) + 1) / 2 := size_of_pack n
  have hz2 : (bs (packL (L n))).size ≤ 300 := by omega
  have HG : Hid (∀ w, _) := fun w => good_any n (by omega) w
  generalize goodB (L n) = x at *
  generalize bs (packL (L n)) = p at *
  have hz3 : ((p.size : Int) != 1 + ((n.size : Int) + 1) / 2) = false := by rw [hz1]; simp
  have HZ : Hid (_ = _) := hz1
  clear hz1
  have HS := HS.out
  unfold Seen at HS
  have he : (bs []).toList.isEmpty = true := by rw [toList_L]; rfl
  cases x
  · rcases HS with hA | ⟨n', q, u, hu, hu1, hu2, hq, hB, hC⟩
    · have HA : Hid (∀ w, _) := hA
      clear hA
      go_enter Tryd.func4, Tryd.ntmps4
      go_wp2_with fail
      refine (of_any a (by omega) _).mono ?_
      rintro e w1 ⟨rfl, g1⟩
      go_wp2_with fail
      refine (HK.out _ (hT.kept g1)).mono ?_
      rintro e w2 ⟨rfl, g2⟩
      go_wp2_with fail
      have hT2 := (hT.kept g1).kept g2
      refine (HP.out _ hT2).mono ?_
      rintro e w3 ⟨rfl, g3⟩
      go_wp2_with fail
      refine (HG.out _).mono ?_
      rintro e w3' ⟨rfl, rfl⟩
      go_wp2_with fail
      have hT3 := hT2.kept g3
      have k3 := g1.trans (g2.trans g3)
      clear g1 g2 g3 hT2 HK HP HG
      refine (HA.out _).mono ?_
      rintro e w4 ⟨rfl, g4⟩
      go_wp2_with fail
      refine (wakes_any _ (hT3.kept g4)).mono ?_
      rintro e w5 ⟨rfl, g5⟩
      go_wp2_with fail
      go_ret
      exact ⟨rfl, k3.trans (g4.trans g5)⟩
    · have HB : Hid (∀ w, _) := hB
      have HC : Hid (∀ w, _) := hC
      clear hB hC
      go_enter Tryd.func4, Tryd.ntmps4
      go_wp2_with fail
      refine (of_any a (by omega) _).mono ?_
      rintro e w1 ⟨rfl, g1⟩
      go_wp2_with fail
      refine (HK.out _ (hT.kept g1)).mono ?_
      rintro e w2 ⟨rfl, g2⟩
      go_wp2_with fail
      have hT2 := (hT.kept g1).kept g2
      refine (HP.out _ hT2).mono ?_
      rintro e w3 ⟨rfl, g3⟩
      go_wp2_with fail
      refine (HG.out _).mono ?_
      rintro e w3' ⟨rfl, rfl⟩
      go_wp2_with fail
      have hT3 := hT2.kept g3
      have k3 := g1.trans (g2.trans g3)
      clear g1 g2 g3 hT2 HK HP HG
      refine (HB.out _).mono ?_
      rintro e w4 ⟨rfl, g4⟩
      go_wp2_with fail
      refine (HC.out _ (hT3.kept g4)).mono ?_
      rintro e w5 ⟨rfl, g5⟩
      go_wp2_with fail
      refine (wakes_any _ ((hT3.kept g4).kept g5)).mono ?_
      rintro e w6 ⟨rfl, g6⟩
      go_wp2_with fail
      go_ret
      exact ⟨rfl, k3.trans (g4.trans (g5.trans g6))⟩
  · rcases HS with hA | ⟨n', q, u, hu, hu1, hu2, hq, hB, hC⟩
    · have HA : Hid (∀ w, _) := hA
      clear hA
      go_enter Tryd.func4, Tryd.ntmps4
      go_wp2_with fail
      refine (of_any a (by omega) _).mono ?_
      rintro e w1 ⟨rfl, g1⟩
      go_wp2_with fail
      refine (HK.out _ (hT.kept g1)).mono ?_
      rintro e w2 ⟨rfl, g2⟩
      go_wp2_with fail
      have hT2 := (hT.kept g1).kept g2
      refine (HP.out _ hT2).mono ?_
      rintro e w3 ⟨rfl, g3⟩
      go_wp2_with fail
      refine (HG.out _).mono ?_
      rintro e w3' ⟨rfl, rfl⟩
      go_wp2_with fail
      have hT3 := hT2.kept g3
      have k3 := g1.trans (g2.trans g3)
      clear g1 g2 g3 hT2 HK HP HG
      refine (HU.out trivial _).mono ?_
      rintro e w3 ⟨rfl, g3⟩
      go_wp2_with fail
      have hT3 := hT3.kept g3
      have k3 := k3.trans g3
      clear g3
      refine (HA.out _).mono ?_
      rintro e w4 ⟨rfl, g4⟩
      go_wp2_with fail
      refine (wakes_any _ (hT3.kept g4)).mono ?_
      rintro e w5 ⟨rfl, g5⟩
      go_wp2_with fail
      go_ret
      exact ⟨rfl, k3.trans (g4.trans g5)⟩
    · have HB : Hid (∀ w, _) := hB
      have HC : Hid (∀ w, _) := hC
      clear hB hC
      go_enter Tryd.func4, Tryd.ntmps4
      go_wp2_with fail
      refine (of_any a (by omega) _).mono ?_
      rintro e w1 ⟨rfl, g1⟩
      go_wp2_with fail
      refine (HK.out _ (hT.kept g1)).mono ?_
      rintro e w2 ⟨rfl, g2⟩
      go_wp2_with fail
      have hT2 := (hT.kept g1).kept g2
      refine (HP.out _ hT2).mono ?_
      rintro e w3 ⟨rfl, g3⟩
      go_wp2_with fail
      refine (HG.out _).mono ?_
      rintro e w3' ⟨rfl, rfl⟩
      go_wp2_with fail
      have hT3 := hT2.kept g3
      have k3 := g1.trans (g2.trans g3)
      clear g1 g2 g3 hT2 HK HP HG
      refine (HU.out trivial _).mono ?_
      rintro e w3 ⟨rfl, g3⟩
      go_wp2_with fail
      have hT3 := hT3.kept g3
      have k3 := k3.trans g3
      clear g3
      refine (HB.out _).mono ?_
      rintro e w4 ⟨rfl, g4⟩
      go_wp2_with fail
      refine (HC.out _ (hT3.kept g4)).mono ?_
      rintro e w5 ⟨rfl, g5⟩
      go_wp2_with fail
      refine (wakes_any _ ((hT3.kept g4).kept g5)).mono ?_
      rintro e w6 ⟨rfl, g6⟩
      go_wp2_with fail
      go_ret
      exact ⟨rfl, k3.trans (g4.trans (g5.trans g6))⟩

theorem back_any (a b c : ByteArray) (w : World) (hT : Tab w) :
    Calls Tryd.prog 4 #[.string a, .string b, .string c] w fun e w' => e = .returned (.bool true) ∧ w.keptBut w' (fun _ => False) := by
  by_cases h : 500 < a.size ∨ 500 < b.size ∨ 500 < c.size
  · exact back_long a b c h w hT
  · exact back_walk a b c (by omega) (by omega) (by omega) w hT

end Go.Proofs.YtopnagligeihgaaDoor
