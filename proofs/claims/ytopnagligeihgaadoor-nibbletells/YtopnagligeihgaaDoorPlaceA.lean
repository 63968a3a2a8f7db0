/-
  NibblePlaces' walk: whatever two texts, the call returns true, where the table of upper halves lies as its initialiser lays it.
-/
import Derived.Test.YtopnagligeihgaaDoorWakes
namespace Go.Proofs.YtopnagligeihgaaDoor
open Go.RowKit

theorem of_at (s n : ByteArray) (hn : n = bs (ofL (L s))) (k : Nat) (hk : k < s.size) (h0 : 2 * k < n.size) (h1 : 2 * k + 1 < n.size) :
    n[2 * k] = hi s[k] ∧ n[2 * k + 1] = lo s[k] := by
  have := ofL_get (L s) k s[k] (L_get s k hk)
  have e : L n = ofL (L s) := by rw [hn, L_bs]
  rw [← e, L_get n _ h0, L_get n _ h1] at this
  exact ⟨Option.some.inj this.1, Option.some.inj this.2⟩
theorem of_size (s : ByteArray) : (bs (ofL (L s))).size = 2 * s.size := by rw [bs_size, ofL_length, L_size]

set_option maxHeartbeats 1000000 in
theorem places_long (a b : ByteArray) (h : 500 < a.size ∨ 500 < b.size) (w : World) (hT : Tab w) :
    Calls Tryd.prog 6 #[.string a, .string b] w fun e w' => e = .returned (.bool true) ∧ Kept w w' := by
  by_cases ha : 500 < a.size
  · have hd : decide ((500 : Int) < (a.size : Int)) = true := decide_eq_true (by omega)
    go_enter Tryd.func6, Tryd.ntmps6
    go_wp2_with fail
    refine (wakes_any _ hT).mono ?_
    rintro e w1 ⟨rfl, g1⟩
    go_wp2_with fail
    go_ret
    exact ⟨rfl, g1⟩
  · have hd : decide ((500 : Int) < (a.size : Int)) = false := decide_eq_false (by omega)
    have hd2 : decide ((500 : Int) < (b.size : Int)) = true := decide_eq_true (by omega)
    go_enter Tryd.func6, Tryd.ntmps6
    go_wp2_with fail
    refine (wakes_any _ hT).mono ?_
    rintro e w1 ⟨rfl, g1⟩
    go_wp2_with fail
    go_ret
    exact ⟨rfl, g1⟩

set_option maxHeartbeats 2000000 in
theorem places_walk (a b : ByteArray) (ha : a.size ≤ 500) (hb : b.size ≤ 500) (w : World) (hT : Tab w) :
    Calls Tryd.prog 6 #[.string a, .string b] w fun e w' => e = .returned (.bool true) ∧ Kept w w' := by
  have hd : decide ((500 : Int) < (a.size : Int)) = false := decide_eq_false (by omega)
  have hd2 : decide ((500 : Int) < (b.size : Int)) = false := decide_eq_false (by omega)
  go_enter Tryd.func6, Tryd.ntmps6
  go_wp2_with fail
  refine (of_any a (by omega) _).mono ?_
  rintro e w1 ⟨rfl, g1⟩
  have HE : Hid (bs (ofL (L (a ++ b))) = bs (ofL (L a)) ++ bs (ofL (L b))) := eq_of_L (by rw [L_bs, L_append, L_append, L_bs, L_bs, ofL_append])
  have hnz := of_size a
  have hsum : (a ++ b).size ≤ 1000 := by rw [ByteArray.size_append]; omega
  obtain ⟨n, hn⟩ : ∃ n, bs (ofL (L a)) = n := ⟨_, rfl⟩
  have HN : Hid (n = bs (ofL (L a))) := hn.symm
  rw [hn] at hnz HE ⊢
  clear hn
  have hne : ((n.size : Int) != 2 * (a.size : Int)) = false := by rw [hnz]; simp
  have hnz1 : n.size ≤ 1000 := by omega
  have HZ : Hid (n.size = 2 * a.size) := hnz
  clear hnz
  go_wp2_with fail
  go_loopw [6] (fun i wr => ∃ k : Nat, k ≤ a.size ∧ i = .int .i64 k ∧ Kept w wr) (fun i _ => a.size - (intOf i).toNat)
  case atStart => exact ⟨0, by omega, rfl, g1⟩
  case round =>
    obtain ⟨k, hk, rfl, hkept⟩ := hrel
    by_cases hlt : k < a.size
    · have h0 : 2 * k < n.size := by have := HZ.out; omega
      have h1 : 2 * k + 1 < n.size := by have := HZ.out; omega
      obtain ⟨e0, e1⟩ := of_at a n HN.out k hlt h0 h1
      obtain ⟨m, hm⟩ : ∃ m, 2 * k = m := ⟨_, rfl⟩
      have hm2 : 2 * (k : Int) = (m : Int) := by omega
      simp only [hm] at h0 h1 e0 e1
      have hm500 : m ≤ 1000 := by omega
      have i0 : (m : Int) < (n.size : Int) := by omega
      obtain ⟨q, hq⟩ : ∃ q, m + 1 = q := ⟨_, rfl⟩
      simp only [hq] at h1 e1
      have hq2 : (m : Int) + 1 = (q : Int) := by omega
      have hq500 : q ≤ 1000 := by omega
      have i1 : (q : Int) < (n.size : Int) := by omega
      have t0 : ((n[m].toNat : Int) != (a[k].toNat : Int) / 16) = false := by rw [e0, hi_nat]; simp
      have t1 : ((n[q].toNat : Int) != bits .and .u8 (a[k].toNat : Int) 15) = false := by rw [e1, lo_form]; simp
      clear e0 e1 hm hq
      go_wp2_with fail
      go_region
      go_wp2_with fail
      all_goals exact ⟨⟨k + 1, by omega, by go_num, hkept.trans (Kept.drew _)⟩, by simp [intOf]; omega⟩
    · have hkn : k = a.size := by omega
      go_wp2_with fail
      refine (of_any (a ++ b) (by omega) _).mono ?_
      rintro e w2 ⟨rfl, g2⟩
      go_wp2_with fail
      refine (of_any b (by omega) _).mono ?_
      rintro e w3 ⟨rfl, g3⟩
      have hz3 := of_size b
      have ht : ((bs (ofL (L (a ++ b)))).toList == (n ++ bs (ofL (L b))).toList) = true := by rw [HE.out]; simp
      clear HE
      generalize bs (ofL (L b)) = nb at *
      generalize bs (ofL (L (a ++ b))) = nab at *
      go_wp2_with fail
      refine (wakes_any _ (hT.kept (hkept.trans (g2.trans g3)))).mono ?_
      rintro e w4 ⟨rfl, g4⟩
      go_wp2_with fail
      go_ret
      exact ⟨rfl, hkept.trans (g2.trans (g3.trans g4))⟩

theorem places_any (a b : ByteArray) (w : World) (hT : Tab w) :
    Calls Tryd.prog 6 #[.string a, .string b] w fun e w' => e = .returned (.bool true) ∧ w.keptBut w' (fun _ => False) := by
  by_cases h : 500 < a.size ∨ 500 < b.size
  · exact places_long a b h w hT
  · exact places_walk a b (by omega) (by omega) w hT

end Go.Proofs.YtopnagligeihgaaDoor
