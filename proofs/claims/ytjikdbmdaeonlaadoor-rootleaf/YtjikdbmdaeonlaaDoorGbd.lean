/-
  RootLeaf's walk: whatever key and value, the call returns true, where the tables lie as their initialisers lay them.
-/
import Derived.Test.YtjikdbmdaeonlaaDoorGba
namespace Go.Proofs.YtjikdbmdaeonlaaDoor
open Go.RowKit
set_option maxRecDepth 20000

theorem one_trie (k v : Bt) : buildN [(k, v)] = [leafN (ofL k) v] := rfl
theorem one_may {k v : Bt} (h1 : 1 ≤ k.length) (h2 : k.length ≤ 8) (h3 : v.length ≤ 16) : mayB [(k, v)] = true := by
  simp [mayB, okP, h1, h2, h3]
theorem one_item (p v : Bt) (hs : List Bt) : itW (leafN p v) hs = ⟨1, p, true, v, 0, []⟩ := by
  unfold itW kidH leafN
  rw [mask_no16, nz_no16]; rfl
/-- The text of a Leaf. -/
def leafT (k v : Bt) : Bt := 1 :: UInt8.ofNat (2 * k.length) :: (k ++ UInt8.ofNat v.length :: v)
theorem one_root {k v : Bt} (h1 : 1 ≤ k.length) (h2 : k.length ≤ 8) (h3 : v.length ≤ 16) : rootL (buildN [(k, v)]) = Dg.ofL (leafT k v) ∧ okT (buildN [(k, v)]) = true := by
  have hok := ok_build (one_may h1 h2 h3)
  refine ⟨?_, hok⟩
  have R := ok_rt hok
  unfold rootL
  rw [hok, if_pos rfl, if_neg (by rw [one_trie]; simp)]
  have hm : (buildN [(k, v)])[0]? = some (leafN (ofL k) v) := rfl
  rw [R.hash hm, one_item]
  congr 1
  show No.encL ⟨1, ofL k, true, v, 0, []⟩ = _
  unfold No.encL No.ptOf No.Pt.text leafT packL
  simp [No.pad16, ofL_length, join_of]

set_option maxHeartbeats 8000000 in
theorem leaf_any (s v : ByteArray) (w : World) (hT : No.TT w) :
    Calls Tryd.prog 7 #[.string s, .string v] w fun e w' => e = .returned (.bool true) ∧ New w w' := by
  have hwk := fun W (N : New w W) => wakes_any W (hT.after N)
  have HT : Hid (No.TT w) := hT
  clear hT
  by_cases hok : 1 ≤ s.size ∧ s.size ≤ 8 ∧ v.size ≤ 16
  · obtain ⟨h1, h2, h3⟩ := hok
    have d1 : decide ((s.size : Int) < 1) = false := decide_eq_false (by omega)
    have d2 : decide ((8 : Int) < (s.size : Int)) = false := decide_eq_false (by omega)
    have d3 : decide ((16 : Int) < (v.size : Int)) = false := decide_eq_false (by omega)
    have HM := one_may (k := L s) (v := L v) (by rw [L_size]; exact h1) (by rw [L_size]; exact h2) (by rw [L_size]; exact h3)
    have HR := one_root (k := L s) (v := L v) (by rw [L_size]; exact h1) (by rw [L_size]; exact h2) (by rw [L_size]; exact h3)
    have htok := build_ok HM (by simp)
    go_enter Tryd.func7, Tryd.ntmps7
    go_wp2_with fail
    have P1 := rows_ls (l := [(L s, L v)]) (Row.new w #[.string s, .string v] 58) (by simp [prC, bs_L]) (by simp)
    have N1 : New w (w.alloc (.cells #[.string s, .string v] 58)) := (New.refl w).alloc _
    have hb := r_build P1 (by simp) (by simp only [List.mem_singleton, forall_eq]; rw [L_size, L_size]; omega)
    rw [HM] at hb
    unfold bX at hb
    rw [HM, if_pos rfl] at hb
    clear P1
    refine Calls.mono hb ?_
    rintro _ W1 ⟨a, n, c, b, m, d, rfl, Q1, _, N2⟩
    have N12 : New w W1 := N1.trans N2
    have hf := field_T a n c b m d true
    have hr := fun W (M : New W1 W) => root_any (Q1.after M) htok (HT.out.after (N12.trans M))
    rw [HR.1, HR.2] at hr
    have hlen : (leafT (L s) (L v)).length ≤ 30 := by
      unfold leafT
      simp only [List.length_cons, List.length_append, L_size]; omega
    have hdg := fun W (M : New W1 W) => No.dg_of (leafT (L s) (L v)) (by omega) W (HT.out.after (N12.trans M)).2
    have HLT : Hid (bs (leafT (L s) (L v)) = bs [1] ++ bs [UInt8.ofNat (2 * s.size)] ++ s ++ bs [UInt8.ofNat v.size] ++ v) := by
      show _ = _
      refine eq_of_L ?_
      rw [L_append, L_append, L_append, L_append, L_bs, L_bs, L_bs, L_bs]
      unfold leafT
      rw [L_size, L_size]; simp
    have hk1 : Hid (2 * (s.size : Int) = ((UInt8.ofNat (2 * s.size)).toNat : Int)) := by show _ = _; rw [UInt8.toNat_ofNat']; omega
    have hk2 : Hid ((v.size : Int) = ((UInt8.ofNat v.size).toNat : Int)) := by show _ = _; rw [UInt8.toNat_ofNat']; omega
    rw [HLT.out, show bs [1] = (⟨#[1]⟩ : ByteArray) from rfl] at hdg
    generalize UInt8.ofNat (2 * s.size) = b1 at *
    generalize UInt8.ofNat v.size = b2 at *
    generalize bs (Dg.ofL (leafT (L s) (L v))) = H at *
    clear hb N1 N2 Q1 HM HR htok hlen
    go_wp2_with fail
    refine Calls.mono (hr _ (New.refl _)) ?_
    rintro _ W2 ⟨rfl, N3⟩
    have N3 : New W1 W2 := N3
    have M2 := N12.trans N3
    clear hr
    have hz1 : (bs [1]).size = 1 := rfl
    have hz2 : (bs [b1]).size = 1 := rfl
    have hz3 : (bs [b2]).size = 1 := rfl
    go_wp2_with (first
      | (refine No.wpList_b1 (by rfl) 36 (by rfl) _ (by rfl) _ (by rfl) ?_; intro B1 RB1 NB1; have hcv1 := No.conv_one B1 _ b1 (by rw [← hk1.out]; exact RB1.cell 0); have M3 := M2.trans NB1)
      | (refine No.wpList_b1 (by rfl) 44 (by rfl) _ (by rfl) _ (by rfl) ?_; intro B2 RB2 NB2; have hcv2 := No.conv_one B2 _ b2 (by rw [← hk2.out]; exact RB2.cell 0); have M4 := M3.trans NB2))
    have hbH : (H.toList == H.toList) = true := beq_self_eq_true _
    refine Calls.mono (hdg _ (N3.trans (NB1.trans NB2))) ?_
    rintro _ W5 ⟨rfl, N5⟩
    have N5 : New B2 W5 := N5
    have M5 := M4.trans N5
    clear hdg RB1 NB1 hcv1 M3 RB2 NB2 hcv2 M4 N5
    go_wp2_with fail
    refine Calls.mono (hwk _ M5) ?_
    rintro _ W6 ⟨rfl, N6⟩
    have N6 : New W5 W6 := N6
    go_wp2_with fail
    go_ret
    exact ⟨rfl, M5.trans N6⟩
  · have hg : (decide ((s.size : Int) < 1) = true) ∨ (decide ((s.size : Int) < 1) = false ∧ decide ((8 : Int) < (s.size : Int)) = true) ∨ (decide ((s.size : Int) < 1) = false ∧ decide ((8 : Int) < (s.size : Int)) = false ∧ decide ((16 : Int) < (v.size : Int)) = true) := by
      by_cases h1 : (s.size : Int) < 1
      · exact .inl (decide_eq_true h1)
      · by_cases h2 : (8 : Int) < (s.size : Int)
        · exact .inr (.inl ⟨decide_eq_false h1, decide_eq_true h2⟩)
        · exact .inr (.inr ⟨decide_eq_false h1, decide_eq_false h2, decide_eq_true (by omega)⟩)
    clear hok
    rcases hg with d1 | ⟨d1, d2⟩ | ⟨d1, d2, d3⟩
    all_goals
      go_enter Tryd.func7, Tryd.ntmps7
      go_wp2_with fail
      refine Calls.mono (hwk _ (New.refl _)) ?_
      rintro _ W6 ⟨rfl, N6⟩
      have N6 : New w W6 := N6
      go_wp2_with fail
      go_ret
      exact ⟨rfl, N6⟩

end Go.Proofs.YtjikdbmdaeonlaaDoor
