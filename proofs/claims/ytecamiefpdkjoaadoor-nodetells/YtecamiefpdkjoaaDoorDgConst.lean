/-
  What the document's Start and Constants tell: the same words as the program's own tables.
-/
import Derived.Test.YtecamiefpdkjoaaDoorDgPrimes
import Derived.Test.YtecamiefpdkjoaaDoorDgSched
namespace Go.Proofs.YtecamiefpdkjoaaDoor.Dg
open Go.RowKit
set_option maxRecDepth 20000

/-- A row of n words, the first ones laid. -/
def padTo (n : Nat) (l : List Nat) : List Nat := l ++ List.replicate (n - l.length) 0
theorem padTo_length (n : Nat) (l : List Nat) (h : l.length ≤ n) : (padTo n l).length = n := by
  unfold padTo; rw [List.length_append, List.length_replicate]; omega
theorem padTo_set (n : Nat) (l : List Nat) (x : Nat) (h : l.length < n) : (padTo n l).set l.length x = padTo n (l ++ [x]) := by
  unfold padTo
  rw [List.set_append_right _ _ (Nat.le_refl _), Nat.sub_self, show n - l.length = (n - 1 - l.length) + 1 by omega, List.replicate_succ, List.set_cons_zero, List.length_append, List.append_assoc]
  congr 2
  show List.replicate (n - 1 - l.length) 0 = List.replicate (n - (l.length + 1)) 0
  congr 1
  omega
theorem padTo_full (n : Nat) (l : List Nat) (h : l.length = n) : padTo n l = l := by
  unfold padTo; rw [h]; simp
theorem pushTo {w : World} {g k n : Nat} {t : TypeId} {l : List Nat} (R : Row w g (cw (padTo n l)) t) (hk : l.length = k) (h : k < n) (x : Nat) : Row (w.setCell ⟨g, k, none⟩ (.int .u32 (x : Int))) g (cw (padTo n (l ++ [x]))) t := by
  subst hk
  have h1 := R.setCell l.length (.int .u32 (x : Int))
  rw [cw_set, padTo_set _ _ _ h] at h1
  exact h1
theorem low18 : ∀ k, k < 18 → (prN k).length < 8 := fun k hk => by
  have h := prN_mono k (17 - k)
  rw [show k + (17 - k) = 17 by omega, pr17] at h
  omega
theorem low310 : ∀ k, k < 310 → (prN k).length < 64 := fun k hk => by
  have h := prN_mono k (309 - k)
  rw [show k + (309 - k) = 309 by omega, pr309] at h
  omega

set_option maxHeartbeats 2000000 in
theorem start_any (w : World) :
    Calls Tryd.prog 52 #[] w fun e w' => e = .returned (.agg (cw firstN.list)) ∧ Kept w w' := by
  obtain ⟨S, hS⟩ : ∃ S, (prN 18).map squareN = S := ⟨_, rfl⟩
  have hSl : S.length = 8 := by rw [← hS, List.length_map, pr18]
  have HST : Hid (S = firstN.list) := by rw [← hS]; exact start_all
  have HSG : Hid (∀ k x : Nat, (prN 18)[k]? = some x → S[k]? = some (squareN x)) := fun k x h => by rw [← hS, List.getElem?_map, h]; rfl
  obtain ⟨l, hl⟩ : ∃ l, prN 18 = l := ⟨_, rfl⟩
  have hll : l.length = 8 := by rw [← hl, pr18]
  have hcall := primes_any 8 18 pr18 low18 (by decide) (by decide)
  rw [hl] at hcall HSG
  clear hS hl
  go_enter Tryd.func52, Tryd.ntmps52
  go_upto_region 2 with fail
  obtain ⟨Z, hZ⟩ : ∃ Z : Array Value, Z = #[.int .u32 0, .int .u32 0, .int .u32 0, .int .u32 0, .int .u32 0, .int .u32 0, .int .u32 0, .int .u32 0] := ⟨_, rfl⟩
  rw [← hZ]
  have hZs : Z.size = 8 := by rw [hZ]; rfl
  have R0 : Row ((w.alloc (.cells Z 62)).alloc (.cells Z 62)) w.heap.size Z 62 := (Row.new w _ _).alloc _
  have R1 : Row ((w.alloc (.cells Z 62)).alloc (.cells Z 62)) (w.heap.size + 1) (cw (padTo 8 (S.take 0))) 62 := by
    have h : Z = cw (padTo 8 (S.take 0)) := by rw [hZ]; rfl
    rw [← h]
    exact Row.newAt (by simp) _ _
  have K0 : Kept w ((w.alloc (.cells Z 62)).alloc (.cells Z 62)) := ((Kept.refl w).allocR _).allocR _
  have hW0 : ((w.alloc (.cells Z 62)).alloc (.cells Z 62)).heap.size = w.heap.size + 2 := by simp
  generalize (w.alloc (.cells Z 62)).alloc (.cells Z 62) = W0 at R0 R1 K0 hW0 ⊢
  have HZ : Hid (Z.size = 8) := hZs
  clear hZ hZs
  have HC : Hid (Calls Tryd.prog 67 #[.int .i64 8] W0 fun e w' => ∃ v, e = .returned v ∧ w'.ownsRow W0.heap.size 79 1 v 8 (c64 l) ∧ Below W0.heap.size W0 w') := hcall W0
  clear hcall
  go_wp2_with fail
  refine HC.out.mono ?_
  rintro _ w1 ⟨v, rfl, hown, hbel⟩
  clear HC
  rcases id hown.2 with ⟨_, h0⟩ | ⟨g, cap, cur, rfl, _⟩
  · exact absurd h0 (by decide)
  have k1 : Kept W0 w1 := Kept.below hbel
  have hcells : ∀ j x : Nat, l[j]? = some x → w1.cell? ⟨g, j, none⟩ = some (.int .u64 (x : Int)) := fun j x h => by
    have hc := hown.cells (g := g) rfl j _ (c64_get h)
    rw [addr_zero] at hc
    exact hc
  have hg : w.heap.size + 2 ≤ g := by have h1 := (hown.lt g rfl).1; omega
  replace R0 := R0.kept k1
  replace R1 := R1.kept k1
  replace K0 := K0.trans k1
  have HCE : Hid (∀ j x : Nat, l[j]? = some x → w1.cell? ⟨g, j, none⟩ = some (.int .u64 (x : Int))) := hcells
  clear hcells hown hbel k1 hW0
  go_wp2_with fail
  go_loopw [3] (fun i wr => ∃ k : Nat, k ≤ 8 ∧ i = .int .i64 (k : Int) ∧ Row wr w.heap.size Z 62 ∧ Row wr (w.heap.size + 1) (cw (padTo 8 (S.take k))) 62 ∧ (∀ j x : Nat, l[j]? = some x → wr.cell? ⟨g, j, none⟩ = some (.int .u64 (x : Int))) ∧ Kept w wr) (fun i _ => (8 - intOf i).toNat)
  case atStart => exact ⟨0, by omega, rfl, R0, R1, HCE.out, K0⟩
  case round =>
    clear R0 R1 K0 HCE
    obtain ⟨k, hk, rfl, R0, R1, hce, K0⟩ := hrel
    have HCE : Hid (∀ j x : Nat, l[j]? = some x → wr.cell? ⟨g, j, none⟩ = some (.int .u64 (x : Int))) := hce
    by_cases hlt : k < 8
    · obtain ⟨x, hx⟩ : ∃ x, l[k]? = some x := ⟨_, List.getElem?_eq_getElem (by omega)⟩
      have hc := hce k x hx
      have hSx := HSG.out k x hx
      have HT : Hid (S.take (k + 1) = S.take k ++ [squareN x]) := by show _ = _; rw [List.take_add_one, hSx]; rfl
      have hkl : (S.take k).length = k := by rw [List.length_take]; omega
      have hpl := padTo_length 8 (S.take k) (by omega)
      obtain ⟨o, ho⟩ : ∃ o, wr.cell? ⟨w.heap.size + 1, k, none⟩ = some o := ⟨_, (R1.cell k).trans (cw_get _ _ (by omega))⟩
      have hf : wr.frozen? ⟨w.heap.size + 1, k, none⟩ = false := R1.frozen k
      have HKL : Hid ((S.take k).length = k) := hkl
      have hsq := square_any x
      generalize squareN x = y at HT hsq
      clear hx hSx hpl hkl hce HSG
      go_wp2_with fail
      refine (hsq _).mono ?_
      rintro _ _ ⟨rfl, rfl⟩
      go_wp2_with fail
      refine ⟨⟨k + 1, by omega, by simp, R0.setCellOther (by simp) _, ?_, fun j x h => ?_, K0.setCell (by simp) _⟩, by simp [intOf]; omega⟩
      · rw [HT.out]
        exact pushTo R1 HKL.out (by omega) _
      · rw [World.cell?_setCell_other _ _ _ _ (by simp <;> omega)]
        exact HCE.out j x h
    · obtain rfl : k = 8 := by omega
      rw [show S.take 8 = S by rw [← hSl, List.take_length], padTo_full 8 S hSl] at R1
      clear hce HCE HSG
      go_upto_region 7 with fail
      go_wp2_with (first | refine wpList_load_row (by rfl) 62 _ (by rfl) (w.heap.size + 1) (by rfl) 62 (cw S) (0, 0) _ R1 Tryd.underlying62 rfl (by rw [cw_size, hSl]; exact i23) ?_ | refine wpList_store_row (by rfl) 62 _ _ (by rfl) w.heap.size (cw S) (by rfl) (by rfl) 62 Z R0 (by rw [cw_size, hSl]; exact i23) (by rw [cw_size, hSl]; exact HZ.out) (cw_one _) ?_)
      exact bodyPost_ret (results_cell_row rfl _ _ w.heap.size 62 (cw S) (0, 0) _ rfl (R0.set _) Tryd.underlying62 rfl (by rw [cw_size, hSl]; exact i23)) rfl ⟨by rw [HST.out], K0.setRow (Nat.le_refl _) _⟩

set_option maxHeartbeats 2000000 in
theorem constants_any (w : World) :
    Calls Tryd.prog 53 #[] w fun e w' => e = .returned (.agg (cw roundsN)) ∧ Kept w w' := by
  obtain ⟨S, hS⟩ : ∃ S, (prN 310).map cubeN = S := ⟨_, rfl⟩
  have hSl : S.length = 64 := by rw [← hS, List.length_map, pr310]
  have HST : Hid (S = roundsN) := by rw [← hS]; exact constants_all
  have HSG : Hid (∀ k x : Nat, (prN 310)[k]? = some x → S[k]? = some (cubeN x)) := fun k x h => by rw [← hS, List.getElem?_map, h]; rfl
  obtain ⟨l, hl⟩ : ∃ l, prN 310 = l := ⟨_, rfl⟩
  have hll : l.length = 64 := by rw [← hl, pr310]
  have hcall := primes_any 64 310 pr310 low310 (by decide) (by decide)
  rw [hl] at hcall HSG
  clear hS hl
  go_enter Tryd.func53, Tryd.ntmps53
  go_upto_region 2 with fail
  obtain ⟨Z, hZ⟩ : ∃ Z : Array Value, Z = #[.int .u32 0, .int .u32 0, .int .u32 0, .int .u32 0, .int .u32 0, .int .u32 0, .int .u32 0, .int .u32 0, .int .u32 0, .int .u32 0, .int .u32 0, .int .u32 0, .int .u32 0, .int .u32 0, .int .u32 0, .int .u32 0, .int .u32 0, .int .u32 0, .int .u32 0, .int .u32 0, .int .u32 0, .int .u32 0, .int .u32 0, .int .u32 0, .int .u32 0, .int .u32 0, .int .u32 0, .int .u32 0, .int .u32 0, .int .u32 0, .int .u32 0, .int .u32 0, .int .u32 0, .int .u32 0, .int .u32 0, .int .u32 0, .int .u32 0, .int .u32 0, .int .u32 0, .int .u32 0, .int .u32 0, .int .u32 0, .int .u32 0, .int .u32 0, .int .u32 0, .int .u32 0, .int .u32 0, .int .u32 0, .int .u32 0, .int .u32 0, .int .u32 0, .int .u32 0, .int .u32 0, .int .u32 0, .int .u32 0, .int .u32 0, .int .u32 0, .int .u32 0, .int .u32 0, .int .u32 0, .int .u32 0, .int .u32 0, .int .u32 0, .int .u32 0] := ⟨_, rfl⟩
  rw [← hZ]
  have hZs : Z.size = 64 := by rw [hZ]; rfl
  have R0 : Row ((w.alloc (.cells Z 75)).alloc (.cells Z 75)) w.heap.size Z 75 := (Row.new w _ _).alloc _
  have R1 : Row ((w.alloc (.cells Z 75)).alloc (.cells Z 75)) (w.heap.size + 1) (cw (padTo 64 (S.take 0))) 75 := by
    have h : Z = cw (padTo 64 (S.take 0)) := by rw [hZ]; rfl
    rw [← h]
    exact Row.newAt (by simp) _ _
  have K0 : Kept w ((w.alloc (.cells Z 75)).alloc (.cells Z 75)) := ((Kept.refl w).allocR _).allocR _
  have hW0 : ((w.alloc (.cells Z 75)).alloc (.cells Z 75)).heap.size = w.heap.size + 2 := by simp
  generalize (w.alloc (.cells Z 75)).alloc (.cells Z 75) = W0 at R0 R1 K0 hW0 ⊢
  have HZ : Hid (Z.size = 64) := hZs
  clear hZ hZs
  have HC : Hid (Calls Tryd.prog 67 #[.int .i64 64] W0 fun e w' => ∃ v, e = .returned v ∧ w'.ownsRow W0.heap.size 79 1 v 64 (c64 l) ∧ Below W0.heap.size W0 w') := hcall W0
  clear hcall
  go_wp2_with fail
  refine HC.out.mono ?_
  rintro _ w1 ⟨v, rfl, hown, hbel⟩
  clear HC
  rcases id hown.2 with ⟨_, h0⟩ | ⟨g, cap, cur, rfl, _⟩
  · exact absurd h0 (by decide)
  have k1 : Kept W0 w1 := Kept.below hbel
  have hcells : ∀ j x : Nat, l[j]? = some x → w1.cell? ⟨g, j, none⟩ = some (.int .u64 (x : Int)) := fun j x h => by
    have hc := hown.cells (g := g) rfl j _ (c64_get h)
    rw [addr_zero] at hc
    exact hc
  have hg : w.heap.size + 2 ≤ g := by have h1 := (hown.lt g rfl).1; omega
  replace R0 := R0.kept k1
  replace R1 := R1.kept k1
  replace K0 := K0.trans k1
  have HCE : Hid (∀ j x : Nat, l[j]? = some x → w1.cell? ⟨g, j, none⟩ = some (.int .u64 (x : Int))) := hcells
  clear hcells hown hbel k1 hW0
  go_wp2_with fail
  go_loopw [3] (fun i wr => ∃ k : Nat, k ≤ 64 ∧ i = .int .i64 (k : Int) ∧ Row wr w.heap.size Z 75 ∧ Row wr (w.heap.size + 1) (cw (padTo 64 (S.take k))) 75 ∧ (∀ j x : Nat, l[j]? = some x → wr.cell? ⟨g, j, none⟩ = some (.int .u64 (x : Int))) ∧ Kept w wr) (fun i _ => (64 - intOf i).toNat)
  case atStart => exact ⟨0, by omega, rfl, R0, R1, HCE.out, K0⟩
  case round =>
    clear R0 R1 K0 HCE
    obtain ⟨k, hk, rfl, R0, R1, hce, K0⟩ := hrel
    have HCE : Hid (∀ j x : Nat, l[j]? = some x → wr.cell? ⟨g, j, none⟩ = some (.int .u64 (x : Int))) := hce
    by_cases hlt : k < 64
    · obtain ⟨x, hx⟩ : ∃ x, l[k]? = some x := ⟨_, List.getElem?_eq_getElem (by omega)⟩
      have hc := hce k x hx
      have hSx := HSG.out k x hx
      have HT : Hid (S.take (k + 1) = S.take k ++ [cubeN x]) := by show _ = _; rw [List.take_add_one, hSx]; rfl
      have hkl : (S.take k).length = k := by rw [List.length_take]; omega
      have hpl := padTo_length 64 (S.take k) (by omega)
      obtain ⟨o, ho⟩ : ∃ o, wr.cell? ⟨w.heap.size + 1, k, none⟩ = some o := ⟨_, (R1.cell k).trans (cw_get _ _ (by omega))⟩
      have hf : wr.frozen? ⟨w.heap.size + 1, k, none⟩ = false := R1.frozen k
      have HKL : Hid ((S.take k).length = k) := hkl
      have hsq := cube_any x
      generalize cubeN x = y at HT hsq
      clear hx hSx hpl hkl hce HSG
      go_wp2_with fail
      refine (hsq _).mono ?_
      rintro _ _ ⟨rfl, rfl⟩
      go_wp2_with fail
      refine ⟨⟨k + 1, by omega, by simp, R0.setCellOther (by simp) _, ?_, fun j x h => ?_, K0.setCell (by simp) _⟩, by simp [intOf]; omega⟩
      · rw [HT.out]
        exact pushTo R1 HKL.out (by omega) _
      · rw [World.cell?_setCell_other _ _ _ _ (by simp <;> omega)]
        exact HCE.out j x h
    · obtain rfl : k = 64 := by omega
      rw [show S.take 64 = S by rw [← hSl, List.take_length], padTo_full 64 S hSl] at R1
      clear hce HCE HSG
      go_upto_region 7 with fail
      go_wp2_with (first | refine wpList_load_row (by rfl) 75 _ (by rfl) (w.heap.size + 1) (by rfl) 75 (cw S) (0, 0) _ R1 Tryd.underlying75 rfl (by rw [cw_size, hSl]; exact i40) ?_ | refine wpList_store_row (by rfl) 75 _ _ (by rfl) w.heap.size (cw S) (by rfl) (by rfl) 75 Z R0 (by rw [cw_size, hSl]; exact i40) (by rw [cw_size, hSl]; exact HZ.out) (cw_one _) ?_)
      exact bodyPost_ret (results_cell_row rfl _ _ w.heap.size 75 (cw S) (0, 0) _ rfl (R0.set _) Tryd.underlying75 rfl (by rw [cw_size, hSl]; exact i40)) rfl ⟨by rw [HST.out], K0.setRow (Nat.le_refl _) _⟩

end Go.Proofs.YtecamiefpdkjoaaDoor.Dg
