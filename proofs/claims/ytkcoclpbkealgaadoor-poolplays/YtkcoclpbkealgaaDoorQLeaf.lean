/-
  The pool's small functions: a text's copy; is a frame empty? the first that is.
-/
import Derived.Test.YtkcoclpbkealgaaDoorQHeld
namespace Go.Proofs.YtkcoclpbkealgaaDoor
open Go.RowKit
set_option maxRecDepth 20000

theorem clone_text (s : ByteArray) (h : s.size ≤ 281474976710656) (w : World) : Calls Tryd.prog 42 #[.string s] w fun e w' => e = .returned (.string s) ∧ New w w' := by
  have hc := Tryd.stringslite_Clone s w h
  go_enter Tryd.func42, Tryd.ntmps42
  go_wp2_with fail
  refine hc.mono ?_
  rintro _ w1 ⟨rfl, n1⟩
  go_wp2_with fail
  go_ret
  exact ⟨rfl, n1⟩

theorem fmL_size (f : Fm) : (fmL f).toArray.size = 5 := rfl
theorem fmL_all (f : Fm) : (fmL f).toArray.all (·.oneCell') = true := all_oneCell_toArray (fmL_one f)
theorem bs_empty (l : List UInt8) : (bs l).toList.isEmpty = decide (l = []) := by
  rw [ByteArray.toList_eq]
  cases l with
  | nil => rfl
  | cons a l => rfl
set_option maxHeartbeats 1000000 in
theorem empty_cells (a n : Int) (s : ByteArray) (x y : Bool) (w : World) : Calls Tryd.prog 67 #[.agg #[.int .i64 a, .string s, .int .i64 n, .bool x, .bool y]] w fun e w' => e = .returned (.bool s.toList.isEmpty) ∧ New w w' := by
  go_enter Tryd.func67, Tryd.ntmps67
  go_wp2_with fail
  go_ret
  exact ⟨rfl, (New.refl w).alloc _⟩
theorem empty_any (f : Fm) (w : World) : Calls Tryd.prog 67 #[.agg (fmL f).toArray] w fun e w' => e = .returned (.bool (decide (f.data = []))) ∧ New w w' := by
  rw [← bs_empty]
  exact empty_cells _ _ _ _ _ w

theorem freeAt_found {ks : List (Option Nat)} {i : Nat} (h : ks[i]? = some none) (hb : ∀ j, j < i → ks[j]? ≠ some none) : freeAt ks = some i := by
  unfold freeAt
  obtain ⟨h1, h2⟩ := List.getElem?_eq_some_iff.1 h
  refine List.findIdx?_eq_some_iff_getElem.2 ⟨h1, by rw [h2]; rfl, fun j hj => ?_⟩
  have := hb j hj
  rw [List.getElem?_eq_getElem (by omega)] at this
  cases hk : ks[j]'(by omega) with
  | none => rw [hk] at this; exact absurd rfl this
  | some x => simp
theorem freeAt_not {ks : List (Option Nat)} (hb : ∀ j, j < ks.length → ks[j]? ≠ some none) : freeAt ks = none := by
  unfold freeAt
  refine List.findIdx?_eq_none_iff.2 fun x hx => ?_
  obtain ⟨j, hj⟩ := List.mem_iff_getElem?.1 hx
  have := hb j (List.getElem?_eq_some_iff.1 hj).1
  cases x with
  | none => exact absurd hj this
  | some x => rfl
def freeZ (fs : List Fm) : Int := match freeAt (keys fs) with | some i => (i : Int) | none => -1

set_option maxHeartbeats 2000000 in
/-- The first empty frame. -/
theorem first_any {w : World} {g n : Nat} {fs : List Fm} (P : Pl w (fun x => x = g) 103 5 (.slice (some ⟨g, 0, none⟩) n n) (fs.map fmL)) (hn : fs.length = n) (hl : n ≤ 64) :
    Calls Tryd.prog 66 #[.slice (some ⟨g, 0, none⟩) n n, .func (.func 67) #[] #[]] w fun e w' => e = .returned (.int .i64 (freeZ fs)) ∧ New w w' := by
  have HP : Hid (Pl w (fun x => x = g) 103 5 (.slice (some ⟨g, 0, none⟩) n n) (fs.map fmL)) := P
  have HN : Hid (fs.length = n) := hn
  clear P hn
  go_enter Tryd.func66, Tryd.ntmps66
  go_wp2_with fail
  go_loopw [8] (fun u wr => ∃ i : Nat, u = .int .i64 (i : Int) ∧ i ≤ n ∧ New w wr ∧ Hid (∀ j, j < i → (keys fs)[j]? ≠ some none)) (fun u _ => n - (intOf u).toNat)
  case atStart => exact ⟨0, rfl, by omega, New.refl _, fun j hj => by omega⟩
  case round =>
    obtain ⟨i, rfl, hi, hN, HB⟩ := hrel
    by_cases h : i < n
    · have hif : i < fs.length := by rw [HN.out]; exact h
      obtain ⟨f, hf⟩ : ∃ f, f = fs.getD i noFm := ⟨_, rfl⟩
      have he : (fs.map fmL)[i]? = some (fmL f) := by
        rw [hf, List.getElem?_map, List.getElem?_eq_getElem hif, List.getD_eq_getElem?_getD, List.getElem?_eq_getElem hif]; rfl
      have HK : Hid ((keys fs)[i]? = some f.key) := by rw [hf]; exact keys_at hif
      clear hf hif
      go_wp2_with (first | (refine wpList_load_pl (by rfl) _ _ (by rfl) _ 103 5 g n n i _ _ _ (HP.out.after hN) he (by rfl) Tryd.underlying103 (by rfl) i103 ?_))
      refine (empty_any f _).mono ?_
      rintro _ w1 ⟨rfl, n1⟩
      have hN1 := hN.trans n1
      by_cases hd : f.data = []
      · simp only [hd, decide_true]
        go_wp2_with fail
        go_ret
        have : freeZ fs = (i : Int) := by
          unfold freeZ
          rw [freeAt_found (by rw [HK.out]; unfold Fm.key; rw [if_pos hd]) HB.out]
        exact ⟨ret_int this.symm, hN1⟩
      · simp only [hd, decide_false]
        go_wp2_with fail
        refine ⟨⟨i + 1, by simp, by omega, hN1, fun j hj => ?_⟩, by simp [intOf]; omega⟩
        by_cases e : j = i
        · subst e; rw [HK.out, key_of hd]; simp
        · exact HB.out j (by omega)
    · obtain rfl : i = n := by omega
      go_wp2_with fail
      go_ret
      have : freeZ fs = -1 := by
        unfold freeZ
        rw [freeAt_not (fun j hj => HB.out j (by rw [keys_length, HN.out] at hj; exact hj))]
      exact ⟨ret_int this.symm, hN⟩
end Go.Proofs.YtkcoclpbkealgaaDoor
