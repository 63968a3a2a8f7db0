/-
  FloatTells' walk: whatever two words and text, the call returns true.
-/
import Derived.Test.YtcjbbggpnhpbaaaRefVal
import Derived.Test.YtcjbbggpnhpbaaaBackA
import Derived.Deep.RegionHeld3
namespace Go.Proofs.Ytcjbbggpnhpbaaa
open Go.RowKit
open Plain

/-- What stays true of the world while the last statement is reckoned: the box of the document's answer, and all that lay there at the start. -/
def Stays (W : World) (b f : Nat) (ok : Bool) (w : World) : Prop :=
  w.cell? ⟨b, 0, none⟩ = some (.float .f64 f) ∧ w.cell? ⟨b, 1, none⟩ = some (.bool ok) ∧ b < w.heap.size ∧ W.keptBut w (fun _ => False)

theorem Stays.kept {W : World} {b f : Nat} {ok : Bool} {w w' : World} (h : Stays W b f ok w) (k : w.keptBut w' (fun _ => False)) : Stays W b f ok w' :=
  ⟨(k.cell h.2.2.1 (fun x => x)).trans h.1, (k.cell h.2.2.1 (fun x => x)).trans h.2.1, Nat.lt_of_lt_of_le h.2.2.1 k.size, World.keptBut_trans h.2.2.2 k⟩
theorem Stays.grown {W : World} {b f : Nat} {ok : Bool} {w w' : World} (h : Stays W b f ok w) (k : Grown w w') : Stays W b f ok w' := h.kept k.1
theorem Stays.below {W : World} {b f : Nat} {ok : Bool} {w w' : World} (h : Stays W b f ok w) (k : Below w.heap.size w w') : Stays W b f ok w' := h.kept (k.frame _)
theorem Stays.drew {W : World} {b f : Nat} {ok : Bool} {w : World} (h : Stays W b f ok w) : Stays W b f ok w.drew := ⟨h.1, h.2.1, h.2.2.1, h.2.2.2⟩

section
variable {W : World} {b f : Nat} {ok : Bool}
theorem key_stays (x : Nat) (hx : x < 18446744073709551616) (w : World) (h : Stays W b f ok w) :
    Calls Try.prog 11 #[.float .f64 x] w fun e w' => e = .returned (.string (keyS (keyN x))) ∧ Stays W b f ok w' :=
  (key_any x hx w).mono fun _ _ ⟨he, hg⟩ => ⟨he, h.grown hg⟩
theorem refKey_stays (x : Nat) (hx : x < 18446744073709551616) (w : World) (h : Stays W b f ok w) :
    Calls Try.prog 12 #[.float .f64 x] w fun e w' => e = .returned (.string (keyS (keyN x))) ∧ Stays W b f ok w' :=
  (refKey_any x hx w).mono fun _ _ ⟨he, hg⟩ => ⟨he, h.below hg⟩
theorem wakes_stays (w : World) (h : Stays W b f ok w) :
    Calls Try.prog 17 #[] w fun e w' => e = .returned (.bool true) ∧ Stays W b f ok w' :=
  (wakes_any w).mono fun _ _ ⟨he, hg⟩ => ⟨he, h.grown hg⟩
end
theorem less_int (x y : Nat) (hx : x < 18446744073709551616) (hy : y < 18446744073709551616) (w : World) :
    Calls Try.prog 14 #[.float .f64 x, .float .f64 y] w fun e w' => e = .returned (.bool (decide ((keyN x : Int) < (keyN y : Int)))) ∧ w' = w :=
  (less_any x y hx hy w).mono fun _ _ ⟨he, hg⟩ => ⟨he.trans (ret_bool (by unfold lessB; simp)), hg⟩
theorem same_int (x y : Nat) (hx : x < 18446744073709551616) (hy : y < 18446744073709551616) (w : World) :
    Calls Try.prog 16 #[.float .f64 x, .float .f64 y] w fun e w' => e = .returned (.bool ((keyN x : Int) == (keyN y : Int))) ∧ w' = w :=
  (same_any x y hx hy w).mono fun _ _ ⟨he, hg⟩ => ⟨he.trans (ret_bool (by unfold sameB; rw [Bool.eq_iff_iff, decide_eq_true_eq, beq_iff_eq]; omega)), hg⟩

set_option maxHeartbeats 4000000 in
theorem tells_walk (x y : Nat) (s : ByteArray) (hx : x < 18446744073709551616) (hy : y < 18446744073709551616) (w : World) :
    Calls Try.prog 3 #[.int .u64 (x : Int), .int .u64 (y : Int), .string s] w fun e w' => e = .returned (.bool true) ∧ w.keptBut w' (fun _ => False) := by
  have hfrom := call_from
  have hst := store_float
  obtain ⟨f, ok, hV, hR⟩ := both_values s
  have HV : Hid (∀ w, _) := hV
  have HR : Hid (∀ w, _) := hR
  clear hV hR
  go_enter Try.func3, Try.ntmps3
  go_wp2_with fail
  refine (HV.out _).mono ?_
  rintro e w1 ⟨rfl, g1⟩
  go_wp2_with fail
  refine (HR.out _).mono ?_
  rintro e w2 ⟨rfl, g2⟩
  clear HV HR
  go_wp2_with fail
  have hS : Stays w w2.heap.size f ok (w2.alloc (.cells #[.float .f64 f, .bool ok] 28)) := by
    exact ⟨by simp, by simp, by simp, World.keptBut_trans g1.1 (World.keptBut_trans (g2.frame _) (World.keptBut_alloc _ _ _))⟩
  clear g1 g2 hfrom hst
  generalize w2.heap.size = b at hS ⊢
  generalize w2.alloc (.cells #[.float .f64 f, .bool ok] 28) = w3 at hS ⊢
  obtain ⟨L, hL⟩ : ∃ L : Bool, decide ((keyN x : Int) < (keyN y : Int)) = L := ⟨_, rfl⟩
  obtain ⟨E, hE⟩ : ∃ E : Bool, ((keyN x : Int) == (keyN y : Int)) = E := ⟨_, rfl⟩
  go_region_held3 (fun w' => w'.cell? ⟨b, 0, none⟩ = some (.float .f64 f) ∧ w'.cell? ⟨b, 1, none⟩ = some (.bool ok) ∧ b < w'.heap.size ∧ w.keptBut w' (fun _ => False)) (first | assumption | exact Stays.drew (by assumption))
    (first
      | (go_at_call 11; refine (key_stays (W := w) (b := b) (f := f) (ok := ok) _ hx _ ?_).mono ?_; (first | assumption | exact Stays.drew (by assumption)); rintro e w' ⟨rfl, hk⟩)
      | (go_at_call 12; refine (refKey_stays (W := w) (b := b) (f := f) (ok := ok) _ hx _ ?_).mono ?_; (first | assumption | exact Stays.drew (by assumption)); rintro e w' ⟨rfl, hk⟩)
      | (go_at_call 13; refine (bits_any _ _).mono ?_; rintro e w' ⟨rfl, rfl⟩)
      | (go_at_call 14; refine (less_int _ _ hx hy _).mono ?_; rintro e w' ⟨rfl, rfl⟩)
      | (go_at_call 15; refine (rank_any _ (by assumption) _).mono ?_; rintro e w' ⟨rfl, rfl⟩)
      | (go_at_call 16; refine (same_int _ _ hx hy _).mono ?_; rintro e w' ⟨rfl, rfl⟩)
      | (go_at_call 17; refine (wakes_stays (W := w) (b := b) (f := f) (ok := ok) _ ?_).mono ?_; (first | assumption | exact Stays.drew (by assumption)); rintro e w' ⟨rfl, hk⟩))
  go_wp2_with fail
  go_ret
  refine ⟨?_, ?_⟩
  · rfl
  · have hk := ‹Stays w b f ok _›
    exact hk.2.2.2

end Go.Proofs.Ytcjbbggpnhpbaaa
