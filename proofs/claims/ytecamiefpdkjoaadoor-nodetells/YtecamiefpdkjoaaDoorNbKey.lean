/-
  What Key, Pack and Unpack return, for every text, where the table of upper halves lies as its initialiser lays it.
-/
import Derived.Test.YtecamiefpdkjoaaDoorNbJoin
namespace Go.Proofs.YtecamiefpdkjoaaDoor
open Go.RowKit
set_option maxRecDepth 20000

def keyB (l : List UInt8) : Bool := !oddB l.length && halvesB l

set_option maxHeartbeats 400000 in
theorem pack_no (s : ByteArray) (hs : s.size ≤ 4000) (h : goodB (L s) = false) (w : World) :
    Calls Tryd.prog 38 #[.string s] w fun e w' => e = .returned (.tuple #[.string (bs []), .bool false]) ∧ Kept w w' := by
  have hh : Hid (goodB (L s) = false) := h
  clear h
  go_enter Tryd.func38, Tryd.ntmps38
  go_wp2_with fail
  refine (good_any s hs _).mono ?_
  rintro e w' ⟨rfl, rfl⟩
  rw [hh.out]
  go_wp2_with fail
  go_ret2
  exact ⟨rfl, Kept.refl _⟩

def packL (l : List UInt8) : List UInt8 := UInt8.ofNat l.length :: joinL l

set_option maxHeartbeats 1000000 in
theorem pack_yes (s : ByteArray) (hs : s.size ≤ 4000) (h : goodB (L s) = true) (w : World) (hT : Tab w) :
    Calls Tryd.prog 38 #[.string s] w fun e w' => e = .returned (.tuple #[.string (bs (packL (L s))), .bool true]) ∧ Kept w w' := by
  have hh : Hid (goodB (L s) = true) := h
  have h16 : s.size ≤ 16 := by
    unfold goodB at h
    rw [Bool.and_eq_true, decide_eq_true_eq, L_size] at h
    exact h.1
  clear h
  go_enter Tryd.func38, Tryd.ntmps38
  go_wp2_with fail
  refine (good_any s hs _).mono ?_
  rintro e w' ⟨rfl, rfl⟩
  rw [hh.out]
  go_wp2_with fail
  have hw8 : IntKind.u8.wrap (s.size : Int) = (s.size : Int) := by rw [IntKind.wrap_u8]; omega
  have hcv : ∀ (w : World) (b : Nat), w.cell? ⟨b, 0, none⟩ = some (.int .u8 (s.size : Int)) → (convert 56 9 (.slice (some ⟨b, 0, none⟩) 1 1)).run Tryd.prog w = .ok (.string (bs [UInt8.ofNat s.size])) w := by
    intro w b hc
    have := run_convert_bytes_back w 56 9 5 ⟨b, 0, none⟩ 1 [UInt8.ofNat s.size] Tryd.underlying56 Tryd.underlying5 Tryd.underlying9 (fun j hj => by
      simp at hj
      subst hj
      simp [Addr.add, hc]
      omega)
    exact this
  have hsz1 : (bs [UInt8.ofNat s.size]).size ≤ 1 := Nat.le_refl _
  have hsz2 : (bs (joinL (L s))).size ≤ 8 := by rw [bs_size, joinL_length, L_size]; omega
  have HE : Hid (bs [UInt8.ofNat s.size] ++ bs (joinL (L s)) = bs (packL (L s))) := eq_of_L (by rw [L_append, L_bs, L_bs, L_bs]; unfold packL; rw [L_size]; rfl)
  go_region_with (go_at_call 55; refine (join_any s hs _ (hT.kept (by first | exact Kept.refl _ | exact (Kept.refl _).drewR | exact ((Kept.refl _).allocR _) | exact ((Kept.refl _).allocR _).drewR | exact ((Kept.refl _).allocR _).drewR.drewR))).mono ?_; rintro e w3 ⟨rfl, g⟩; (first | (have hcell : w3.cell? ⟨w'.heap.size, 0, none⟩ = some (.int .u8 (s.size : Int)) := by (refine (Kept.cell g ?_).trans ?_; all_goals (simp; done))) | skip))
  all_goals go_wp2_with fail
  all_goals go_ret2
  all_goals rw [HE.out]
  all_goals refine ⟨rfl, ?_⟩
  · exact (((Kept.refl _).allocR _).drewR).trans g
  · exact (((Kept.refl _).allocR _).drewR).trans g
  · exact (((Kept.refl _).drewR).trans g).allocR _

end Go.Proofs.YtecamiefpdkjoaaDoor
