/-
  What Key, Pack and Unpack return, for every text, where the table of upper halves lies as its initialiser lays it.
-/
import Derived.Test.YtelaiblhnhbgiaaDoorNbJoin
namespace Go.Proofs.YtelaiblhnhbgiaaDoor
open Go.RowKit
set_option maxRecDepth 20000

def keyB (l : List UInt8) : Bool := !oddB l.length && halvesB l

set_option maxHeartbeats 400000 in
theorem key_no (s : ByteArray) (hs : s.size ≤ 5000) (h : keyB (L s) = false) (w : World) :
    Calls Tryd.prog 40 #[.string s] w fun e w' => e = .returned (.tuple #[.string (bs []), .bool false]) ∧ Kept w w' := by
  unfold keyB at h
  rw [L_size] at h
  go_enter Tryd.func40, Tryd.ntmps40
  go_wp2_with fail
  refine (isOdd_any _ _).mono ?_
  rintro e w' ⟨rfl, rfl⟩
  cases ho : oddB s.size
  · rw [ho] at h
    have hh : halvesB (L s) = false := by simpa using h
    go_wp2_with fail
    refine (allHalves_any s hs _).mono ?_
    rintro e w2 ⟨rfl, rfl⟩
    rw [hh]
    go_wp2_with fail
    go_ret2
    exact ⟨rfl, Kept.refl _⟩
  · go_wp2_with fail
    go_ret2
    exact ⟨rfl, Kept.refl _⟩

set_option maxHeartbeats 400000 in
theorem key_yes (s : ByteArray) (hs : s.size ≤ 5000) (h : keyB (L s) = true) (w : World) (hT : Tab w) :
    Calls Tryd.prog 40 #[.string s] w fun e w' => e = .returned (.tuple #[.string (bs (joinL (L s))), .bool true]) ∧ Kept w w' := by
  unfold keyB at h
  rw [L_size] at h
  have ho : Hid (oddB s.size = false) := by show _ = _; cases h1 : oddB s.size <;> simp [h1] at h ⊢
  have hh : Hid (halvesB (L s) = true) := by show _ = _; cases h1 : halvesB (L s) <;> simp [h1] at h ⊢
  clear h
  go_enter Tryd.func40, Tryd.ntmps40
  go_wp2_with fail
  refine (isOdd_any _ _).mono ?_
  rintro e w' ⟨rfl, rfl⟩
  rw [ho.out]
  go_wp2_with fail
  refine (allHalves_any s hs _).mono ?_
  rintro e w2 ⟨rfl, rfl⟩
  rw [hh.out]
  go_wp2_with fail
  refine (join_any s hs _ hT).mono ?_
  rintro e w3 ⟨rfl, g⟩
  go_wp2_with fail
  go_ret2
  exact ⟨rfl, g⟩

def packL (l : List UInt8) : List UInt8 := UInt8.ofNat l.length :: joinL l

end Go.Proofs.YtelaiblhnhbgiaaDoor
