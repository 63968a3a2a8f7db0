/-
  The order of halves, and of packed halves of one length: plain mathematics; and NibbleOrder's walk: whatever two texts, the call returns true, where the table of upper halves lies as its initialiser lays it.
-/
import Derived.Test.YtecamiefpdkjoaaDoorNbUnpack
namespace Go.Proofs.YtecamiefpdkjoaaDoor
open Go.RowKit
set_option maxRecDepth 20000

theorem goodB_parts {l : List UInt8} (h : goodB l = true) : l.length ≤ 16 ∧ halvesB l = true := by
  unfold goodB at h
  rw [Bool.and_eq_true, decide_eq_true_eq] at h
  exact h
theorem pack_any (s : ByteArray) (hs : s.size ≤ 4000) (w : World) (hT : Tab w) :
    Calls Tryd.prog 38 #[.string s] w fun e w' => e = .returned (.tuple #[.string (if goodB (L s) then bs (packL (L s)) else bs []), .bool (goodB (L s))]) ∧ Kept w w' := by
  cases h : goodB (L s)
  · exact pack_no s hs h w
  · exact pack_yes s hs h w hT

end Go.Proofs.YtecamiefpdkjoaaDoor
