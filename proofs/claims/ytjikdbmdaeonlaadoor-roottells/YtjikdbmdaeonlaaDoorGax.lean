/-
  NodeBack's walk: whatever two Items and a text, the call returns true, where the tables lie as their initialisers lay them.
-/
import Derived.Test.YtjikdbmdaeonlaaDoorGaw
import Derived.Test.YtjikdbmdaeonlaaDoorGav
namespace Go.Proofs.YtjikdbmdaeonlaaDoor.No
open Go.RowKit
set_option maxRecDepth 20000
set_option linter.unusedVariables false

/-- What a call says, and that it writes nothing old. -/
abbrev Says (f : Nat) (args : Array Value) (v : Value) (W : World) : Prop := Calls Tryd.prog f args W fun e w' => e = .returned v ∧ New W w'
theorem c_enc (I : It) (hS : Small I) (a : Option Addr) (c : Nat) : ∀ W, Tx W a I.hs → TT W → Says 24 #[.agg (itC I a c)] (.tuple #[.string (bs (encB I)), .bool (goodI I)]) W := fun W h k => encode_any I hS a c W h k.1
theorem c_hash (I : It) (hS : Small I) (a : Option Addr) (c : Nat) : ∀ W, Tx W a I.hs → TT W → Says 25 #[.agg (itC I a c)] (.tuple #[.string (bs (hashB I)), .bool (goodI I)]) W := fun W h k => hash_any I hS a c W h k
theorem c_good (I : It) (hS : Small I) (a : Option Addr) (c : Nat) : ∀ W, Tx W a I.hs → Says 26 #[.agg (itC I a c)] (.bool (goodI I)) W := fun W h => Good_any I hS a c W h
theorem c_rgood (I : It) (hS : Small I) (a : Option Addr) (c : Nat) : ∀ W, Tx W a I.hs → Says 59 #[.agg (itC I a c)] (.bool (goodI I)) W := fun W h => rGood_any I hS a c W h
theorem c_same (I J : It) (hS : Small I) (a b : Option Addr) (c d : Nat) : ∀ W, Tx W a I.hs → Tx W b J.hs → Says 16 #[.agg (itC I a c), .agg (itC J b d)] (.bool (eqIt I J)) W := fun W h k => same_any I J a b c d hS.n W h k
theorem c_dg (q : ByteArray) (hq : q.size ≤ 4000) : ∀ W, TT W → Says 27 #[.string q] (.string (bs (Dg.ofL (L q)))) W := fun W k => by
  have h := dg_of (L q) (by rw [L_size]; exact hq) W k.2
  rwa [bs_L] at h
theorem itC_size (I : It) (a : Option Addr) (c : Nat) : (Tryd.prog.info? 32).map (·.size) = some (itC I a c).size := i24
theorem good_small (I : It) (h : goodI I = true) : Small I := by
  rw [goodI_iff] at h
  cases h with
  | leaf p v hp hv => exact ⟨by have := (goodB_parts hp).1; simp only; omega, by simp only; omega, by simp, fun h hh => by cases hh⟩
  | ext p h hp h0 hh => exact ⟨by have := (goodB_parts hp).1; simp only; omega, by simp, by simp, fun x hx => by simp only [List.mem_singleton] at hx; subst hx; omega⟩
  | branch has v m hs hv hv2 hm h2 hl hh => exact ⟨by simp, by simp only; omega, by have := popN_le m; simp only; omega, fun x hx => by have := hh x hx; omega⟩
theorem tt_after {w w' : World} (h : TT w) (k : New w w') : TT w' := h.after k

end Go.Proofs.YtjikdbmdaeonlaaDoor.No
