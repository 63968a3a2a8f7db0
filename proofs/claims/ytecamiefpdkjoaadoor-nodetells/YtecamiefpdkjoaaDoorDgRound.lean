/-
  What round tells: one word mixed into the eight.
-/
import Derived.Test.YtecamiefpdkjoaaDoorDgLeaf
import Derived.BigQuiet
namespace Go.Proofs.YtecamiefpdkjoaaDoor.Dg
open Go.RowKit
set_option maxRecDepth 20000

theorem i23 : (Tryd.prog.info? 62).map (·.size) = some 8 := by kernel_rfl
theorem World.heap_size_alloc (w : World) (o : Obj) : (w.alloc o).heap.size = w.heap.size + 1 := by
  show (w.heap.push o).size = _
  simp
theorem Row.drewN {w : World} {g : Nat} {cs : Array Value} {t : TypeId} (h : Row w g cs t) (n : Nat) : Row (w.drewN n) g cs t := h
theorem Kept.drewNR {w w' : World} (h : Kept w w') (n : Nat) : Kept w (w'.drewN n) := by
  have h1 : Below w.heap.size w w' := h
  exact ⟨h1.os, h1.tape, h1.output, h1.size, h1.block⟩
theorem Row.new8 (w : World) (t : TypeId) : Row (w.alloc (.cells #[.int .u32 0, .int .u32 0, .int .u32 0, .int .u32 0, .int .u32 0, .int .u32 0, .int .u32 0, .int .u32 0] t)) w.heap.size #[.int .u32 0, .int .u32 0, .int .u32 0, .int .u32 0, .int .u32 0, .int .u32 0, .int .u32 0, .int .u32 0] t := Row.new w _ t
theorem b6 : By 6 := by unfold By; omega
theorem b11 : By 11 := by unfold By; omega
theorem b25 : By 25 := by unfold By; omega
theorem b2 : By 2 := by unfold By; omega
theorem b13 : By 13 := by unfold By; omega
theorem b22 : By 22 := by unfold By; omega
theorem b7 : By 7 := by unfold By; omega
theorem b18 : By 18 := by unfold By; omega
theorem b17 : By 17 := by unfold By; omega
theorem b19 : By 19 := by unfold By; omega

set_option maxHeartbeats 1600000 in
theorem round_any (v : W8) (word : Nat) (w : World) :
    Calls Tryd.prog 71 #[.agg (cw v.list), .int .u32 (word : Int)] w fun e w' => e = .returned (.agg (cw (roundR v word).list)) ∧ Kept w w' := by
  have hx := xo_u32
  have ha := an_u32
  have hn := no_u32
  have hd := ad_u32
  obtain ⟨a, b, c, d, e, f, g, p⟩ := v
  show Calls Tryd.prog 71 #[.agg #[.int .u32 (a : Int), .int .u32 (b : Int), .int .u32 (c : Int), .int .u32 (d : Int), .int .u32 (e : Int), .int .u32 (f : Int), .int .u32 (g : Int), .int .u32 (p : Int)], .int .u32 (word : Int)] w _
  go_enter Tryd.func71, Tryd.ntmps71
  go_wp2_with fail
  go_quiet (fail)
  go_wp2_with fail
  refine (turn_any _ 6 _ rfl b6 _).mono ?_
  rintro _ _ ⟨rfl, rfl⟩
  go_wp2_with fail
  refine (turn_any _ 11 _ rfl b11 _).mono ?_
  rintro _ _ ⟨rfl, rfl⟩
  go_wp2_with fail
  refine (turn_any _ 25 _ rfl b25 _).mono ?_
  rintro _ _ ⟨rfl, rfl⟩
  go_wp2_with fail
  refine (turn_any _ 2 _ rfl b2 _).mono ?_
  rintro _ _ ⟨rfl, rfl⟩
  go_wp2_with fail
  refine (turn_any _ 13 _ rfl b13 _).mono ?_
  rintro _ _ ⟨rfl, rfl⟩
  go_wp2_with fail
  refine (turn_any _ 22 _ rfl b22 _).mono ?_
  rintro _ _ ⟨rfl, rfl⟩
  go_wp2_with fail
  refine bodyPost_ret (results_cell_row rfl _ _ (w.heap.size + 1) 62 (cw (roundR ⟨a, b, c, d, e, f, g, p⟩ word).list) (0, 0) _ rfl ?r Tryd.underlying62 rfl ?i) rfl ⟨rfl, ?k⟩
  case i => exact i23
  case r =>
    have h0 := Row.drewN (Row.new8 (w.alloc (.cells #[.int .u32 (a : Int), .int .u32 (b : Int), .int .u32 (c : Int), .int .u32 (d : Int), .int .u32 (e : Int), .int .u32 (f : Int), .int .u32 (g : Int), .int .u32 (p : Int)] 62)) 62) nq
    rw [World.heap_size_alloc] at h0
    exact ((((((((h0.setCell 0 _).setCell 1 _).setCell 2 _).setCell 3 _).setCell 4 _).setCell 5 _).setCell 6 _).setCell 7 _)
  case k => exact (((((((((((Kept.refl w).allocR _).allocR _).drewNR _).setCell (by simp) _).setCell (by simp) _).setCell (by simp) _).setCell (by simp) _).setCell (by simp) _).setCell (by simp) _).setCell (by simp) _).setCell (by simp) _

end Go.Proofs.YtecamiefpdkjoaaDoor.Dg
