/-
  What Of returns: the halves of a text's bytes, the higher first, for every text.
-/
import Derived.Test.YtelaiblhnhbgiaaDoorNbLeaf
import Derived.OwnWalk
import Derived.Laws.BytesString
import Derived.Deep.RegionHeld3
import Derived.Deep.AppendLies
namespace Go.Proofs.YtelaiblhnhbgiaaDoor
open Go.RowKit
set_option maxRecDepth 20000

theorem info5 : (Tryd.prog.info? 5).map (fun i => (i.zero, i.size, i.bytes)) = some (some (.int .u8 0), 1, 1) := by kernel_rfl

/-- The bytes as cells. -/
def cellsL (l : List UInt8) : List Value := l.map fun c => Value.int .u8 (c.toNat : Int)
theorem cellsL_append (l m : List UInt8) : cellsL (l ++ m) = cellsL l ++ cellsL m := by unfold cellsL; rw [List.map_append]
theorem cellsL_get {l : List UInt8} {j : Nat} {c : UInt8} (h : l[j]? = some c) : (cellsL l)[j]? = some (.int .u8 (c.toNat : Int)) := by
  unfold cellsL; rw [List.getElem?_map, h]; rfl
theorem cellsL_length (l : List UInt8) : (cellsL l).length = l.length := by unfold cellsL; simp
theorem conv_own {w : World} {B : Nat} {v : Value} {l : List UInt8} {n : Nat} (hn : l.length = n) (h : w.ownsRow B 5 1 v n (cellsL l)) :
    (convert 50 9 v).run Tryd.prog w = .ok (.string (bs l)) w := by
  subst hn
  rcases id h.2 with ⟨rfl, h0⟩ | ⟨g, cap, cur, rfl, _⟩
  · obtain rfl : l = [] := List.length_eq_zero_iff.1 h0
    rw [run_convert_bytes_string w 50 9 5 none 0 0 Tryd.underlying50 Tryd.underlying5 Tryd.underlying9]
    rfl
  · exact run_convert_bytes_back w 50 9 5 ⟨g, 0, none⟩ cap l Tryd.underlying50 Tryd.underlying5 Tryd.underlying9 (fun j hj => by
      refine h.cells (g := g) rfl j _ ?_
      exact cellsL_get (List.getElem?_eq_getElem hj))

theorem hi_form (c : UInt8) : (c.toNat : Int) / 16 = ((hi c).toNat : Int) := by rw [hi_nat]; omega
theorem lo_form (c : UInt8) : bits .and .u8 (c.toNat : Int) 15 = ((lo c).toNat : Int) := by rw [lo_nat]; exact and15 _ c.toNat_lt
theorem cells_step (l : List UInt8) (k : Nat) (c : UInt8) (h : l[k]? = some c) :
    cellsL (ofL (l.take k)) ++ [.int .u8 ((hi c).toNat : Int), .int .u8 ((lo c).toNat : Int)] = cellsL (ofL (l.take (k + 1))) := by
  rw [ofL_step l k c h, cellsL_append]; rfl
theorem grow_kept {w wr w1 : World} {v : Value} {k : Nat} {xs : List Value} {d : Obj} (hown : wr.ownsRow w.heap.size 5 1 v k xs) (hb : Below w.heap.size w wr) (hg : (wr.alloc d).drew.grownBy w1 v.ownBlock) : Below w.heap.size w w1 := by
  have hB := hb.size
  exact ((hb.alloc hB d).drew).grown hg (by simp; omega) fun j hj => (hown.lt j hj).1

set_option maxHeartbeats 1000000 in
theorem of_any (s : ByteArray) (hs : s.size ≤ 5000) (w : World) :
    Calls Tryd.prog 34 #[.string s] w fun e w' => e = .returned (.string (bs (ofL (L s)))) ∧ Kept w w' := by
  obtain ⟨i0, hi0, hz0, hz1, hz2⟩ := info_parts info5
  obtain ⟨w1, hmk, r1, r2⟩ := run_make_own (P := Tryd.prog) w w.heap.size 50 5 i0 _ 1 Tryd.underlying50 hi0 hz0 hz1 .i64 .i64 (2 * s.size) (by rw [hz2]; omega) (by unfold maxLen; omega) (Nat.le_refl _)
  rw [show ((2 * s.size : Nat) : Int) = 2 * (s.size : Int) by omega] at hmk
  have hb1 : Below w.heap.size w w1 := (Below.refl _ _).grown r2 (Nat.le_refl _) (fun _ h => by cases h)
  clear r2
  go_enter Tryd.func34, Tryd.ntmps34
  go_wp2_with fail
  clear hmk
  go_loopw [3, 11] (fun v i wr => ∃ k : Nat, k ≤ s.size ∧ i = .int .i64 k ∧ wr.ownsRow w.heap.size 5 1 v (2 * k) (cellsL (ofL ((L s).take k))) ∧ Below w.heap.size w wr) (fun _ i _ => s.size - (intOf i).toNat)
  case atStart => exact ⟨0, by omega, rfl, r1, hb1⟩
  case round =>
    clear r1 hb1
    obtain ⟨k, hk, rfl, hown, hb⟩ := hrel
    have hB := hb.size
    by_cases hlt : k < s.size
    · have hc := hi_form s[k]
      have hd := lo_form s[k]
      have HS : Hid (_ = _) := cells_step (L s) k s[k] (L_get s k hlt)
      go_wp2_with fail
      go_region_held3 (fun _ => True) (trivial)
        ((refine step_append_lies _ (by rfl) _ _ _ (by rfl) w.heap.size 5 i0 _ 1 1 Tryd.underlying50 hi0 hz0 hz1 hz2 rfl (by omega) u3 (2 * k) (cellsL (ofL ((L s).take k))) (by rfl) ((hown.alloc _).drew)
            ⟨wr.heap.size, 0, none⟩ 2 2 [.int .u8 ((hi s[k]).toNat : Int), .int .u8 ((lo s[k]).toNat : Int)] (by rfl) (by rfl) (World.news_of_block (cs := #[.int .u8 ((hi s[k]).toNat : Int), .int .u8 ((lo s[k]).toNat : Int)]) (t := 5) (fr := (0, 0)) (heap_alloc_new wr _)) (by simp [Value.oneCell'])
            (by omega) (by unfold maxLen; omega) (by omega) (by simp; omega) (wr.heap.size + 1) (by simp) ?_; intro gg cap w1 hown1 hgrow hat hlt1))
      go_wp2_with fail
      all_goals exact ⟨⟨k + 1, by omega, by go_num, HS.out ▸ hown1, grow_kept hown hb hgrow⟩, by simp [intOf]; omega⟩
    · obtain rfl : k = s.size := by omega
      have hcv := conv_own (by rw [ofL_length, List.length_take, L_size]; omega) hown
      rw [← L_size, List.take_length] at hcv
      clear hown
      go_wp2_with fail
      go_ret
      exact ⟨rfl, Kept.below hb⟩

end Go.Proofs.YtelaiblhnhbgiaaDoor
