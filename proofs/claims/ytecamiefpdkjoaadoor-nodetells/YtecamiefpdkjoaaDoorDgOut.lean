/-
  What bytesOf tells: words as bytes, the highest first.
-/
import Derived.Test.YtecamiefpdkjoaaDoorDgHex
import Derived.Test.YtecamiefpdkjoaaDoorDgSched
namespace Go.Proofs.YtecamiefpdkjoaaDoor.Dg
open Go.RowKit
set_option maxRecDepth 20000

theorem out_step (l : List Nat) (k : Nat) (h : k < l.length) (x : Nat) (hx : l.getD k 0 = x) (a b c d : Nat) (ha : x / 16777216 % 256 = a) (hb : x / 65536 % 256 = b) (hc : x / 256 % 256 = c) (hd : x % 256 = d) :
    cellsL (bytesL (l.take k)) ++ [.int .u8 (a : Int), .int .u8 (b : Int), .int .u8 (c : Int), .int .u8 (d : Int)] = cellsL (bytesL (l.take (k + 1))) := by
  rw [bytesL_step l k h, cellsL_append, hx]
  have e : putL x = [UInt8.ofNat a, UInt8.ofNat b, UInt8.ofNat c, UInt8.ofNat d] := by unfold putL; rw [ha, hb, hc, hd]
  rw [e]
  congr 1
  unfold cellsL
  simp only [List.map_cons, List.map_nil]
  rw [byte_of a (by omega), byte_of b (by omega), byte_of c (by omega), byte_of d (by omega)]

theorem info22 : (Tryd.prog.info? 61).map (fun i => (i.zero, i.size, i.bytes)) = some (some (.int .u32 0), 1, 4) := by kernel_rfl
theorem index_words (hc : Array Value) (k x : Nat) (hk : k < 8) (h : hc[k]? = some (.int .u32 (x : Int))) (w : World) :
    (Instr.index 62 (.agg hc) (.int .i64 (k : Int))).run Tryd.prog w = .ok (.int .u32 (x : Int)) w := by
  obtain ⟨i0, hi0, hz0, hz1, hz2⟩ := info_parts info22
  simp [Instr.index, asIntOf, run_underlying Tryd.underlying62, part, isAgg, run_underlying Tryd.underlying61, sizeOf, typeInfo, hi0, hz1, h]
  intro h8
  omega

set_option maxHeartbeats 1000000 in
theorem bytesOf_any (v : W8) (hv : ∀ j, v.list.getD j 0 < 4294967296) (w : World) :
    Calls Tryd.prog 35 #[.agg (cw v.list)] w fun e w' => e = .returned (.string (bs (bytesL v.list))) ∧ Kept w w' := by
  obtain ⟨i0, hi0, hz0, hz1, hz2⟩ := info_parts info5
  obtain ⟨hc, hhc⟩ : ∃ hc, cw v.list = hc := ⟨_, rfl⟩
  rw [hhc]
  have hcs : hc.size = 8 := by rw [← hhc, cw_size]; rfl
  obtain ⟨w1, hmk, r1, r2⟩ := run_make_own (P := Tryd.prog) (w.alloc (.cells hc 62)) w.heap.size 56 5 i0 _ 1 Tryd.underlying56 hi0 hz0 hz1 .i64 .i64 32 (by rw [hz2]; omega) (by unfold maxLen; omega) (by simp)
  have hb1 : Below w.heap.size w w1 := ((Below.refl w.heap.size w).alloc (Nat.le_refl _) (.cells hc 62)).grown r2 (by simp) (fun _ h => by cases h)
  have R1 : Row w1 w.heap.size hc 62 := by
    have h1 : Below (w.heap.size + 1) (w.alloc (.cells hc 62)) w1 := (Below.refl _ _).grown r2 (by simp) (fun _ h => by cases h)
    exact (h1.block w.heap.size (by omega)).trans (Row.new w hc 62)
  rw [show ((32 : Nat) : Int) = 32 from rfl] at hmk
  rw [World.heap_size_alloc] at r1
  clear r2
  go_enter Tryd.func35, Tryd.ntmps35
  go_upto_region 2 with fail
  clear hmk
  go_wp2_with (refine wpList_load_row (by rfl) 62 _ (by rfl) w.heap.size (by rfl) 62 hc (0, 0) _ R1 Tryd.underlying62 rfl (by rw [hcs]; exact i23) ?_)
  go_loopw [3, 8] (fun u i wr => ∃ k : Nat, k ≤ 8 ∧ i = .int .i64 (k : Int) ∧ wr.ownsRow w.heap.size 5 1 u (4 * k) (cellsL (bytesL (v.list.take k))) ∧ Below w.heap.size w wr) (fun _ i _ => (8 - intOf i).toNat)
  case atStart => exact ⟨0, by omega, rfl, r1, hb1⟩
  case round =>
    clear r1 hb1 R1
    obtain ⟨k, hk, rfl, hown, hb⟩ := hrel
    have hB := hb.size
    by_cases hlt : k < 8
    · obtain ⟨x, hx⟩ : ∃ x, v.list.getD k 0 = x := ⟨_, rfl⟩
      have hxl := hv k
      rw [hx] at hxl
      obtain ⟨a, ha⟩ : ∃ a, x / 16777216 % 256 = a := ⟨_, rfl⟩
      obtain ⟨b, hb'⟩ : ∃ a, x / 65536 % 256 = a := ⟨_, rfl⟩
      obtain ⟨c, hc'⟩ : ∃ a, x / 256 % 256 = a := ⟨_, rfl⟩
      obtain ⟨d, hd⟩ : ∃ a, x % 256 = a := ⟨_, rfl⟩
      have HS : Hid (_ = _) := out_step v.list k (by rw [show v.list.length = 8 from rfl]; exact hlt) x hx a b c d ha hb' hc' hd
      have hg := index_words hc k x hlt (by rw [← hhc, cw_get _ _ (by rw [show v.list.length = 8 from rfl]; exact hlt), hx])
      have ia : (x : Int) / 16777216 = (a : Int) := by omega
      have ib : (x : Int) / 65536 % 256 = (b : Int) := by omega
      have ic : (x : Int) / 256 % 256 = (c : Int) := by omega
      have id' : (x : Int) % 256 = (d : Int) := by omega
      clear hx ha hb' hc' hd hv hhc
      go_wp2_with (at_builtin; refine wpList_append_lies _ rfl _ _ 56 rfl w.heap.size 5 i0 (.int .u8 0) 1 1 Tryd.underlying56 hi0 hz0 hz1 hz2 rfl (by decide) _ _ _ rfl (hown.alloc _) ⟨wr.heap.size, 0, none⟩ 4 4 [.int .u8 (a : Int), .int .u8 (b : Int), .int .u8 (c : Int), .int .u8 (d : Int)] rfl rfl (World.news_of_block (cs := #[.int .u8 (a : Int), .int .u8 (b : Int), .int .u8 (c : Int), .int .u8 (d : Int)]) (t := 5) (fr := (0, 0)) (heap_alloc_new wr _)) (by simp [Value.oneCell']) (by decide) (by unfold maxLen; omega) (by omega) (by simp; omega) (wr.heap.size + 1) (by simp) ?_)
      intro gg cap w2 hown1 hgrow _ _
      rw [HS.out] at hown1
      go_wp2_with fail
      exact ⟨⟨k + 1, by omega, by go_num, hown1, grow_plain hown hb hgrow⟩, by simp [intOf]; omega⟩
    · obtain rfl : k = 8 := by omega
      have hcv := conv_own (by rw [bytesL_length]; rfl) hown
      rw [show v.list.take 8 = v.list from rfl] at hcv
      clear hown
      go_wp2_with fail
      go_ret
      exact ⟨rfl, Kept.below hb⟩

end Go.Proofs.YtecamiefpdkjoaaDoor.Dg
