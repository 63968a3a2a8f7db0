/-
  NibbleTells' walk: whatever two texts, the call returns true, where the table of upper halves lies as its initialiser lays it.
-/
import Derived.Test.YtopnagligeihgaaDoorRefD
namespace Go.Proofs.YtopnagligeihgaaDoor
open Go.RowKit

/-- Key and the document's own one give the same, whatever the text. -/
theorem both_keys (s : ByteArray) (hs : s.size ≤ 1000) : ∃ (k : ByteArray) (x : Bool),
    (∀ w, Tab w → Calls Tryd.prog 9 #[.string s] w fun e w' => e = .returned (.tuple #[.string k, .bool x]) ∧ Kept w w') ∧
    (∀ w, Calls Tryd.prog 12 #[.string s] w fun e w' => e = .returned (.agg #[.string k, .bool x]) ∧ Kept w w') := by
  cases h : keyB (L s)
  · refine ⟨bs [], false, fun w _ => key_no s (by omega) h w, fun w => ?_⟩
    exact (refKey_core s (by omega) (bs []) false (.inr ⟨h, rfl, rfl⟩) w).mono fun _ _ ⟨he, hk⟩ => ⟨he, Kept.below hk⟩
  · refine ⟨bs (joinL (L s)), true, fun w hT => key_yes s (by omega) h w hT, fun w => ?_⟩
    exact (refKey_core s (by omega) (bs (joinL (L s))) true (.inl ⟨h, rfl, rfl⟩) w).mono fun _ _ ⟨he, hk⟩ => ⟨he, Kept.below hk⟩
theorem both_packs (s : ByteArray) (hs : s.size ≤ 1000) : ∃ (k : ByteArray) (x : Bool),
    (∀ w, Tab w → Calls Tryd.prog 10 #[.string s] w fun e w' => e = .returned (.tuple #[.string k, .bool x]) ∧ Kept w w') ∧
    (∀ w, Calls Tryd.prog 13 #[.string s] w fun e w' => e = .returned (.agg #[.string k, .bool x]) ∧ Kept w w') :=
  ⟨_, _, fun w hT => pack_any s (by omega) w hT, fun w => (refPack_any s (by omega) w).mono fun _ _ ⟨he, hk⟩ => ⟨he, Kept.below hk⟩⟩
theorem both_unpacks (s : ByteArray) (hs : s.size ≤ 1000) : ∃ (k : ByteArray) (u : Int) (x : Bool),
    (∀ w, Calls Tryd.prog 11 #[.string s] w fun e w' => e = .returned (.tuple #[.string k, .int .i64 u, .bool x]) ∧ Kept w w') ∧
    (∀ w, Calls Tryd.prog 14 #[.string s] w fun e w' => e = .returned (.agg #[.string k, .int .i64 u, .bool x]) ∧ Kept w w') := by
  refine ⟨_, _, _, fun w => ?_, fun w => refUnpack_any s (by omega) w⟩
  cases h : unpackB (L s)
  · exact unpack_no s (by omega) h w
  · exact unpack_yes s (by omega) h w

set_option maxHeartbeats 1000000 in
theorem tells_long (a b : ByteArray) (h : 1000 < a.size ∨ 1000 < b.size) (w : World) (hT : Tab w) :
    Calls Tryd.prog 3 #[.string a, .string b] w fun e w' => e = .returned (.bool true) ∧ Kept w w' := by
  have hx : decide ((1000 : Int) < (a.size : Int)) = true ∨ (decide ((1000 : Int) < (a.size : Int)) = false ∧ decide ((1000 : Int) < (b.size : Int)) = true) := by
    simp only [decide_eq_true_eq, decide_eq_false_iff_not]; omega
  clear h
  rcases hx with h1 | ⟨h1, h2⟩
  all_goals
    go_enter Tryd.func3, Tryd.ntmps3
    go_wp2_with fail
    refine (wakes_any _ hT).mono ?_
    rintro e w1 ⟨rfl, g1⟩
    go_wp2_with fail
    go_ret
    exact ⟨rfl, g1⟩

theorem new_cell (w : World) (c : Array Value) (t : TypeId) (j : Nat) : (w.alloc (.cells c t)).cell? ⟨w.heap.size, j, none⟩ = c[j]? :=
  cell_of_row _ w.heap.size j _ _ _ (heap_alloc_new w _)
theorem new_size (w : World) (o : Obj) : (w.alloc o).heap.size = w.heap.size + 1 := by simp
theorem three_boxes (w : World) (c1 c2 c3 : Array Value) (t1 t2 t3 : TypeId) (j : Nat) :
    (((w.alloc (.cells c1 t1)).alloc (.cells c2 t2)).alloc (.cells c3 t3)).cell? ⟨w.heap.size, j, none⟩ = c1[j]? ∧
    (((w.alloc (.cells c1 t1)).alloc (.cells c2 t2)).alloc (.cells c3 t3)).cell? ⟨w.heap.size + 1, j, none⟩ = c2[j]? ∧
    (((w.alloc (.cells c1 t1)).alloc (.cells c2 t2)).alloc (.cells c3 t3)).cell? ⟨w.heap.size + 1 + 1, j, none⟩ = c3[j]? := by
  refine ⟨?_, ?_, ?_⟩
  · rw [Kept.cell ((Kept.refl _).allocR _) (by rw [new_size, new_size]; omega), Kept.cell ((Kept.refl _).allocR _) (by rw [new_size]; omega), new_cell]
  · rw [Kept.cell ((Kept.refl _).allocR _) (by rw [new_size, new_size]; omega)]
    have := new_cell (w.alloc (.cells c1 t1)) c2 t2 j
    rwa [new_size] at this
  · have := new_cell ((w.alloc (.cells c1 t1)).alloc (.cells c2 t2)) c3 t3 j
    rwa [new_size, new_size] at this

set_option maxHeartbeats 4000000 in
theorem tells_walk (a b : ByteArray) (ha : a.size ≤ 1000) (hb : b.size ≤ 1000) (w : World) (hT : Tab w) :
    Calls Tryd.prog 3 #[.string a, .string b] w fun e w' => e = .returned (.bool true) ∧ Kept w w' := by
  have hd : decide ((1000 : Int) < (a.size : Int)) = false := decide_eq_false (by omega)
  have hd2 : decide ((1000 : Int) < (b.size : Int)) = false := decide_eq_false (by omega)
  obtain ⟨k, x, h9, h12⟩ := both_keys a ha
  obtain ⟨p, y, h10, h13⟩ := both_packs a ha
  obtain ⟨n, u, z, h11, h14⟩ := both_unpacks b hb
  have H9 : Hid (∀ w, _) := h9
  have H10 : Hid (∀ w, _) := h10
  have H11 : Hid (∀ w, _) := h11
  have H12 : Hid (∀ w, _) := h12
  have H13 : Hid (∀ w, _) := h13
  have H14 : Hid (∀ w, _) := h14
  clear h9 h10 h11 h12 h13 h14
  go_enter Tryd.func3, Tryd.ntmps3
  go_wp2_with fail
  refine (H9.out _ hT).mono ?_
  rintro e w1 ⟨rfl, g1⟩
  go_wp2_with fail
  refine (H10.out _ (hT.kept g1)).mono ?_
  rintro e w2 ⟨rfl, g2⟩
  go_wp2_with fail
  refine (H11.out _).mono ?_
  rintro e w3 ⟨rfl, g3⟩
  go_wp2_with fail
  refine (H12.out _).mono ?_
  rintro e w4 ⟨rfl, g4⟩
  go_wp2_with fail
  refine (H13.out _).mono ?_
  rintro e w5 ⟨rfl, g5⟩
  go_wp2_with fail
  refine (H14.out _).mono ?_
  rintro e w6 ⟨rfl, g6⟩
  have g : Kept w w6 := g1.trans (g2.trans (g3.trans (g4.trans (g5.trans g6))))
  clear H9 H10 H11 H12 H13 H14 g1 g2 g3 g4 g5 g6
  go_wp2_with fail
  refine (of_any b (by omega) _).mono ?_
  rintro e w7 ⟨rfl, g7⟩
  go_wp2_with fail
  refine (refOf_any b (by omega) _).mono ?_
  rintro e w8 ⟨rfl, g8⟩
  obtain ⟨W, hW⟩ : ∃ W, ((w6.alloc (.cells #[.string k, .bool x] 28)).alloc (.cells #[.string p, .bool y] 28)).alloc (.cells #[.string n, .int .i64 u, .bool z] 31) = W := ⟨_, rfl⟩
  rw [hW] at g7
  have gW : Kept W w8 := g7.trans (Kept.below g8)
  have hWs : W.heap.size = w6.heap.size + 1 + 1 + 1 := by rw [← hW]; simp
  have c0 : w8.cell? ⟨w6.heap.size, 0, none⟩ = some (.string k) := by rw [gW.cell (by omega), ← hW]; exact (three_boxes w6 _ _ _ _ _ _ 0).1
  have c1 : w8.cell? ⟨w6.heap.size, 1, none⟩ = some (.bool x) := by rw [gW.cell (by omega), ← hW]; exact (three_boxes w6 _ _ _ _ _ _ 1).1
  have c2 : w8.cell? ⟨w6.heap.size + 1, 0, none⟩ = some (.string p) := by rw [gW.cell (by omega), ← hW]; exact (three_boxes w6 _ _ _ _ _ _ 0).2.1
  have c3 : w8.cell? ⟨w6.heap.size + 1, 1, none⟩ = some (.bool y) := by rw [gW.cell (by omega), ← hW]; exact (three_boxes w6 _ _ _ _ _ _ 1).2.1
  have c4 : w8.cell? ⟨w6.heap.size + 1 + 1, 0, none⟩ = some (.string n) := by rw [gW.cell (by omega), ← hW]; exact (three_boxes w6 _ _ _ _ _ _ 0).2.2
  have c5 : w8.cell? ⟨w6.heap.size + 1 + 1, 1, none⟩ = some (.int .i64 u) := by rw [gW.cell (by omega), ← hW]; exact (three_boxes w6 _ _ _ _ _ _ 1).2.2
  have c6 : w8.cell? ⟨w6.heap.size + 1 + 1, 2, none⟩ = some (.bool z) := by rw [gW.cell (by omega), ← hW]; exact (three_boxes w6 _ _ _ _ _ _ 2).2.2
  have k8 : Kept w w8 := by
    refine Kept.trans ?_ gW
    rw [← hW]
    exact ((g.allocR _).allocR _).allocR _
  clear g g7 g8 gW hWs hW
  generalize w6.heap.size = B at *
  go_wp2_with fail
  refine (common_any a b (by omega) (by omega) _).mono ?_
  rintro e w9 ⟨rfl, g9⟩
  go_wp2_with fail
  refine (refCommon_any a b (by omega) (by omega) _).mono ?_
  rintro e w10 ⟨rfl, g10⟩
  go_wp2_with fail
  refine (good_any a (by omega) _).mono ?_
  rintro e w11 ⟨rfl, rfl⟩
  go_wp2_with fail
  refine (refGood_any a (by omega) _).mono ?_
  rintro e w12 ⟨rfl, rfl⟩
  go_wp2_with fail
  have k10 := k8.trans (g9.trans g10)
  refine (wakes_any _ (hT.kept k10)).mono ?_
  rintro e w13 ⟨rfl, g13⟩
  go_wp2_with fail
  go_ret
  exact ⟨rfl, k10.trans g13⟩

theorem tells_any (a b : ByteArray) (w : World) (hT : Tab w) :
    Calls Tryd.prog 3 #[.string a, .string b] w fun e w' => e = .returned (.bool true) ∧ w.keptBut w' (fun _ => False) := by
  by_cases h : 1000 < a.size ∨ 1000 < b.size
  · exact tells_long a b h w hT
  · exact tells_walk a b (by omega) (by omega) w hT

end Go.Proofs.YtopnagligeihgaaDoor
