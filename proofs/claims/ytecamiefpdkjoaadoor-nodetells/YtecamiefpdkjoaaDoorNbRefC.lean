/-
  What the document's own Pack returns, for every text: the same as Pack, as a struct.
-/
import Derived.Test.YtecamiefpdkjoaaDoorNbRefB
import Derived.Test.YtecamiefpdkjoaaDoorNbBackA
namespace Go.Proofs.YtecamiefpdkjoaaDoor
open Go.RowKit
set_option maxRecDepth 20000

theorem joinL_last (l : List UInt8) (m : Nat) (a : UInt8) (ha : l[2 * m]? = some a) (hl : l.length = 2 * m + 1) : joinL (l.take (2 * (m + 1))) = joinL (l.take (2 * m)) ++ [two a 0] := by
  have : l.take (2 * (m + 1)) = l.take (2 * m) ++ [a] := by
    rw [List.take_of_length_le (by omega)]
    have := List.take_add_one (l := l) (i := 2 * m)
    rw [ha, List.take_of_length_le (by omega)] at this
    exact this
  rw [this, joinL_append _ _ (by rw [List.length_take]; omega)]
  rfl

set_option maxHeartbeats 400000 in
theorem refPack_no (s : ByteArray) (hs : s.size ≤ 4000) (h : goodB (L s) = false) (w : World) :
    Calls Tryd.prog 31 #[.string s] w fun e w' => e = .returned (.agg #[.string (bs []), .bool false]) ∧ Below w.heap.size w w' := by
  have HG : Hid (goodB (L s) = false) := h
  clear h
  go_enter Tryd.func31, Tryd.ntmps31
  go_wp2_with fail
  refine (refGood_any s hs _).mono ?_
  rintro e w1 ⟨rfl, rfl⟩
  rw [HG.out]
  go_wp2_with fail
  exact bodyPost_ret (v := .agg #[.string (bs []), .bool false]) (by simp [results, Tryd.results31, go_sem]; rfl) rfl ⟨rfl, (Below.refl _ _).alloc (Nat.le_refl _) _⟩

/-- The row that is laid together: the number, and the bytes so far. -/
def rowL (l : List UInt8) (m : Nat) : List Value := cellsL (UInt8.ofNat l.length :: joinL (l.take (2 * m)))
theorem rowL_length (l : List UInt8) : (UInt8.ofNat l.length :: joinL (l.take (2 * ((l.length + 1) / 2)))) = packL l := by
  unfold packL
  rw [List.take_of_length_le (by omega)]

set_option maxHeartbeats 1000000 in
theorem refPack_yes (s : ByteArray) (h : goodB (L s) = true) (w : World) :
    Calls Tryd.prog 31 #[.string s] w fun e w' => e = .returned (.agg #[.string (bs (packL (L s))), .bool true]) ∧ Below w.heap.size w w' := by
  obtain ⟨i0, hi0, hz0, hz1, hz2⟩ := info_parts info5
  have HG : Hid (goodB (L s) = true) := h
  obtain ⟨h16, hh⟩ := goodB_parts h
  rw [L_size] at h16
  have HH : Hid (halvesB (L s) = true) := hh
  have hw8 : IntKind.u8.wrap (s.size : Int) = (s.size : Int) := by rw [IntKind.wrap_u8]; omega
  clear h hh
  go_enter Tryd.func31, Tryd.ntmps31
  go_wp2_with fail
  refine (refGood_any s (by omega) _).mono ?_
  rintro e w1 ⟨rfl, rfl⟩
  rw [HG.out]
  go_wp2_with fail
  go_loopw [3, 4] (fun v i wr => ∃ k m : Nat, k = 2 * m ∧ m ≤ (s.size + 1) / 2 ∧ i = .int .i64 k ∧
      wr.ownsRow (w.heap.size + 1) 5 1 v (m + 1) (rowL (L s) m) ∧ Below (w.heap.size + 1) (w.alloc (.cells #[.string ⟨#[]⟩, .bool false] 58)) wr) (fun _ i _ => s.size + 1 - (intOf i).toNat)
  case atStart =>
    refine ⟨0, 0, rfl, by omega, rfl, ?_, (Below.refl _ _).alloc (by simp) _⟩
    have := World.ownsRow_lit (base := w.heap.size + 1) (e := 5) (size := 1) (w.alloc (.cells #[.string ⟨#[]⟩, .bool false] 58)) #[.int .u8 (s.size : Int)] 1 (by simp) (by decide) rfl
    have e : rowL (L s) 0 = [.int .u8 (s.size : Int)] := by
      show [Value.int .u8 ((UInt8.ofNat (L s).length).toNat : Int)] = _
      rw [L_size, byte_of _ (by omega)]
    rw [e]
    simpa using this
  case round =>
    obtain ⟨k, m, hkm, hm, rfl, hown, hb⟩ := hrel
    have HM : Hid (k = 2 * m) := hkm
    obtain ⟨c0, c1, f0, f1, hbw, hB⟩ := boxed hb
    by_cases hlt : k < s.size
    · have hc : Hid ((L s)[k]? = some s[k]) := L_get s k hlt
      have hx16 : s[k].toNat < 16 := halvesB_get HH.out hc.out
      by_cases hlt2 : k + 1 < s.size
      · have hd1 : decide ((k : Int) + 1 < (s.size : Int)) = true := decide_eq_true (by omega)
        obtain ⟨q, hq⟩ : ∃ q, k + 1 = q := ⟨_, rfl⟩
        have hq1 : (k : Int) + 1 = (q : Int) := by omega
        have hqs : q < s.size := by omega
        have hd2 : Hid ((L s)[q]? = some s[q]) := L_get s q hqs
        have hy16 : s[q].toNat < 16 := halvesB_get HH.out hd2.out
        obtain ⟨t, ht2⟩ : ∃ t, (two s[k] s[q]).toNat = t := ⟨_, rfl⟩
        have hmul : IntKind.u8.wrap ((s[k].toNat : Int) * 16) = (s[k].toNat : Int) * 16 := by rw [IntKind.wrap_u8]; omega
        have hadd : IntKind.u8.wrap ((s[k].toNat : Int) * 16 + (s[q].toNat : Int)) = (t : Int) := by rw [IntKind.wrap_u8, ← ht2, two_nat]; omega
        have hadd2 : (s[k].toNat : Int) * 16 + (s[q].toNat : Int) = (t : Int) := by rw [← ht2, two_nat]; omega
        have HS : Hid (rowL (L s) m ++ [.int .u8 (t : Int)] = rowL (L s) (m + 1)) := by
          show _ = _
          unfold rowL
          rw [joinL_step (L s) m s[k] s[q] (by rw [← hkm]; exact hc.out) (by rw [← hkm, hq]; exact hd2.out), ← List.cons_append, cellsL_append, ← ht2]
          rfl
        clear ht2 hkm hq
        go_wp2_with (at_builtin; refine wpList_append_lies _ rfl _ _ 56 rfl (w.heap.size + 1) 5 i0 (.int .u8 0) 1 1 Tryd.underlying56 hi0 hz0 hz1 hz2 rfl (by decide) _ _ _ rfl (hown.alloc _) ⟨wr.heap.size, 0, none⟩ 1 1 [.int .u8 (t : Int)] rfl rfl (World.news_of_block (cs := #[.int .u8 (t : Int)]) (t := 5) (fr := (0, 0)) (heap_alloc_new wr _)) (by simp [Value.oneCell']) (by decide) (by unfold maxLen; omega) (by omega) (by simp; omega) (wr.heap.size + 1) (by simp) ?_)
        intro gg cap w2 hown1 hgrow _ _
        rw [HS.out] at hown1
        go_wp2_with fail
        exact ⟨⟨k + 2, m + 1, by have := HM.out; omega, by have := HM.out; omega, by go_num, hown1, (hb.alloc hB _).grown hgrow (by simp; omega) fun j hj => (hown.lt j hj).1⟩, by simp [intOf]; omega⟩
      · have hd1 : decide ((k : Int) + 1 < (s.size : Int)) = false := decide_eq_false (by omega)
        obtain ⟨t, ht2⟩ : ∃ t, (two s[k] 0).toNat = t := ⟨_, rfl⟩
        have hmul : IntKind.u8.wrap ((s[k].toNat : Int) * 16) = (t : Int) := by rw [IntKind.wrap_u8, ← ht2, two_zero]; omega
        have hmul2 : (s[k].toNat : Int) * 16 = (t : Int) := by rw [← ht2, two_zero]; omega
        have HS : Hid (rowL (L s) m ++ [.int .u8 (t : Int)] = rowL (L s) (m + 1)) := by
          show _ = _
          unfold rowL
          rw [joinL_last (L s) m s[k] (by rw [← hkm]; exact hc.out) (by rw [L_size]; omega), ← List.cons_append, cellsL_append, ← ht2]
          rfl
        clear ht2 hkm
        go_wp2_with (at_builtin; refine wpList_append_lies _ rfl _ _ 56 rfl (w.heap.size + 1) 5 i0 (.int .u8 0) 1 1 Tryd.underlying56 hi0 hz0 hz1 hz2 rfl (by decide) _ _ _ rfl (hown.alloc _) ⟨wr.heap.size, 0, none⟩ 1 1 [.int .u8 (t : Int)] rfl rfl (World.news_of_block (cs := #[.int .u8 (t : Int)]) (t := 5) (fr := (0, 0)) (heap_alloc_new wr _)) (by simp [Value.oneCell']) (by decide) (by unfold maxLen; omega) (by omega) (by simp; omega) (wr.heap.size + 1) (by simp) ?_)
        intro gg cap w2 hown1 hgrow _ _
        rw [HS.out] at hown1
        go_wp2_with fail
        exact ⟨⟨k + 2, m + 1, by have := HM.out; omega, by have := HM.out; omega, by go_num, hown1, (hb.alloc hB _).grown hgrow (by simp; omega) fun j hj => (hown.lt j hj).1⟩, by simp [intOf]; omega⟩
    · have hme : m = ((L s).length + 1) / 2 := by rw [L_size]; omega
      have hown2 : wr.ownsRow (w.heap.size + 1) 5 1 u3 (m + 1) (cellsL (packL (L s))) := by rw [← rowL_length, ← hme]; exact hown
      have hcv := conv_own (by rw [pack_length, ← hme]; omega) hown2
      clear hown2 hme
      clear hown
      go_wp2_with fail
      exact bodyPost_ret (v := .agg #[.string (bs (packL (L s))), .bool true]) (by simp [results, Tryd.results31, go_sem, c0, c1]) rfl ⟨rfl, (hbw.setCell (by simp) _).setCell (by simp) _⟩

theorem refPack_any (s : ByteArray) (hs : s.size ≤ 4000) (w : World) :
    Calls Tryd.prog 31 #[.string s] w fun e w' => e = .returned (.agg #[.string (if goodB (L s) then bs (packL (L s)) else bs []), .bool (goodB (L s))]) ∧ Below w.heap.size w w' := by
  cases h : goodB (L s)
  · exact refPack_no s hs h w
  · exact refPack_yes s h w

end Go.Proofs.YtecamiefpdkjoaaDoor
