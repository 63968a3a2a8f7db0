/-
  What Of returns: the halves of a text's bytes, the higher first, for every text. What join returns: halves laid together, two a byte, for every text, where the table of upper halves lies as its initialiser lays it. What Key, Pack and Unpack return, for every text, where the table of upper halves lies as its initialiser lays it. What Unpack returns, for every text. The order of halves, and of packed halves of one length: plain mathematics; and NibbleOrder's walk: whatever two texts, the call returns true, where the table of upper halves lies as its initialiser lays it. Packed halves unpack to themselves, whatever stands behind; what unpacks is the Pack of that: plain mathematics. Items, their texts in pieces, and back again, said of lists of bytes: plain mathematics. What the document's own Of, Common and Good return, for every text: the same. What the document's own Key returns, for every text: the same as Key, as a struct. What Hex and the document's own Hex tell: two digits a byte.
-/
import Derived.Test.YtecamiefpdkjoaaDoorGae
import Derived.OwnWalk
import Derived.Laws.BytesString
import Derived.Deep.RegionHeld3
import Derived.Deep.AppendLies
import Derived.Test.YtecamiefpdkjoaaDoorGaa
namespace Go.Proofs.YtecamiefpdkjoaaDoor
open Go.RowKit
set_option maxRecDepth 20000

theorem info5 : (Tryd.prog.info? 5).map (fun i => (i.zero, i.size, i.bytes)) = some (some (.int .u8 0), 1, 1) := by kernel_rfl

/-- The bytes as cells. -/
def cellsL (l : List UInt8) : List Value := l.map fun c => Value.int .u8 (c.toNat : Int)
theorem cellsL_append (l m : List UInt8) : cellsL (l ++ m) = cellsL l ++ cellsL m := by unfold cellsL; rw [List.map_append]
theorem cellsL_get {l : List UInt8} {j : Nat} {c : UInt8} (h : l[j]? = some c) : (cellsL l)[j]? = some (.int .u8 (c.toNat : Int)) := by
  unfold cellsL; rw [List.getElem?_map, h]; rfl
theorem cellsL_length (l : List UInt8) : (cellsL l).length = l.length := by unfold cellsL; simp
theorem conv_own {w : World} {B : Nat} {v : Value} {l : List UInt8} {n : Nat} (hn : l.length = n) (h : w.ownsRow B 5 1 v n (cellsL l)) :
    (convert 56 9 v).run Tryd.prog w = .ok (.string (bs l)) w := by
  subst hn
  rcases id h.2 with ⟨rfl, h0⟩ | ⟨g, cap, cur, rfl, _⟩
  · obtain rfl : l = [] := List.length_eq_zero_iff.1 h0
    rw [run_convert_bytes_string w 56 9 5 none 0 0 Tryd.underlying56 Tryd.underlying5 Tryd.underlying9]
    rfl
  · exact run_convert_bytes_back w 56 9 5 ⟨g, 0, none⟩ cap l Tryd.underlying56 Tryd.underlying5 Tryd.underlying9 (fun j hj => by
      refine h.cells (g := g) rfl j _ ?_
      exact cellsL_get (List.getElem?_eq_getElem hj))

theorem hi_form (c : UInt8) : (c.toNat : Int) / 16 = ((hi c).toNat : Int) := by rw [hi_nat]; omega
theorem lo_form (c : UInt8) : bits .and .u8 (c.toNat : Int) 15 = ((lo c).toNat : Int) := by rw [lo_nat]; exact and15 _ c.toNat_lt
theorem cells_step (l : List UInt8) (k : Nat) (c : UInt8) (h : l[k]? = some c) :
    cellsL (ofL (l.take k)) ++ [.int .u8 ((hi c).toNat : Int), .int .u8 ((lo c).toNat : Int)] = cellsL (ofL (l.take (k + 1))) := by
  rw [ofL_step l k c h, cellsL_append]; rfl
theorem grow_kept {w wr w1 : World} {v : Value} {k : Nat} {xs : List Value} {d : Obj} (hown : wr.ownsRow w.heap.size 5 1 v k xs) (hb : Below w.heap.size w wr) (hg : (wr.alloc d).drew.grownBy w1 v.ownBlock) : Below w.heap.size w w1 := by
  have hB := hb.size
  exact ((hb.alloc hB d).drew).grown hg (by simp; omega) fun j hj => (hown.lt j hj).1

set_option maxHeartbeats 1000000 in
theorem of_any (s : ByteArray) (hs : s.size ≤ 4000) (w : World) :
    Calls Tryd.prog 62 #[.string s] w fun e w' => e = .returned (.string (bs (ofL (L s)))) ∧ Kept w w' := by
  obtain ⟨i0, hi0, hz0, hz1, hz2⟩ := info_parts info5
  obtain ⟨w1, hmk, r1, r2⟩ := run_make_own (P := Tryd.prog) w w.heap.size 56 5 i0 _ 1 Tryd.underlying56 hi0 hz0 hz1 .i64 .i64 (2 * s.size) (by rw [hz2]; omega) (by unfold maxLen; omega) (Nat.le_refl _)
  rw [show ((2 * s.size : Nat) : Int) = 2 * (s.size : Int) by omega] at hmk
  have hb1 : Below w.heap.size w w1 := (Below.refl _ _).grown r2 (Nat.le_refl _) (fun _ h => by cases h)
  clear r2
  go_enter Tryd.func62, Tryd.ntmps62
  go_wp2_with fail
  clear hmk
  go_loopw [3, 11] (fun v i wr => ∃ k : Nat, k ≤ s.size ∧ i = .int .i64 k ∧ wr.ownsRow w.heap.size 5 1 v (2 * k) (cellsL (ofL ((L s).take k))) ∧ Below w.heap.size w wr) (fun _ i _ => s.size - (intOf i).toNat)
  case atStart => exact ⟨0, by omega, rfl, r1, hb1⟩
  case round =>
    clear r1 hb1
    obtain ⟨k, hk, rfl, hown, hb⟩ := hrel
    have hB := hb.size
    by_cases hlt : k < s.size
    · have hc := hi_form s[k]
      have hd := lo_form s[k]
      have HS : Hid (_ = _) := cells_step (L s) k s[k] (L_get s k hlt)
      go_wp2_with fail
      go_region_held3 (fun _ => True) (trivial)
        ((refine step_append_lies _ (by rfl) _ _ _ (by rfl) w.heap.size 5 i0 _ 1 1 Tryd.underlying56 hi0 hz0 hz1 hz2 rfl (by omega) u3 (2 * k) (cellsL (ofL ((L s).take k))) (by rfl) ((hown.alloc _).drew)
            ⟨wr.heap.size, 0, none⟩ 2 2 [.int .u8 ((hi s[k]).toNat : Int), .int .u8 ((lo s[k]).toNat : Int)] (by rfl) (by rfl) (World.news_of_block (cs := #[.int .u8 ((hi s[k]).toNat : Int), .int .u8 ((lo s[k]).toNat : Int)]) (t := 5) (fr := (0, 0)) (heap_alloc_new wr _)) (by simp [Value.oneCell'])
            (by omega) (by unfold maxLen; omega) (by omega) (by simp; omega) (wr.heap.size + 1) (by simp) ?_; intro gg cap w1 hown1 hgrow hat hlt1))
      go_wp2_with fail
      all_goals exact ⟨⟨k + 1, by omega, by go_num, HS.out ▸ hown1, grow_kept hown hb hgrow⟩, by simp [intOf]; omega⟩
    · obtain rfl : k = s.size := by omega
      have hcv := conv_own (by rw [ofL_length, List.length_take, L_size]; omega) hown
      rw [← L_size, List.take_length] at hcv
      clear hown
      go_wp2_with fail
      go_ret
      exact ⟨rfl, Kept.below hb⟩

end Go.Proofs.YtecamiefpdkjoaaDoor
namespace Go.Proofs.YtecamiefpdkjoaaDoor
open Go.RowKit
set_option maxRecDepth 20000

/-- The table of upper halves lies in the third block. -/
def Tab (w : World) : Prop := 2 < w.heap.size ∧ ∀ i : Nat, i < 16 → w.cell? ⟨2, i, none⟩ = some (.int .u8 ((i * 16 : Nat) : Int))
theorem Tab.kept {w w' : World} (h : Tab w) (k : Kept w w') : Tab w' := ⟨Nat.lt_of_lt_of_le h.1 k.size, fun i hi => (k.cell h.1).trans (h.2 i hi)⟩
theorem made_zero (l : List UInt8) (J : Nat) : (madeCells (Value.int .u8 0).cells (J * 1)).toList = cellsL (padL l 0 J) := by
  rw [padL_none]
  unfold cellsL madeCells
  rw [List.map_replicate, Array.toList_map, Array.toList_range, Nat.mul_one, List.eq_replicate_iff]
  refine ⟨by simp, fun b hb => ?_⟩
  obtain ⟨j, _, rfl⟩ := List.mem_map.1 hb
  show (#[Value.int .u8 0] : Array Value)[j % 1]! = _
  rw [Nat.mod_one]; rfl

set_option maxHeartbeats 1000000 in
theorem join_any (s : ByteArray) (hs : s.size ≤ 4000) (w : World) (hT : Tab w) :
    Calls Tryd.prog 55 #[.string s] w fun e w' => e = .returned (.string (bs (joinL (L s)))) ∧ Kept w w' := by
  obtain ⟨i0, hi0, hz0, hz1, hz2⟩ := info_parts info5
  obtain ⟨J, hJ⟩ : ∃ J, (s.size + 1) / 2 = J := ⟨_, rfl⟩
  obtain ⟨w1, hmk, r1, r2⟩ := run_make_full (P := Tryd.prog) w w.heap.size 56 5 i0 _ 1 Tryd.underlying56 hi0 hz0 hz1 .i64 .i64 J (by rw [hz2]; omega) (by unfold maxLen; omega) (Nat.le_refl _)
  have hb1 : Below w.heap.size w w1 := (Below.refl _ _).grown r2 (Nat.le_refl _) (fun _ h => by cases h)
  clear r2
  have HJ : Hid ((s.size + 1) / 2 = J) := hJ
  go_enter Tryd.func55, Tryd.ntmps55
  go_wp2_with fail
  refine (joinedSize_any _ hs _).mono ?_
  rintro e w' ⟨rfl, rfl⟩
  rw [hJ]
  clear hJ
  go_wp2_with fail
  clear hmk
  go_loopw [12] (fun i wr => ∃ k : Nat, k ≤ s.size ∧ i = .int .i64 k ∧ wr.ownsRow w'.heap.size 5 1 (.slice (some ⟨w'.heap.size, 0, none⟩) J J) J (cellsL (padL (L s) k J)) ∧ Below w'.heap.size w' wr) (fun i _ => s.size - (intOf i).toNat)
  case atStart => exact ⟨0, by omega, rfl, by rw [made_zero (L s)] at r1; exact r1, hb1⟩
  case round =>
    clear r1 hb1
    obtain ⟨k, hk, rfl, hown, hb⟩ := hrel
    have hB := hb.size
    by_cases hlt : k < s.size
    · have HS : Hid ((L s)[k]? = some s[k]) := L_get s k hlt
      obtain ⟨y, hy⟩ : ∃ y, (lo s[k]).toNat = y := ⟨_, rfl⟩
      have hd := lo_form s[k]
      rw [hy] at hd
      have HY : Hid (s[k].toNat % 16 = y) := (lo_nat s[k]).symm.trans hy
      have hy16 : y < 16 := by have := HY.out; omega
      have hy0 : (0 : Int) ≤ (y : Int) := Int.natCast_nonneg _
      have hy1 : (y : Int) < 16 := by omega
      clear hy
      obtain ⟨m, hm⟩ : ∃ m, k / 2 = m := ⟨_, rfl⟩
      have HM : Hid (k / 2 = m) := hm
      have hq : (k : Int) / 2 = (m : Int) := by omega
      have hj : m < J := by have := HJ.out; omega
      have hj0 : (0 : Int) ≤ (m : Int) := Int.natCast_nonneg _
      have hj1 : (m : Int) < (J : Int) := by omega
      clear hm
      have hfz : wr.frozen? ⟨w'.heap.size, m, none⟩ = false := hown.frozenAt m
      by_cases ho : k % 2 = 1
      · have hk1 : k - 1 < s.size := by omega
        have HB : Hid ((L s)[k - 1]? = some s[k - 1]) := L_get s (k - 1) hk1
        obtain ⟨z, hz⟩ : ∃ z, (two s[k - 1] 0).toNat = z := ⟨_, rfl⟩
        obtain ⟨q, hqq⟩ : ∃ q, (two s[k - 1] s[k]).toNat = q := ⟨_, rfl⟩
        have hcell : wr.cell? ⟨w'.heap.size, m, none⟩ = some (.int .u8 (z : Int)) := by
          rw [hown.cellAt m (by omega), cellsL_get (c := two s[k - 1] 0), hz]
          rw [← HM.out]
          exact padL_now _ _ _ _ ho HB.out (by rw [HM.out]; exact hj)
        have hor : bits .or .u8 (z : Int) (y : Int) = (q : Int) := by
          rw [← hz, ← hqq, two_zero, two_nat, HY.out]
          exact or_halves _ (by omega) _ hy16
        have HP : Hid ((cellsL (padL (L s) k J)).set m (.int .u8 (q : Int)) = cellsL (padL (L s) (k + 1) J)) := by
          show _ = _
          rw [← padL_odd (L s) k J s[k - 1] s[k] ho HB.out HS.out (by rw [HM.out]; exact hj), HM.out]
          unfold cellsL
          rw [List.map_set, hqq]
        have HO : Hid (k % 2 = 1) := ho
        clear hz hqq ho
        go_wp2_with fail
        refine (isOdd_any _ _).mono ?_
        rintro e w2 ⟨rfl, rfl⟩
        rw [show oddB k = true from decide_eq_true HO.out]
        go_wp2_with fail
        all_goals exact ⟨⟨k + 1, by omega, by go_num, HP.out ▸ (hown.stored m _).1, hb.setCell (Nat.le_refl _) _⟩, by simp [intOf]; omega⟩
      · obtain ⟨t, ht⟩ : ∃ t, y * 16 = t := ⟨_, rfl⟩
        have hcell : wr.cell? ⟨2, y, none⟩ = some (.int .u8 (t : Int)) := by
          rw [hb.cell (p := ⟨2, y, none⟩) hT.1, hT.2 y hy16, ht]
        obtain ⟨u0, hu0⟩ : ∃ u, wr.cell? ⟨w'.heap.size, m, none⟩ = some u :=
          ⟨_, (hown.cellAt m (by omega)).trans (cellsL_get (padL_get _ _ _ _ hj))⟩
        have HP : Hid ((cellsL (padL (L s) k J)).set m (.int .u8 (t : Int)) = cellsL (padL (L s) (k + 1) J)) := by
          show _ = _
          rw [← padL_even (L s) k J s[k] (by omega) HS.out (by rw [HM.out]; exact hj), HM.out]
          unfold cellsL
          rw [List.map_set, two_zero, HY.out, ht]
        have HO : Hid (¬ k % 2 = 1) := ho
        clear ht ho
        go_wp2_with fail
        refine (isOdd_any _ _).mono ?_
        rintro e w2 ⟨rfl, rfl⟩
        rw [show oddB k = false from decide_eq_false HO.out]
        go_wp2_with fail
        all_goals exact ⟨⟨k + 1, by omega, by go_num, HP.out ▸ (hown.stored m _).1, hb.setCell (Nat.le_refl _) _⟩, by simp [intOf]; omega⟩
    · obtain rfl : k = s.size := by omega
      have hcv := conv_own (padL_length _ _ _) hown
      have HF : Hid (padL (L s) s.size J = joinL (L s)) := by
        show _ = _
        rw [← padL_full, L_size, HJ.out]
      rw [HF.out] at hcv
      clear hown
      go_wp2_with fail
      go_ret
      exact ⟨rfl, Kept.below hb⟩

end Go.Proofs.YtecamiefpdkjoaaDoor
namespace Go.Proofs.YtecamiefpdkjoaaDoor
open Go.RowKit
set_option maxRecDepth 20000

def keyB (l : List UInt8) : Bool := !oddB l.length && halvesB l

set_option maxHeartbeats 400000 in
theorem pack_no (s : ByteArray) (hs : s.size ≤ 4000) (h : goodB (L s) = false) (w : World) :
    Calls Tryd.prog 38 #[.string s] w fun e w' => e = .returned (.tuple #[.string (bs []), .bool false]) ∧ Kept w w' := by
  have hh : Hid (goodB (L s) = false) := h
  clear h
  go_enter Tryd.func38, Tryd.ntmps38
  go_wp2_with fail
  refine (good_any s hs _).mono ?_
  rintro e w' ⟨rfl, rfl⟩
  rw [hh.out]
  go_wp2_with fail
  go_ret2
  exact ⟨rfl, Kept.refl _⟩

def packL (l : List UInt8) : List UInt8 := UInt8.ofNat l.length :: joinL l

set_option maxHeartbeats 1000000 in
theorem pack_yes (s : ByteArray) (hs : s.size ≤ 4000) (h : goodB (L s) = true) (w : World) (hT : Tab w) :
    Calls Tryd.prog 38 #[.string s] w fun e w' => e = .returned (.tuple #[.string (bs (packL (L s))), .bool true]) ∧ Kept w w' := by
  have hh : Hid (goodB (L s) = true) := h
  have h16 : s.size ≤ 16 := by
    unfold goodB at h
    rw [Bool.and_eq_true, decide_eq_true_eq, L_size] at h
    exact h.1
  clear h
  go_enter Tryd.func38, Tryd.ntmps38
  go_wp2_with fail
  refine (good_any s hs _).mono ?_
  rintro e w' ⟨rfl, rfl⟩
  rw [hh.out]
  go_wp2_with fail
  have hw8 : IntKind.u8.wrap (s.size : Int) = (s.size : Int) := by rw [IntKind.wrap_u8]; omega
  have hcv : ∀ (w : World) (b : Nat), w.cell? ⟨b, 0, none⟩ = some (.int .u8 (s.size : Int)) → (convert 56 9 (.slice (some ⟨b, 0, none⟩) 1 1)).run Tryd.prog w = .ok (.string (bs [UInt8.ofNat s.size])) w := by
    intro w b hc
    have := run_convert_bytes_back w 56 9 5 ⟨b, 0, none⟩ 1 [UInt8.ofNat s.size] Tryd.underlying56 Tryd.underlying5 Tryd.underlying9 (fun j hj => by
      simp at hj
      subst hj
      simp [Addr.add, hc]
      omega)
    exact this
  have hsz1 : (bs [UInt8.ofNat s.size]).size ≤ 1 := Nat.le_refl _
  have hsz2 : (bs (joinL (L s))).size ≤ 8 := by rw [bs_size, joinL_length, L_size]; omega
  have HE : Hid (bs [UInt8.ofNat s.size] ++ bs (joinL (L s)) = bs (packL (L s))) := eq_of_L (by rw [L_append, L_bs, L_bs, L_bs]; unfold packL; rw [L_size]; rfl)
  go_region_with (go_at_call 55; refine (join_any s hs _ (hT.kept (by first | exact Kept.refl _ | exact (Kept.refl _).drewR | exact ((Kept.refl _).allocR _) | exact ((Kept.refl _).allocR _).drewR | exact ((Kept.refl _).allocR _).drewR.drewR))).mono ?_; rintro e w3 ⟨rfl, g⟩; (first | (have hcell : w3.cell? ⟨w'.heap.size, 0, none⟩ = some (.int .u8 (s.size : Int)) := by (refine (Kept.cell g ?_).trans ?_; all_goals (simp; done))) | skip))
  all_goals go_wp2_with fail
  all_goals go_ret2
  all_goals rw [HE.out]
  all_goals refine ⟨rfl, ?_⟩
  · exact (((Kept.refl _).allocR _).drewR).trans g
  · exact (((Kept.refl _).allocR _).drewR).trans g
  · exact (((Kept.refl _).drewR).trans g).allocR _

end Go.Proofs.YtecamiefpdkjoaaDoor
namespace Go.Proofs.YtecamiefpdkjoaaDoor
open Go.RowKit
set_option maxRecDepth 20000

/-- Of a first byte and the rest: is it a Pack's beginning; the halves; how many bytes. -/
def headB (c : UInt8) (r : List UInt8) : Bool := decide (c.toNat ≤ 16) && decide ((c.toNat + 1) / 2 ≤ r.length)
def lastB (c : UInt8) (r : List UInt8) : Bool := !oddB c.toNat || decide (((ofL (r.take ((c.toNat + 1) / 2))).getD c.toNat 0).toNat = 0)
def unpackB : List UInt8 → Bool
  | [] => false
  | c :: r => headB c r && lastB c r
def unN : List UInt8 → List UInt8
  | [] => []
  | c :: r => (ofL (r.take ((c.toNat + 1) / 2))).take c.toNat
def unUsed : List UInt8 → Nat
  | [] => 0
  | c :: _ => 1 + (c.toNat + 1) / 2

set_option maxHeartbeats 400000 in
theorem unpack_empty (s : ByteArray) (h : L s = []) (w : World) :
    Calls Tryd.prog 46 #[.string s] w fun e w' => e = .returned (.tuple #[.string (bs []), .int .i64 0, .bool false]) ∧ Kept w w' := by
  have he : s.toList.isEmpty = true := by rw [toList_L, h]; rfl
  clear h
  go_enter Tryd.func46, Tryd.ntmps46
  go_wp2_with fail
  go_ret3
  exact ⟨rfl, Kept.refl _⟩

theorem head_parts (s : ByteArray) (c : UInt8) (r : List UInt8) (h : L s = c :: r) : s.size = r.length + 1 ∧ (s.toList == []) = false ∧ ∃ h0 : 0 < s.size, s[0] = c := by
  have hlen : s.size = r.length + 1 := by rw [← L_size, h]; rfl
  refine ⟨hlen, by rw [toList_L, h]; rfl, by omega, ?_⟩
  have := L_get s 0 (by omega)
  rw [h] at this
  simpa using this.symm

set_option maxHeartbeats 1000000 in
theorem unpack_head (s : ByteArray) (c : UInt8) (r : List UInt8) (h : L s = c :: r) (hh : headB c r = false) (w : World) :
    Calls Tryd.prog 46 #[.string s] w fun e w' => e = .returned (.tuple #[.string (bs []), .int .i64 0, .bool false]) ∧ Kept w w' := by
  obtain ⟨hlen, hne, h0, hc⟩ := head_parts s c r h
  unfold headB at hh
  clear h
  have hcl := c.toNat_lt
  obtain ⟨n, hn⟩ : ∃ n, c.toNat = n := ⟨_, rfl⟩
  obtain ⟨J, hJ⟩ : ∃ J, (n + 1) / 2 = J := ⟨_, rfl⟩
  rw [hn, hJ] at hh
  rw [hn] at hcl
  by_cases h16 : n ≤ 16
  · have hJr : ¬ J ≤ r.length := by
      intro h
      rw [decide_eq_true h16, decide_eq_true h] at hh
      cases hh
    have hJ8 : J ≤ 8 := by omega
    have hd1 : decide ((16 : Int) < (n : Int)) = false := decide_eq_false (by omega)
    have hd2 : decide ((s.size : Int) < 1 + (J : Int)) = true := decide_eq_true (by omega)
    clear hh hlen hJr
    go_enter Tryd.func46, Tryd.ntmps46
    go_wp2_with fail
    refine (joinedSize_any _ (by omega) _).mono ?_
    rintro e w' ⟨rfl, rfl⟩
    rw [hJ]
    clear hJ
    go_wp2_with fail
    go_ret3
    exact ⟨rfl, Kept.refl _⟩
  · have hJ8 : J ≤ 128 := by omega
    have hd1 : decide ((16 : Int) < (n : Int)) = true := decide_eq_true (by omega)
    clear hh hlen
    go_enter Tryd.func46, Tryd.ntmps46
    go_wp2_with fail
    refine (joinedSize_any _ (by omega) _).mono ?_
    rintro e w' ⟨rfl, rfl⟩
    rw [hJ]
    clear hJ
    go_wp2_with fail
    go_ret3
    exact ⟨rfl, Kept.refl _⟩

set_option maxHeartbeats 1000000 in
theorem unpack_odd (s : ByteArray) (hs : s.size ≤ 4000) (c : UInt8) (r : List UInt8) (h : L s = c :: r) (hh : headB c r = true) (ho : oddB c.toNat = true) (z : Bool) (hz : ((((ofL (r.take ((c.toNat + 1) / 2))).getD c.toNat 0).toNat : Int) != 0) = z) (w : World) :
    Calls Tryd.prog 46 #[.string s] w fun e w' => e = .returned (.tuple #[.string (if z then bs [] else bs (unN (c :: r))), .int .i64 (if z then 0 else (unUsed (c :: r) : Nat)), .bool !z]) ∧ Kept w w' := by
  obtain ⟨hlen, hne, h0, hc⟩ := head_parts s c r h
  unfold headB at hh
  have H : Hid (L s = c :: r) := h
  clear h
  have hcl := c.toNat_lt
  obtain ⟨n, hn⟩ : ∃ n, c.toNat = n := ⟨_, rfl⟩
  obtain ⟨J, hJ⟩ : ∃ J, (n + 1) / 2 = J := ⟨_, rfl⟩
  rw [hn, hJ] at hh
  rw [hn] at hcl ho
  rw [Bool.and_eq_true, decide_eq_true_eq, decide_eq_true_eq] at hh
  obtain ⟨h16, hJr⟩ := hh
  have hJs : 1 + J ≤ s.size := by omega
  have hJ8 : J ≤ 8 := by omega
  have hd1 : decide ((16 : Int) < (n : Int)) = false := decide_eq_false (by omega)
  have hd2 : decide ((s.size : Int) < 1 + (J : Int)) = false := decide_eq_false (by omega)
  have HX : Hid (L (s.extract 1 (1 + J)) = r.take J) := by
    show _ = _
    rw [L_extract, H.out, Nat.add_comm, List.take_succ_cons]; rfl
  clear hlen
  go_enter Tryd.func46, Tryd.ntmps46
  go_wp2_with fail
  refine (joinedSize_any _ (by omega) _).mono ?_
  rintro e w' ⟨rfl, rfl⟩
  rw [hJ]
  go_wp2_with fail
  refine (of_any _ (by rw [← L_size, L_extract, List.length_drop, List.length_take, L_size]; omega) _).mono ?_
  rintro e w2 ⟨rfl, g⟩
  rw [HX.out]
  have hA : (bs (ofL (r.take J))).size = 2 * J := by rw [bs_size, ofL_length, List.length_take]; omega
  have HR : Hid (bs (unN (c :: r)) = (bs (ofL (r.take J))).extract 0 n ∧ unUsed (c :: r) = 1 + J) := by
    refine ⟨eq_of_L ?_, ?_⟩
    · rw [L_extract, L_bs, L_bs, List.drop_zero]
      show (ofL (r.take ((c.toNat + 1) / 2))).take c.toNat = _
      rw [hn, hJ]
    · show 1 + (c.toNat + 1) / 2 = _
      rw [hn, hJ]
  have hN : n < (bs (ofL (r.take J))).size := by rw [hA]; have := of_decide_eq_true ho; omega
  have hlast : (((bs (ofL (r.take J)))[n].toNat : Int) != 0) = z := by
    rw [hn, hJ] at hz
    have hg : (ofL (r.take J)).getD n 0 = (bs (ofL (r.take J)))[n] := getD_of (L_get _ n hN)
    rw [← hz, hg]
  clear hz
  generalize bs (ofL (r.take J)) = a at *
  clear hJ
  go_wp2_with fail
  refine (isOdd_any _ _).mono ?_
  rintro e w3 ⟨rfl, rfl⟩
  rw [ho]
  cases z
  · go_wp2_with fail
    go_ret3
    rw [HR.out.1, HR.out.2]
    exact ⟨by go_num, g⟩
  · go_wp2_with fail
    go_ret3
    exact ⟨rfl, g⟩

set_option maxHeartbeats 1000000 in
theorem unpack_even (s : ByteArray) (hs : s.size ≤ 4000) (c : UInt8) (r : List UInt8) (h : L s = c :: r) (hh : headB c r = true) (ho : oddB c.toNat = false) (w : World) :
    Calls Tryd.prog 46 #[.string s] w fun e w' => e = .returned (.tuple #[.string (bs (unN (c :: r))), .int .i64 (unUsed (c :: r) : Nat), .bool true]) ∧ Kept w w' := by
  obtain ⟨hlen, hne, h0, hc⟩ := head_parts s c r h
  unfold headB at hh
  have H : Hid (L s = c :: r) := h
  clear h
  have hcl := c.toNat_lt
  obtain ⟨n, hn⟩ : ∃ n, c.toNat = n := ⟨_, rfl⟩
  obtain ⟨J, hJ⟩ : ∃ J, (n + 1) / 2 = J := ⟨_, rfl⟩
  rw [hn, hJ] at hh
  rw [hn] at hcl ho
  rw [Bool.and_eq_true, decide_eq_true_eq, decide_eq_true_eq] at hh
  obtain ⟨h16, hJr⟩ := hh
  have hJs : 1 + J ≤ s.size := by omega
  have hJ8 : J ≤ 8 := by omega
  have hd1 : decide ((16 : Int) < (n : Int)) = false := decide_eq_false (by omega)
  have hd2 : decide ((s.size : Int) < 1 + (J : Int)) = false := decide_eq_false (by omega)
  have HX : Hid (L (s.extract 1 (1 + J)) = r.take J) := by
    show _ = _
    rw [L_extract, H.out, Nat.add_comm, List.take_succ_cons]; rfl
  clear hlen
  go_enter Tryd.func46, Tryd.ntmps46
  go_wp2_with fail
  refine (joinedSize_any _ (by omega) _).mono ?_
  rintro e w' ⟨rfl, rfl⟩
  rw [hJ]
  go_wp2_with fail
  refine (of_any _ (by rw [← L_size, L_extract, List.length_drop, List.length_take, L_size]; omega) _).mono ?_
  rintro e w2 ⟨rfl, g⟩
  rw [HX.out]
  have hA : (bs (ofL (r.take J))).size = 2 * J := by rw [bs_size, ofL_length, List.length_take]; omega
  have HR : Hid (bs (unN (c :: r)) = (bs (ofL (r.take J))).extract 0 n ∧ unUsed (c :: r) = 1 + J) := by
    refine ⟨eq_of_L ?_, ?_⟩
    · rw [L_extract, L_bs, L_bs, List.drop_zero]
      show (ofL (r.take ((c.toNat + 1) / 2))).take c.toNat = _
      rw [hn, hJ]
    · show 1 + (c.toNat + 1) / 2 = _
      rw [hn, hJ]
  have hN : n ≤ (bs (ofL (r.take J))).size := by rw [hA]; omega
  generalize bs (ofL (r.take J)) = a at *
  clear hJ
  go_wp2_with fail
  refine (isOdd_any _ _).mono ?_
  rintro e w3 ⟨rfl, rfl⟩
  rw [ho]
  go_wp2_with fail
  go_ret3
  rw [HR.out.1, HR.out.2]
  exact ⟨by go_num, g⟩

theorem unpack_no (s : ByteArray) (hs : s.size ≤ 4000) (h : unpackB (L s) = false) (w : World) :
    Calls Tryd.prog 46 #[.string s] w fun e w' => e = .returned (.tuple #[.string (bs []), .int .i64 0, .bool false]) ∧ Kept w w' := by
  cases hl : L s with
  | nil => exact unpack_empty s hl w
  | cons c r =>
    rw [hl] at h
    have h' : (headB c r && lastB c r) = false := h
    cases hh : headB c r with
    | false => exact unpack_head s c r hl hh w
    | true =>
      rw [hh, Bool.true_and] at h'
      unfold lastB at h'
      rw [Bool.or_eq_false_iff] at h'
      have ho : oddB c.toNat = true := by simpa using h'.1
      exact unpack_odd s hs c r hl hh ho true (by rw [bne_iff_ne]; have := of_decide_eq_false h'.2; omega) w

theorem unpack_yes (s : ByteArray) (hs : s.size ≤ 4000) (h : unpackB (L s) = true) (w : World) :
    Calls Tryd.prog 46 #[.string s] w fun e w' => e = .returned (.tuple #[.string (bs (unN (L s))), .int .i64 (unUsed (L s) : Nat), .bool true]) ∧ Kept w w' := by
  cases hl : L s with
  | nil => rw [hl] at h; cases h
  | cons c r =>
    rw [hl] at h
    have h' : (headB c r && lastB c r) = true := h
    rw [Bool.and_eq_true] at h'
    cases ho : oddB c.toNat with
    | false => exact unpack_even s hs c r hl h'.1 ho w
    | true =>
      have h2 := h'.2
      unfold lastB at h2
      rw [ho, Bool.not_true, Bool.false_or, decide_eq_true_eq] at h2
      exact unpack_odd s hs c r hl h'.1 ho false (by rw [h2]; rfl) w

end Go.Proofs.YtecamiefpdkjoaaDoor
namespace Go.Proofs.YtecamiefpdkjoaaDoor
open Go.RowKit
set_option maxRecDepth 20000

theorem goodB_parts {l : List UInt8} (h : goodB l = true) : l.length ≤ 16 ∧ halvesB l = true := by
  unfold goodB at h
  rw [Bool.and_eq_true, decide_eq_true_eq] at h
  exact h
theorem pack_any (s : ByteArray) (hs : s.size ≤ 4000) (w : World) (hT : Tab w) :
    Calls Tryd.prog 38 #[.string s] w fun e w' => e = .returned (.tuple #[.string (if goodB (L s) then bs (packL (L s)) else bs []), .bool (goodB (L s))]) ∧ Kept w w' := by
  cases h : goodB (L s)
  · exact pack_no s hs h w
  · exact pack_yes s hs h w hT

end Go.Proofs.YtecamiefpdkjoaaDoor
namespace Go.Proofs.YtecamiefpdkjoaaDoor
open Go.RowKit
set_option maxRecDepth 20000

theorem keyB_of (l : List UInt8) : keyB (ofL l) = true := by
  unfold keyB oddB
  rw [halvesB_of, ofL_length, decide_eq_false (by omega)]; rfl
theorem join_odd (x : List UInt8) : x ≠ [] → ((ofL x).getD (2 * x.length - 1) 0).toNat = 0 → joinL ((ofL x).take (2 * x.length - 1)) = x := by
  induction x with
  | nil => intro h; exact absurd rfl h
  | cons c l ih =>
    intro _ h
    cases l with
    | nil =>
      have h' : (lo c).toNat = 0 := h
      show [two (hi c) 0] = [c]
      have e : lo c = 0 := UInt8.toNat_inj.1 h'
      rw [← e, two_hi_lo]
    | cons d l =>
      have e : 2 * (c :: d :: l).length - 1 = (2 * (d :: l).length - 1) + 1 + 1 := by simp only [List.length_cons]; omega
      rw [e] at h ⊢
      have h' : ((ofL (d :: l)).getD (2 * (d :: l).length - 1) 0).toNat = 0 := h
      have := ih (by simp) h'
      show two (hi c) (lo c) :: joinL ((ofL (d :: l)).take (2 * (d :: l).length - 1)) = _
      rw [this, two_hi_lo]
theorem pack_head (n : List UInt8) (h : goodB n = true) : (UInt8.ofNat n.length).toNat = n.length := byte_of _ (by have := (goodB_parts h).1; omega)
theorem pack_length (n : List UInt8) : (packL n).length = 1 + (n.length + 1) / 2 := by unfold packL; rw [List.length_cons, joinL_length]; omega

theorem unpack_pack (n m : List UInt8) (h : goodB n = true) : unpackB (packL n ++ m) = true ∧ unN (packL n ++ m) = n ∧ unUsed (packL n ++ m) = (packL n).length := by
  have hp := goodB_parts h
  have hc := pack_head n h
  have ht : (joinL n ++ m).take ((n.length + 1) / 2) = joinL n := by
    rw [← joinL_length, List.take_left]
  have e : packL n ++ m = UInt8.ofNat n.length :: (joinL n ++ m) := rfl
  rw [e]
  refine ⟨?_, ?_, ?_⟩
  · show (headB _ _ && lastB _ _) = true
    unfold headB lastB
    rw [hc, ht, of_join n hp.2, decide_eq_true hp.1, decide_eq_true (by rw [List.length_append, joinL_length]; omega), Bool.true_and, Bool.true_and]
    by_cases ho : n.length % 2 = 1
    · rw [if_pos ho]
      have : (n ++ [0]).getD n.length 0 = (0 : UInt8) := by
        rw [List.getD_eq_getElem?_getD, List.getElem?_append_right (Nat.le_refl _), Nat.sub_self]; rfl
      rw [this]
      simp
    · unfold oddB; rw [decide_eq_false ho]; rfl
  · show (ofL ((joinL n ++ m).take (((UInt8.ofNat n.length).toNat + 1) / 2))).take (UInt8.ofNat n.length).toNat = n
    rw [hc, ht, of_join n hp.2]
    split
    · rw [List.take_left]
    · rw [List.take_length]
  · show 1 + ((UInt8.ofNat n.length).toNat + 1) / 2 = _
    rw [hc, pack_length]

theorem halvesB_take {l : List UInt8} (h : halvesB l = true) (k : Nat) : halvesB (l.take k) = true := by
  refine halvesB_good fun j c hj => ?_
  rw [List.getElem?_take] at hj
  split at hj
  · exact halvesB_get h hj
  · cases hj

theorem pack_unpack (l : List UInt8) (h : unpackB l = true) : goodB (unN l) = true ∧ packL (unN l) = l.take (unUsed l) ∧ 1 ≤ unUsed l ∧ unUsed l ≤ l.length := by
  cases l with
  | nil => cases h
  | cons c r =>
    have h' : (headB c r && lastB c r) = true := h
    unfold headB lastB at h'
    rw [Bool.and_eq_true, Bool.and_eq_true, decide_eq_true_eq, decide_eq_true_eq] at h'
    obtain ⟨⟨h16, hJ⟩, hl⟩ := h'
    have hlen : (unN (c :: r)).length = c.toNat := by
      show ((ofL (r.take ((c.toNat + 1) / 2))).take c.toNat).length = _
      rw [List.length_take, ofL_length, List.length_take]; omega
    have hj : joinL (unN (c :: r)) = r.take ((c.toNat + 1) / 2) := by
      show joinL ((ofL (r.take ((c.toNat + 1) / 2))).take c.toNat) = _
      by_cases ho : c.toNat % 2 = 1
      · have hx : (r.take ((c.toNat + 1) / 2)).length = (c.toNat + 1) / 2 := by rw [List.length_take]; omega
        have e : c.toNat = 2 * (r.take ((c.toNat + 1) / 2)).length - 1 := by rw [hx]; omega
        unfold oddB at hl
        rw [decide_eq_true ho, Bool.not_true, Bool.false_or, decide_eq_true_eq] at hl
        generalize hxx : r.take ((c.toNat + 1) / 2) = x at *
        rw [e]
        rw [e] at hl
        refine join_odd x ?_ hl
        intro h0
        rw [h0] at e
        simp at e
        omega
      · rw [List.take_of_length_le (by rw [ofL_length, List.length_take]; omega), join_of]
    refine ⟨?_, ?_, ?_, ?_⟩
    · unfold goodB
      rw [hlen, decide_eq_true h16, Bool.true_and]
      exact halvesB_take (halvesB_of _) _
    · unfold packL
      rw [hlen, hj]
      show UInt8.ofNat c.toNat :: _ = (c :: r).take (1 + (c.toNat + 1) / 2)
      rw [Nat.add_comm 1, List.take_succ_cons, UInt8.ofNat_toNat]
    · show 1 ≤ 1 + _; omega
    · show 1 + (c.toNat + 1) / 2 ≤ r.length + 1; omega

end Go.Proofs.YtecamiefpdkjoaaDoor
namespace Go.Proofs.YtecamiefpdkjoaaDoor

/-- An Item: kind, path, has, value, mask, hashes. -/
structure It where
  k : Int
  p : List UInt8
  has : Bool
  v : List UInt8
  m : Int
  hs : List (List UInt8)

/-- How many of the first bits of a number are set. -/
def popT (m : Nat) : Nat → Nat
  | 0 => 0
  | k + 1 => popT m k + m / 2 ^ k % 2
def popN (m : Nat) : Nat := popT m 16
theorem popT_le (m k : Nat) : popT m k ≤ k := by
  induction k with
  | zero => exact Nat.le_refl _
  | succ k ih => show popT m k + m / 2 ^ k % 2 ≤ k + 1; omega
theorem popN_le (m : Nat) : popN m ≤ 16 := popT_le m 16

def emptyB (l : List UInt8) : Bool := decide (l.length = 0)
theorem emptyB_true {l : List UInt8} : emptyB l = true ↔ l = [] := by unfold emptyB; rw [decide_eq_true_eq, List.length_eq_zero_iff]
theorem emptyB_false {l : List UInt8} : emptyB l = false ↔ l ≠ [] := by unfold emptyB; rw [decide_eq_false_iff_not, List.length_eq_zero_iff]
def goodV (I : It) : Bool := decide (I.v.length ≤ 16) && (I.has || emptyB I.v)
def goodH (hs : List (List UInt8)) (n : Nat) : Bool := decide (hs.length = n) && hs.all fun h => decide (h.length = 32)
def leadsN (I : It) : Nat := popN I.m.toNat + if I.has then 1 else 0
def goodLf (I : It) : Bool := goodB I.p && (I.has && (goodV I && (decide (I.m = 0) && decide (I.hs.length = 0))))
def goodEx (I : It) : Bool := !emptyB I.p && (goodB I.p && (!I.has && (emptyB I.v && (decide (I.m = 1) && goodH I.hs 1))))
def goodBr (I : It) : Bool := emptyB I.p && (decide (0 ≤ I.m) && (decide (I.m ≤ 65535) && (goodV I && (decide (2 ≤ leadsN I) && goodH I.hs (popN I.m.toNat)))))
def goodI (I : It) : Bool := if I.k = 1 then goodLf I else if I.k = 2 then goodEx I else if I.k = 3 then goodBr I else false

theorem goodH_iff {hs : List (List UInt8)} {n : Nat} : goodH hs n = true ↔ hs.length = n ∧ ∀ h ∈ hs, h.length = 32 := by
  unfold goodH; simp
inductive GoodI : It → Prop
  | leaf (p v : List UInt8) (hp : goodB p = true) (hv : v.length ≤ 16) : GoodI ⟨1, p, true, v, 0, []⟩
  | ext (p h : List UInt8) (hp : goodB p = true) (h0 : p ≠ []) (hh : h.length = 32) : GoodI ⟨2, p, false, [], 1, [h]⟩
  | branch (has : Bool) (v : List UInt8) (m : Nat) (hs : List (List UInt8)) (hv : v.length ≤ 16) (hv2 : has = false → v = []) (hm : m < 65536) (h2 : 2 ≤ popN m + if has then 1 else 0) (hl : hs.length = popN m) (hh : ∀ h ∈ hs, h.length = 32) : GoodI ⟨3, [], has, v, (m : Int), hs⟩
theorem goodI_iff (I : It) : goodI I = true ↔ GoodI I := by
  constructor
  · intro h
    obtain ⟨k, p, has, v, m, hs⟩ := I
    unfold goodI at h
    simp only at h
    split at h
    · subst k
      unfold goodLf goodV at h
      simp only [Bool.and_eq_true, decide_eq_true_eq, List.length_eq_zero_iff] at h
      obtain ⟨h1, h2, ⟨h3, _⟩, h5, h6⟩ := h
      subst h2; subst h5; subst h6
      exact .leaf p v h1 h3
    · split at h
      · subst k
        unfold goodEx at h
        simp only [Bool.and_eq_true, decide_eq_true_eq, Bool.not_eq_true', emptyB_true, emptyB_false, goodH_iff] at h
        obtain ⟨h1, h2, h3, h4, h5, h6, h7⟩ := h
        subst h3; subst h4; subst h5
        obtain ⟨x, rfl⟩ := List.length_eq_one_iff.1 h6
        exact .ext p x h2 h1 (h7 x (by simp))
      · split at h
        · subst k
          unfold goodBr goodV leadsN at h
          simp only [Bool.and_eq_true, decide_eq_true_eq, Bool.or_eq_true, emptyB_true, goodH_iff] at h
          obtain ⟨h1, h2, h3, ⟨h4, h5⟩, h6, h7, h8⟩ := h
          subst h1
          obtain ⟨n, rfl⟩ : ∃ n : Nat, m = (n : Int) := ⟨m.toNat, by omega⟩
          rw [Int.toNat_natCast] at h6 h7
          exact .branch has v n hs h4 (fun e => h5.resolve_left (by rw [e]; decide)) (by omega) h6 h7 h8
        · cases h
  · intro h
    cases h with
    | leaf p v hp hv => simp [goodI, goodLf, goodV, hp, hv]
    | ext p h hp h0 hh => simp [goodI, goodEx, hp, goodH, hh, emptyB_false.2 h0]; rfl
    | branch has v m hs hv hv2 hm h2 hl hh =>
      have e : goodH hs (popN m) = true := goodH_iff.2 ⟨hl, hh⟩
      have e2 : (has || emptyB v) = true := by
        cases has with
        | true => rfl
        | false => rw [hv2 rfl]; rfl
      simp only [goodI, goodBr, goodV, leadsN, Int.toNat_natCast, e, e2, hv]
      simp [h2, emptyB]
      omega

/-- An Item's text in pieces. -/
structure Pt where
  kind : List UInt8
  path : List UInt8
  mask : List UInt8
  has : List UInt8
  size : List UInt8
  value : List UInt8
  hs : List (List UInt8)
  rest : List UInt8
def Pt.text (P : Pt) : List UInt8 := P.kind ++ (P.path ++ (P.mask ++ (P.has ++ (P.size ++ (P.value ++ P.hs.flatten)))))
def pad16 (hs : List (List UInt8)) : List (List UInt8) := hs ++ List.replicate (16 - hs.length) []
theorem pad16_length (hs : List (List UInt8)) (h : hs.length ≤ 16) : (pad16 hs).length = 16 := by unfold pad16; simp; omega
theorem flat_nil (n : Nat) : (List.replicate n ([] : List UInt8)).flatten = [] := by
  induction n with
  | zero => rfl
  | succ n ih => rw [List.replicate_succ, List.flatten_cons, ih]; rfl
theorem pad16_flat (hs : List (List UInt8)) : (pad16 hs).flatten = hs.flatten := by
  unfold pad16; rw [List.flatten_append, flat_nil, List.append_nil]
def ptOf (I : It) : Pt :=
  { kind := [UInt8.ofNat I.k.toNat]
    path := if I.k = 3 then [] else packL I.p
    mask := if I.k = 3 then [UInt8.ofNat (I.m.toNat / 256), UInt8.ofNat I.m.toNat] else []
    has := if I.k = 3 then [if I.has then 1 else 0] else []
    size := if I.has then [UInt8.ofNat I.v.length] else []
    value := if I.has then I.v else []
    hs := pad16 I.hs
    rest := [] }
def encL (I : It) : List UInt8 := (ptOf I).text

/-- Bytes as a number, the highest first. -/
def numN (l : List UInt8) : Nat := l.foldl (fun v c => v * 256 + c.toNat) 0
theorem numN_one (c : UInt8) : numN [c] = c.toNat := by show 0 * 256 + c.toNat = _; omega
theorem numN_two (c d : UInt8) : numN [c, d] = c.toNat * 256 + d.toNat := by show (0 * 256 + c.toNat) * 256 + d.toNat = _; omega
/-- How many bytes the Pack has that a text begins with. -/
def pkN (l : List UInt8) : Nat := if unpackB l then unUsed l else 0
/-- So many pieces of 32 bytes. -/
def cutH (l : List UInt8) (n : Nat) : List (List UInt8) := (List.range n).map fun j => (l.drop (32 * j)).take 32
theorem cutH_length (l : List UInt8) (n : Nat) : (cutH l n).length = n := by unfold cutH; simp
theorem cutH_succ (l : List UInt8) (n : Nat) : cutH l (n + 1) = cutH l n ++ [(l.drop (32 * n)).take 32] := by unfold cutH; rw [List.range_succ, List.map_append]; rfl

def leafP (s : List UInt8) : Pt :=
  { kind := s.take 1, path := (s.drop 1).take (pkN (s.drop 1)), mask := [], has := []
    size := ((s.drop 1).drop (pkN (s.drop 1))).take 1
    value := (((s.drop 1).drop (pkN (s.drop 1))).drop 1).take (numN (((s.drop 1).drop (pkN (s.drop 1))).take 1))
    hs := List.replicate 16 []
    rest := (((s.drop 1).drop (pkN (s.drop 1))).drop 1).drop (numN (((s.drop 1).drop (pkN (s.drop 1))).take 1)) }
def extP (s : List UInt8) : Pt :=
  { kind := s.take 1, path := (s.drop 1).take (pkN (s.drop 1)), mask := [], has := [], size := [], value := []
    hs := pad16 [((s.drop 1).drop (pkN (s.drop 1))).take 32]
    rest := ((s.drop 1).drop (pkN (s.drop 1))).drop 32 }
def brV (r : List UInt8) (P : Pt) : Pt :=
  { P with hs := pad16 (cutH r (popN (numN P.mask))), rest := r.drop (32 * popN (numN P.mask)) }
def brP (s : List UInt8) : Pt :=
  if ((s.drop 1).drop 2).take 1 = [1] then
    brV (((((s.drop 1).drop 2).drop 1).drop 1).drop (numN ((((s.drop 1).drop 2).drop 1).take 1)))
      { kind := s.take 1, path := [], mask := (s.drop 1).take 2, has := ((s.drop 1).drop 2).take 1
        size := (((s.drop 1).drop 2).drop 1).take 1, value := ((((s.drop 1).drop 2).drop 1).drop 1).take (numN ((((s.drop 1).drop 2).drop 1).take 1)), hs := [], rest := [] }
  else brV (((s.drop 1).drop 2).drop 1)
      { kind := s.take 1, path := [], mask := (s.drop 1).take 2, has := ((s.drop 1).drop 2).take 1, size := [], value := [], hs := [], rest := [] }
def inP (s : List UInt8) : Pt :=
  if numN (s.take 1) = 1 then leafP s else if numN (s.take 1) = 2 then extP s else if numN (s.take 1) = 3 then brP s
  else { kind := s.take 1, path := [], mask := [], has := [], size := [], value := [], hs := List.replicate 16 [], rest := s.drop 1 }

theorem cutH_flat (l : List UInt8) (n : Nat) : (cutH l n).flatten ++ l.drop (32 * n) = l := by
  induction n with
  | zero => simp [cutH]
  | succ n ih =>
    rw [cutH_succ, List.flatten_append, List.append_assoc]
    show _ ++ (([(l.drop (32 * n)).take 32] : List (List UInt8)).flatten ++ _) = l
    rw [show ([(l.drop (32 * n)).take 32] : List (List UInt8)).flatten = (l.drop (32 * n)).take 32 by simp, show 32 * (n + 1) = 32 * n + 32 by omega, ← List.drop_drop, List.take_append_drop]
    exact ih
/-- What was read, put together, is the text. -/
theorem in_text (s : List UInt8) : (inP s).text ++ (inP s).rest = s := by
  have h1 : s.take 1 ++ s.drop 1 = s := List.take_append_drop 1 s
  unfold inP
  split
  · unfold leafP Pt.text
    simp only [flat_nil, List.append_assoc, List.nil_append]
    generalize s.drop 1 = r at *
    rw [List.take_append_drop, List.take_append_drop, List.take_append_drop, h1]
  · split
    · unfold extP Pt.text
      simp only [pad16_flat, List.append_assoc, List.nil_append, List.flatten_cons, List.flatten_nil]
      generalize s.drop 1 = r at *
      rw [List.take_append_drop, List.take_append_drop, h1]
    · split
      · unfold brP
        split
        · unfold brV Pt.text
          simp only [pad16_flat, List.append_assoc, List.nil_append]
          rw [cutH_flat]
          generalize s.drop 1 = r at *
          rw [List.take_append_drop, List.take_append_drop, List.take_append_drop, List.take_append_drop, h1]
        · unfold brV Pt.text
          simp only [pad16_flat, List.append_assoc, List.nil_append]
          rw [cutH_flat]
          generalize s.drop 1 = r at *
          rw [List.take_append_drop, List.take_append_drop, h1]
      · unfold Pt.text
        simp only [flat_nil, List.append_nil]
        exact h1

/-- What the pieces tell. -/
def itM (P : Pt) : Nat := if numN P.kind = 2 then 1 else if numN P.kind = 3 then numN P.mask else 0
def itP (P : Pt) : It :=
  { k := (numN P.kind : Nat), p := if unpackB P.path then unN P.path else [], has := decide (numN P.kind = 1) || (decide (numN P.kind = 3) && decide (P.has = [1])), v := P.value, m := (itM P : Nat), hs := P.hs.take (popN (itM P)) }
theorem pop0 : popN 0 = 0 := by decide
theorem pop1 : popN 1 = 1 := by decide
theorem mask_num (m : Nat) (h : m < 65536) : numN [UInt8.ofNat (m / 256), UInt8.ofNat m] = m := by
  rw [numN_two, UInt8.toNat_ofNat', UInt8.toNat_ofNat']; omega
theorem size_num (v : List UInt8) (h : v.length ≤ 16) : numN [UInt8.ofNat v.length] = v.length := by
  rw [numN_one, UInt8.toNat_ofNat']; omega
theorem take_pad (hs : List (List UInt8)) : (pad16 hs).take hs.length = hs := by
  unfold pad16; rw [List.take_left]
theorem unpack_self (p : List UInt8) (h : goodB p = true) : unpackB (packL p) = true ∧ unN (packL p) = p := by
  have := unpack_pack p [] h
  rw [List.append_nil] at this
  exact ⟨this.1, this.2.1⟩
theorem it_pt (I : It) (h : goodI I = true) : itP (ptOf I) = I := by
  rw [goodI_iff] at h
  cases h with
  | leaf p v hp hv =>
    have hu := unpack_self p hp
    unfold itP itM ptOf
    simp [numN_one, hu, pop0]
  | ext p h hp h0 hh =>
    have hu := unpack_self p hp
    unfold itP itM ptOf
    simp [numN_one, hu, pop1, pad16]
  | branch has v m hs hv hv2 hm h2 hl hh =>
    unfold itP itM ptOf
    have hk : numN [UInt8.ofNat (3 : Int).toNat] = 3 := by decide
    simp only [hk, if_true, Int.toNat_natCast, mask_num m hm]
    have e1 : (pad16 hs).take (popN m) = hs := by rw [← hl]; exact take_pad hs
    simp only [show (3 : Nat) = 2 ↔ False by simp, if_false, e1]
    cases has with
    | true => simp [unpackB]
    | false => simp [unpackB, hv2 rfl]

theorem drop_pack (p r : List UInt8) (h : goodB p = true) : pkN (packL p ++ r) = (packL p).length := by
  have := unpack_pack p r h
  unfold pkN
  rw [this.1, if_pos rfl, this.2.2]
theorem cutH_eq (hs : List (List UInt8)) (r : List UInt8) (h : ∀ x ∈ hs, x.length = 32) : cutH (hs.flatten ++ r) hs.length = hs ∧ (hs.flatten ++ r).drop (32 * hs.length) = r := by
  induction hs generalizing r with
  | nil => simp [cutH]
  | cons x hs ih =>
    have hx := h x (by simp)
    have ih := ih r (fun y hy => h y (by simp [hy]))
    have e : (x :: hs).flatten ++ r = x ++ (hs.flatten ++ r) := by rw [List.flatten_cons, List.append_assoc]
    rw [e]
    refine ⟨?_, ?_⟩
    · unfold cutH
      rw [List.length_cons, List.range_succ_eq_map, List.map_cons, List.map_map]
      have h0 : ((x ++ (hs.flatten ++ r)).drop (32 * 0)).take 32 = x := by rw [Nat.mul_zero, List.drop_zero, ← hx, List.take_left]
      rw [h0]
      congr 1
      refine Eq.trans ?_ ih.1
      unfold cutH
      refine List.map_congr_left fun j _ => ?_
      show ((x ++ (hs.flatten ++ r)).drop (32 * (j + 1))).take 32 = _
      rw [show 32 * (j + 1) = x.length + 32 * j by omega, ← List.drop_drop, List.drop_left]
    · rw [List.length_cons, show 32 * (hs.length + 1) = x.length + 32 * hs.length by omega, ← List.drop_drop, List.drop_left]
      exact ih.2
/-- An Item's text is read in its pieces, whatever stands behind it. -/
theorem in_more (I : It) (h : goodI I = true) (r : List UInt8) : inP (encL I ++ r) = { ptOf I with rest := r } := by
  rw [goodI_iff] at h
  cases h with
  | leaf p v hp hv =>
    have e : encL ⟨1, p, true, v, 0, []⟩ ++ r = 1 :: (packL p ++ (UInt8.ofNat v.length :: (v ++ r))) := by
      unfold encL Pt.text ptOf
      simp [pad16]
    rw [e]
    unfold inP
    rw [if_pos (by rfl)]
    unfold leafP
    have hd : (1 :: (packL p ++ (UInt8.ofNat v.length :: (v ++ r)))).drop 1 = packL p ++ (UInt8.ofNat v.length :: (v ++ r)) := rfl
    rw [hd, drop_pack p _ hp, List.take_left, List.drop_left]
    have h1 : (UInt8.ofNat v.length :: (v ++ r)).take 1 = [UInt8.ofNat v.length] := rfl
    have h2 : (UInt8.ofNat v.length :: (v ++ r)).drop 1 = v ++ r := rfl
    rw [h1, h2, size_num v hv, List.take_left, List.drop_left]
    rfl
  | ext p h hp h0 hh =>
    have e : encL ⟨2, p, false, [], 1, [h]⟩ ++ r = 2 :: (packL p ++ (h ++ r)) := by
      unfold encL Pt.text ptOf
      simp [pad16]
    rw [e]
    unfold inP
    have hk : numN ((2 :: (packL p ++ (h ++ r))).take 1) = 2 := rfl
    rw [hk, if_neg (by decide), if_pos (by rfl)]
    unfold extP
    have hd : (2 :: (packL p ++ (h ++ r))).drop 1 = packL p ++ (h ++ r) := rfl
    rw [hd, drop_pack p _ hp, List.take_left, List.drop_left, ← hh, List.take_left, List.drop_left]
    rfl
  | branch has v m hs hv hv2 hm h2 hl hh =>
    have hc := cutH_eq hs r hh
    rw [hl] at hc
    cases has with
    | true =>
      have e : encL ⟨3, [], true, v, (m : Int), hs⟩ ++ r = 3 :: UInt8.ofNat (m / 256) :: UInt8.ofNat m :: 1 :: UInt8.ofNat v.length :: (v ++ (hs.flatten ++ r)) := by
        unfold encL Pt.text ptOf
        simp [pad16_flat]
      rw [e]
      generalize hs.flatten ++ r = t at *
      unfold inP
      have hk : numN ((3 :: UInt8.ofNat (m / 256) :: UInt8.ofNat m :: 1 :: UInt8.ofNat v.length :: (v ++ t)).take 1) = 3 := rfl
      rw [hk, if_neg (by decide), if_neg (by decide), if_pos (by rfl)]
      unfold brP
      rw [if_pos (by rfl)]
      have h3 : ((((3 :: UInt8.ofNat (m / 256) :: UInt8.ofNat m :: 1 :: UInt8.ofNat v.length :: (v ++ t)).drop 1).drop 2).drop 1).take 1 = [UInt8.ofNat v.length] := rfl
      have h4 : (((((3 :: UInt8.ofNat (m / 256) :: UInt8.ofNat m :: 1 :: UInt8.ofNat v.length :: (v ++ t)).drop 1).drop 2).drop 1).drop 1) = v ++ t := rfl
      have h5 : ((3 :: UInt8.ofNat (m / 256) :: UInt8.ofNat m :: 1 :: UInt8.ofNat v.length :: (v ++ t)).drop 1).take 2 = [UInt8.ofNat (m / 256), UInt8.ofNat m] := rfl
      rw [h3, h4, h5, size_num v hv, List.take_left, List.drop_left]
      unfold brV
      simp only [mask_num m hm]
      rw [hc.1, hc.2]
      rfl
    | false =>
      obtain rfl := hv2 rfl
      have e : encL ⟨3, [], false, [], (m : Int), hs⟩ ++ r = 3 :: UInt8.ofNat (m / 256) :: UInt8.ofNat m :: 0 :: (hs.flatten ++ r) := by
        unfold encL Pt.text ptOf
        simp [pad16_flat]
      rw [e]
      generalize hs.flatten ++ r = t at *
      unfold inP
      have hk : numN ((3 :: UInt8.ofNat (m / 256) :: UInt8.ofNat m :: 0 :: t).take 1) = 3 := rfl
      rw [hk, if_neg (by decide), if_neg (by decide), if_pos (by rfl)]
      unfold brP
      have h1 : ((3 :: UInt8.ofNat (m / 256) :: UInt8.ofNat m :: 0 :: t).drop 1 |>.drop 2).take 1 = [0] := rfl
      rw [if_neg (by rw [h1]; decide)]
      have h5 : ((3 :: UInt8.ofNat (m / 256) :: UInt8.ofNat m :: 0 :: t).drop 1).take 2 = [UInt8.ofNat (m / 256), UInt8.ofNat m] := rfl
      have h4 : (((3 :: UInt8.ofNat (m / 256) :: UInt8.ofNat m :: 0 :: t).drop 1).drop 2).drop 1 = t := rfl
      rw [h4, h5]
      unfold brV
      simp only [mask_num m hm]
      rw [hc.1, hc.2]
      rfl
theorem in_enc (I : It) (h : goodI I = true) : inP (encL I) = ptOf I := by
  have := in_more I h []
  rw [List.append_nil] at this
  exact this

/-- What is decoded. -/
def decB (s : List UInt8) : Bool := goodI (itP (inP s)) && decide ((ptOf (itP (inP s))).kind = (inP s).kind ∧ (ptOf (itP (inP s))).path = (inP s).path ∧ (ptOf (itP (inP s))).mask = (inP s).mask ∧ (ptOf (itP (inP s))).has = (inP s).has ∧ (ptOf (itP (inP s))).size = (inP s).size ∧ (ptOf (itP (inP s))).value = (inP s).value ∧ (ptOf (itP (inP s))).hs = (inP s).hs ∧ (ptOf (itP (inP s))).rest = (inP s).rest)
theorem Pt.ext_iff {P Q : Pt} : (P.kind = Q.kind ∧ P.path = Q.path ∧ P.mask = Q.mask ∧ P.has = Q.has ∧ P.size = Q.size ∧ P.value = Q.value ∧ P.hs = Q.hs ∧ P.rest = Q.rest) ↔ P = Q := by
  obtain ⟨a, b, c, d, e, f, g, h⟩ := P
  obtain ⟨a', b', c', d', e', f', g', h'⟩ := Q
  simp
theorem decB_iff (s : List UInt8) : decB s = true ↔ goodI (itP (inP s)) = true ∧ ptOf (itP (inP s)) = inP s := by
  unfold decB
  rw [Bool.and_eq_true, decide_eq_true_eq, Pt.ext_iff]
theorem dec_yes {s : List UInt8} (h : decB s = true) : goodI (itP (inP s)) = true ∧ encL (itP (inP s)) = s := by
  obtain ⟨h1, h2⟩ := (decB_iff s).1 h
  refine ⟨h1, ?_⟩
  have h3 := in_text s
  rw [← h2] at h3
  have h4 : (ptOf (itP (inP s))).rest = [] := rfl
  rw [h4, List.append_nil] at h3
  exact h3
theorem dec_enc (I : It) (h : goodI I = true) : decB (encL I) = true ∧ itP (inP (encL I)) = I := by
  have e := in_enc I h
  have e2 := it_pt I h
  refine ⟨(decB_iff _).2 ?_, by rw [e, e2]⟩
  rw [e, e2]
  exact ⟨h, rfl⟩
theorem enc_inj {I J : It} (hI : goodI I = true) (hJ : goodI J = true) (h : encL I = encL J) : I = J := by
  rw [← (dec_enc I hI).2, h, (dec_enc J hJ).2]
/-- With a byte more it is none's. -/
theorem dec_more (I : It) (h : goodI I = true) : decB (encL I ++ [0]) = false := by
  rw [Bool.eq_false_iff]
  intro hd
  obtain ⟨h1, h2⟩ := (decB_iff _).1 hd
  rw [in_more I h [0]] at h2
  have h3 := congrArg Pt.rest h2
  cases h3

end Go.Proofs.YtecamiefpdkjoaaDoor
namespace Go.Proofs.YtecamiefpdkjoaaDoor
open Go.RowKit
set_option maxRecDepth 20000

theorem lo_form2 (c : UInt8) : (c.toNat : Int) % 16 = ((lo c).toNat : Int) := by rw [lo_nat]; omega

set_option maxHeartbeats 1000000 in
theorem refOf_any (s : ByteArray) (hs : s.size ≤ 4000) (w : World) :
    Calls Tryd.prog 47 #[.string s] w fun e w' => e = .returned (.string (bs (ofL (L s)))) ∧ Below w.heap.size w w' := by
  obtain ⟨i0, hi0, hz0, hz1, hz2⟩ := info_parts info5
  go_enter Tryd.func47, Tryd.ntmps47
  go_wp2_with fail
  go_loopw [3, 4] (fun v i wr => ∃ k : Nat, k ≤ s.size ∧ i = .int .i64 k ∧ wr.ownsRow w.heap.size 5 1 v (2 * k) (cellsL (ofL ((L s).take k))) ∧ Below w.heap.size w wr) (fun _ i _ => s.size - (intOf i).toNat)
  case atStart => exact ⟨0, by omega, rfl, World.ownsRow_nil _ _ _ _, Below.refl _ _⟩
  case round =>
    obtain ⟨k, hk, rfl, hown, hb⟩ := hrel
    have hB := hb.size
    by_cases hlt : k < s.size
    · have hc := hi_form s[k]
      have hd := lo_form2 s[k]
      have hd' : ((s[k].toNat : Int)).tmod 16 = ((lo s[k]).toNat : Int) := by rw [Int.tmod_eq_emod_of_nonneg (by omega)]; exact hd
      have hc' : IntKind.u8.wrap ((hi s[k]).toNat : Int) = ((hi s[k]).toNat : Int) := by rw [IntKind.wrap_u8, hi_nat]; have := s[k].toNat_lt; omega
      have HS : Hid (_ = _) := cells_step (L s) k s[k] (L_get s k hlt)
      go_wp2_with fail
      go_region_held3 (fun _ => True) (trivial)
        ((refine step_append_lies _ (by rfl) _ _ _ (by rfl) w.heap.size 5 i0 _ 1 1 Tryd.underlying56 hi0 hz0 hz1 hz2 rfl (by omega) u3 (2 * k) (cellsL (ofL ((L s).take k))) (by rfl) ((hown.alloc _).drew)
            ⟨wr.heap.size, 0, none⟩ 2 2 [.int .u8 ((hi s[k]).toNat : Int), .int .u8 ((lo s[k]).toNat : Int)] (by rfl) (by rfl) (World.news_of_block (cs := #[.int .u8 ((hi s[k]).toNat : Int), .int .u8 ((lo s[k]).toNat : Int)]) (t := 5) (fr := (0, 0)) (heap_alloc_new wr _)) (by simp [Value.oneCell'])
            (by omega) (by unfold maxLen; omega) (by omega) (by simp; omega) (wr.heap.size + 1) (by simp) ?_; intro gg cap w1 hown1 hgrow hat hlt1))
      go_wp2_with fail
      all_goals exact ⟨⟨k + 1, by omega, by go_num, HS.out ▸ hown1, grow_kept hown hb hgrow⟩, by simp [intOf]; omega⟩
    · obtain rfl : k = s.size := by omega
      have hcv := conv_own (by rw [ofL_length, List.length_take, L_size]; omega) hown
      rw [← L_size, List.take_length] at hcv
      clear hown
      go_wp2_with fail
      go_ret
      exact ⟨rfl, hb⟩

set_option maxHeartbeats 400000 in
theorem refGood_any (s : ByteArray) (hs : s.size ≤ 4000) (w : World) :
    Calls Tryd.prog 29 #[.string s] w fun e w' => e = .returned (.bool (goodB (L s))) ∧ w' = w := by
  go_enter Tryd.func29, Tryd.ntmps29
  go_wp2_with fail
  go_loop [3] (fun i => ∃ k : Nat, k ≤ s.size ∧ i = .int .i64 k ∧ ∀ (j : Nat) c, j < k → (L s)[j]? = some c → c.toNat < 16) (fun i => s.size - (intOf i).toNat)
  case atStart => exact ⟨0, by omega, rfl, fun j c h => absurd h (by omega)⟩
  case round =>
    obtain ⟨k, hk, rfl, hall⟩ := hrel
    have HA : Hid (∀ (j : Nat) c, j < k → (L s)[j]? = some c → c.toNat < 16) := hall
    clear hall
    by_cases hlt : k < s.size
    · have hc : Hid ((L s)[k]? = some s[k]) := L_get s k hlt
      by_cases h16 : (s[k]).toNat < 16
      · have ht : decide ((15 : Int) < (s[k].toNat : Int)) = false := decide_eq_false (by omega)
        go_wp2_with fail
        go_round
        case rel => exact ⟨k + 1, by omega, by go_num, fun j c hj hjc => by
          by_cases e : j = k
          · subst e; rw [hc.out] at hjc; cases hjc; exact h16
          · exact HA.out j c (by omega) hjc⟩
        case measure => simp [intOf]; omega
      · have ht : decide ((15 : Int) < (s[k].toNat : Int)) = true := decide_eq_true (by omega)
        have HG : Hid (goodB (L s) = false) := by show _ = _; unfold goodB; rw [halvesB_bad hc.out h16, Bool.and_false]
        go_wp2_with fail
        go_ret
        exact ⟨ret_bool HG.out.symm, rfl⟩
    · obtain rfl : k = s.size := by omega
      have HG : Hid (decide ((s.size : Int) ≤ 16) = goodB (L s)) := by
        show _ = _
        unfold goodB
        rw [halvesB_good fun j c h => HA.out j c (by rw [← L_size s]; exact (List.getElem?_eq_some_iff.1 h).1) h, Bool.and_true, L_size, Bool.eq_iff_iff, decide_eq_true_eq, decide_eq_true_eq]
        omega
      go_wp2_with fail
      go_ret
      exact ⟨ret_bool HG.out, rfl⟩

end Go.Proofs.YtecamiefpdkjoaaDoor
namespace Go.Proofs.YtecamiefpdkjoaaDoor
open Go.RowKit
set_option maxRecDepth 20000

theorem joinL_append (x y : List UInt8) (h : x.length % 2 = 0) : joinL (x ++ y) = joinL x ++ joinL y := by
  induction x using pairs with
  | h0 => rfl
  | h1 a => simp at h
  | h2 a b l ih =>
    simp only [List.length_cons] at h
    show two a b :: joinL (l ++ y) = two a b :: (joinL l ++ joinL y)
    rw [ih (by omega)]
theorem joinL_step (l : List UInt8) (m : Nat) (a b : UInt8) (ha : l[2 * m]? = some a) (hb : l[2 * m + 1]? = some b) : joinL (l.take (2 * (m + 1))) = joinL (l.take (2 * m)) ++ [two a b] := by
  have h1 : 2 * m < l.length := (List.getElem?_eq_some_iff.1 ha).1
  rw [show 2 * (m + 1) = 2 * m + 1 + 1 by omega, List.take_add_one, List.take_add_one, ha, hb, List.append_assoc, joinL_append _ _ (by rw [List.length_take]; omega)]
  rfl
theorem bcell {W w1 : World} (hb : Below W.heap.size W w1) : (∀ b o, b < W.heap.size → w1.cell? ⟨b, o, none⟩ = W.cell? ⟨b, o, none⟩) ∧ (∀ b o, b < W.heap.size → w1.frozen? ⟨b, o, none⟩ = W.frozen? ⟨b, o, none⟩) :=
  ⟨fun b o h => hb.cell (p := ⟨b, o, none⟩) h, fun b o h => hb.frozen (p := ⟨b, o, none⟩) h⟩

theorem boxed {w wr : World} {a b : Value} {t : TypeId} (hb : Below (w.heap.size + 1) (w.alloc (.cells #[a, b] t)) wr) :
    wr.cell? ⟨w.heap.size, 0, none⟩ = some a ∧ wr.cell? ⟨w.heap.size, 1, none⟩ = some b ∧ wr.frozen? ⟨w.heap.size, 0, none⟩ = false ∧ wr.frozen? ⟨w.heap.size, 1, none⟩ = false ∧ Below w.heap.size w wr ∧ w.heap.size + 1 ≤ wr.heap.size := by
  refine ⟨?_, ?_, ?_, ?_, ?_, ?_⟩
  · rw [hb.cell (p := ⟨w.heap.size, 0, none⟩) (by simp)]; simp
  · rw [hb.cell (p := ⟨w.heap.size, 1, none⟩) (by simp)]; simp
  · rw [hb.frozen (p := ⟨w.heap.size, 0, none⟩) (by simp)]; simp
  · rw [hb.frozen (p := ⟨w.heap.size, 1, none⟩) (by simp)]; simp
  · exact ((Below.refl _ _).alloc (Nat.le_refl _) _).trans (hb.mono (by omega))
  · have := hb.size; simpa using this

end Go.Proofs.YtecamiefpdkjoaaDoor
namespace Go.Proofs.YtecamiefpdkjoaaDoor.Dg
open Go.RowKit
set_option maxRecDepth 20000

theorem info5 : (Tryd.prog.info? 5).map (fun i => (i.zero, i.size, i.bytes)) = some (some (.int .u8 0), 1, 1) := by kernel_rfl

/-- The bytes as cells. -/
def cellsL (l : List UInt8) : List Value := l.map fun c => Value.int .u8 (c.toNat : Int)
theorem cellsL_append (l m : List UInt8) : cellsL (l ++ m) = cellsL l ++ cellsL m := by unfold cellsL; rw [List.map_append]
theorem cellsL_get {l : List UInt8} {j : Nat} {c : UInt8} (h : l[j]? = some c) : (cellsL l)[j]? = some (.int .u8 (c.toNat : Int)) := by
  unfold cellsL; rw [List.getElem?_map, h]; rfl
theorem cellsL_length (l : List UInt8) : (cellsL l).length = l.length := by unfold cellsL; simp
theorem conv_own {w : World} {B : Nat} {v : Value} {l : List UInt8} {n : Nat} (hn : l.length = n) (h : w.ownsRow B 5 1 v n (cellsL l)) :
    (convert 56 9 v).run Tryd.prog w = .ok (.string (bs l)) w := by
  subst hn
  rcases id h.2 with ⟨rfl, h0⟩ | ⟨g, cap, cur, rfl, _⟩
  · obtain rfl : l = [] := List.length_eq_zero_iff.1 h0
    rw [run_convert_bytes_string w 56 9 5 none 0 0 Tryd.underlying56 Tryd.underlying5 Tryd.underlying9]
    rfl
  · exact run_convert_bytes_back w 56 9 5 ⟨g, 0, none⟩ cap l Tryd.underlying56 Tryd.underlying5 Tryd.underlying9 (fun j hj => by
      refine h.cells (g := g) rfl j _ ?_
      exact cellsL_get (List.getElem?_eq_getElem hj))
theorem grow_kept {w wr w1 : World} {v : Value} {k : Nat} {xs : List Value} {d : Obj} (hown : wr.ownsRow w.heap.size 5 1 v k xs) (hb : Below w.heap.size w wr) (hg : (wr.alloc d).drew.grownBy w1 v.ownBlock) : Below w.heap.size w w1 := by
  have hB := hb.size
  exact ((hb.alloc hB d).drew).grown hg (by simp; omega) fun j hj => (hown.lt j hj).1
theorem grow_plain {w wr w1 : World} {v : Value} {k : Nat} {xs : List Value} {d : Obj} (hown : wr.ownsRow w.heap.size 5 1 v k xs) (hb : Below w.heap.size w wr) (hg : (wr.alloc d).grownBy w1 v.ownBlock) : Below w.heap.size w w1 := by
  have hB := hb.size
  exact (hb.alloc hB d).grown hg (by simp; omega) fun j hj => (hown.lt j hj).1

theorem digit_all : ∀ p : Fin 16, #[48, 49, 50, 51, 52, 53, 54, 55, 56, 57, 97, 98, 99, 100, 101, 102][p.val]? = some (dig p.val) := by decide +kernel
theorem digit_at (p : Nat) (h : p < (⟨#[48, 49, 50, 51, 52, 53, 54, 55, 56, 57, 97, 98, 99, 100, 101, 102]⟩ : ByteArray).size) : (⟨#[48, 49, 50, 51, 52, 53, 54, 55, 56, 57, 97, 98, 99, 100, 101, 102]⟩ : ByteArray)[p]'h = dig p := by
  have h16 : p < 16 := h
  have h1 := digit_all ⟨p, h16⟩
  rw [Array.getElem?_eq_some_iff] at h1
  obtain ⟨_, h2⟩ := h1
  exact h2
theorem hi_form (c : UInt8) : (c.toNat : Int) / 16 = ((c.toNat / 16 : Nat) : Int) := by omega
theorem wraps_u8 (n : Int) (h₀ : 0 ≤ n) (h₁ : n < 2 ^ 8) : IntKind.u8.wrap n = n := by rw [IntKind.wrap_u8]; omega
theorem lo_form (c : UInt8) : bits .and .u8 (c.toNat : Int) 15 = ((c.toNat % 16 : Nat) : Int) := by
  have hc := c.toNat_lt
  have h := bits_mask .u8 8 (by decide) wraps_u8 4 (by decide) (c.toNat : Int) (Int.natCast_nonneg _) (by omega)
  simp at h
  omega
theorem hex_step (l : List UInt8) (k : Nat) (c : UInt8) (h : l[k]? = some c) :
    cellsL (hexL (l.take k)) ++ [.int .u8 ((dig (c.toNat / 16)).toNat : Int), .int .u8 ((dig (c.toNat % 16)).toNat : Int)] = cellsL (hexL (l.take (k + 1))) := by
  rw [hexL_step l k c h, cellsL_append]; rfl

end Go.Proofs.YtecamiefpdkjoaaDoor.Dg
