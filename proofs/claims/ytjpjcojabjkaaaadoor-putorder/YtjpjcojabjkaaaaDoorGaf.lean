/-
  What Of returns: the halves of a text's bytes, the higher first, for every text. What join returns: halves laid together, two a byte, for every text, where the table of upper halves lies as its initialiser lays it. What Key, Pack and Unpack return, for every text, where the table of upper halves lies as its initialiser lays it. What the document's own Of, Common and Good return, for every text: the same. What the document's own Key returns, for every text: the same as Key, as a struct. NibbleCommon's walk: whatever two texts, the call returns true, where the table of upper halves lies as its initialiser lays it. Tries of pairs, said of lists: the nodes that pairs have, with the nibbles that lead to each, and what holds of them. Plain mathematics: nothing of the program's dump is read here. Pairs that may be, looked at from a place on: what they have in common, where they part, their groups. Plain mathematics. The order of halves, and of packed halves of one length: plain mathematics; and NibbleOrder's walk: whatever two texts, the call returns true, where the table of upper halves lies as its initialiser lays it.
-/
import Derived.Test.YtjpjcojabjkaaaaDoorGae
import Derived.OwnWalk
import Derived.Laws.BytesString
import Derived.Deep.RegionHeld3
import Derived.Deep.AppendLies
namespace Go.Proofs.YtjpjcojabjkaaaaDoor
open Go.RowKit
set_option maxRecDepth 20000

theorem info5 : (Tryd.prog.info? 5).map (fun i => (i.zero, i.size, i.bytes)) = some (some (.int .u8 0), 1, 1) := by kernel_rfl

/-- The bytes as cells. -/
def cellsL (l : List UInt8) : List Value := l.map fun c => Value.int .u8 (c.toNat : Int)
theorem cellsL_append (l m : List UInt8) : cellsL (l ++ m) = cellsL l ++ cellsL m := by unfold cellsL; rw [List.map_append]
theorem cellsL_get {l : List UInt8} {j : Nat} {c : UInt8} (h : l[j]? = some c) : (cellsL l)[j]? = some (.int .u8 (c.toNat : Int)) := by
  unfold cellsL; rw [List.getElem?_map, h]; rfl
theorem cellsL_length (l : List UInt8) : (cellsL l).length = l.length := by unfold cellsL; simp
theorem conv_own {w : World} {B : Nat} {v : Value} {l : List UInt8} {n : Nat} (hn : l.length = n) (h : w.ownsRow B 5 1 v n (cellsL l)) :
    (convert 50 9 v).run Tryd.prog w = .ok (.string (bs l)) w := by
  subst hn
  rcases id h.2 with ⟨rfl, h0⟩ | ⟨g, cap, cur, rfl, _⟩
  · obtain rfl : l = [] := List.length_eq_zero_iff.1 h0
    rw [run_convert_bytes_string w 50 9 5 none 0 0 Tryd.underlying50 Tryd.underlying5 Tryd.underlying9]
    rfl
  · exact run_convert_bytes_back w 50 9 5 ⟨g, 0, none⟩ cap l Tryd.underlying50 Tryd.underlying5 Tryd.underlying9 (fun j hj => by
      refine h.cells (g := g) rfl j _ ?_
      exact cellsL_get (List.getElem?_eq_getElem hj))

theorem hi_form (c : UInt8) : (c.toNat : Int) / 16 = ((hi c).toNat : Int) := by rw [hi_nat]; omega
theorem lo_form (c : UInt8) : bits .and .u8 (c.toNat : Int) 15 = ((lo c).toNat : Int) := by rw [lo_nat]; exact and15 _ c.toNat_lt
theorem cells_step (l : List UInt8) (k : Nat) (c : UInt8) (h : l[k]? = some c) :
    cellsL (ofL (l.take k)) ++ [.int .u8 ((hi c).toNat : Int), .int .u8 ((lo c).toNat : Int)] = cellsL (ofL (l.take (k + 1))) := by
  rw [ofL_step l k c h, cellsL_append]; rfl
theorem grow_kept {w wr w1 : World} {v : Value} {k : Nat} {xs : List Value} {d : Obj} (hown : wr.ownsRow w.heap.size 5 1 v k xs) (hb : Below w.heap.size w wr) (hg : (wr.alloc d).drew.grownBy w1 v.ownBlock) : Below w.heap.size w w1 := by
  have hB := hb.size
  exact ((hb.alloc hB d).drew).grown hg (by simp; omega) fun j hj => (hown.lt j hj).1

set_option maxHeartbeats 1000000 in
theorem of_any (s : ByteArray) (hs : s.size ≤ 5000) (w : World) :
    Calls Tryd.prog 27 #[.string s] w fun e w' => e = .returned (.string (bs (ofL (L s)))) ∧ Kept w w' := by
  obtain ⟨i0, hi0, hz0, hz1, hz2⟩ := info_parts info5
  obtain ⟨w1, hmk, r1, r2⟩ := run_make_own (P := Tryd.prog) w w.heap.size 50 5 i0 _ 1 Tryd.underlying50 hi0 hz0 hz1 .i64 .i64 (2 * s.size) (by rw [hz2]; omega) (by unfold maxLen; omega) (Nat.le_refl _)
  rw [show ((2 * s.size : Nat) : Int) = 2 * (s.size : Int) by omega] at hmk
  have hb1 : Below w.heap.size w w1 := (Below.refl _ _).grown r2 (Nat.le_refl _) (fun _ h => by cases h)
  clear r2
  go_enter Tryd.func27, Tryd.ntmps27
  go_wp2_with fail
  clear hmk
  go_loopw [3, 11] (fun v i wr => ∃ k : Nat, k ≤ s.size ∧ i = .int .i64 k ∧ wr.ownsRow w.heap.size 5 1 v (2 * k) (cellsL (ofL ((L s).take k))) ∧ Below w.heap.size w wr) (fun _ i _ => s.size - (intOf i).toNat)
  case atStart => exact ⟨0, by omega, rfl, r1, hb1⟩
  case round =>
    clear r1 hb1
    obtain ⟨k, hk, rfl, hown, hb⟩ := hrel
    have hB := hb.size
    by_cases hlt : k < s.size
    · have hc := hi_form s[k]
      have hd := lo_form s[k]
      have HS : Hid (_ = _) := cells_step (L s) k s[k] (L_get s k hlt)
      go_wp2_with fail
      go_region_held3 (fun _ => True) (trivial)
        ((refine step_append_lies _ (by rfl) _ _ _ (by rfl) w.heap.size 5 i0 _ 1 1 Tryd.underlying50 hi0 hz0 hz1 hz2 rfl (by omega) u3 (2 * k) (cellsL (ofL ((L s).take k))) (by rfl) ((hown.alloc _).drew)
            ⟨wr.heap.size, 0, none⟩ 2 2 [.int .u8 ((hi s[k]).toNat : Int), .int .u8 ((lo s[k]).toNat : Int)] (by rfl) (by rfl) (World.news_of_block (cs := #[.int .u8 ((hi s[k]).toNat : Int), .int .u8 ((lo s[k]).toNat : Int)]) (t := 5) (fr := (0, 0)) (heap_alloc_new wr _)) (by simp [Value.oneCell'])
            (by omega) (by unfold maxLen; omega) (by omega) (by simp; omega) (wr.heap.size + 1) (by simp) ?_; intro gg cap w1 hown1 hgrow hat hlt1))
      go_wp2_with fail
      all_goals exact ⟨⟨k + 1, by omega, by go_num, HS.out ▸ hown1, grow_kept hown hb hgrow⟩, by simp [intOf]; omega⟩
    · obtain rfl : k = s.size := by omega
      have hcv := conv_own (by rw [ofL_length, List.length_take, L_size]; omega) hown
      rw [← L_size, List.take_length] at hcv
      clear hown
      go_wp2_with fail
      go_ret
      exact ⟨rfl, Kept.below hb⟩

end Go.Proofs.YtjpjcojabjkaaaaDoor
namespace Go.Proofs.YtjpjcojabjkaaaaDoor
open Go.RowKit
set_option maxRecDepth 20000

/-- The table of upper halves lies in the first block. -/
def Tab (w : World) : Prop := 0 < w.heap.size ∧ ∀ i : Nat, i < 16 → w.cell? ⟨0, i, none⟩ = some (.int .u8 ((i * 16 : Nat) : Int))
theorem Tab.kept {w w' : World} (h : Tab w) (k : Kept w w') : Tab w' := ⟨Nat.lt_of_lt_of_le h.1 k.size, fun i hi => (k.cell h.1).trans (h.2 i hi)⟩
theorem made_zero (l : List UInt8) (J : Nat) : (madeCells (Value.int .u8 0).cells (J * 1)).toList = cellsL (padL l 0 J) := by
  rw [padL_none]
  unfold cellsL madeCells
  rw [List.map_replicate, Array.toList_map, Array.toList_range, Nat.mul_one, List.eq_replicate_iff]
  refine ⟨by simp, fun b hb => ?_⟩
  obtain ⟨j, _, rfl⟩ := List.mem_map.1 hb
  show (#[Value.int .u8 0] : Array Value)[j % 1]! = _
  rw [Nat.mod_one]; rfl

set_option maxHeartbeats 1000000 in
theorem join_any (s : ByteArray) (hs : s.size ≤ 5000) (w : World) (hT : Tab w) :
    Calls Tryd.prog 61 #[.string s] w fun e w' => e = .returned (.string (bs (joinL (L s)))) ∧ Kept w w' := by
  obtain ⟨i0, hi0, hz0, hz1, hz2⟩ := info_parts info5
  obtain ⟨J, hJ⟩ : ∃ J, (s.size + 1) / 2 = J := ⟨_, rfl⟩
  obtain ⟨w1, hmk, r1, r2⟩ := run_make_full (P := Tryd.prog) w w.heap.size 50 5 i0 _ 1 Tryd.underlying50 hi0 hz0 hz1 .i64 .i64 J (by rw [hz2]; omega) (by unfold maxLen; omega) (Nat.le_refl _)
  have hb1 : Below w.heap.size w w1 := (Below.refl _ _).grown r2 (Nat.le_refl _) (fun _ h => by cases h)
  clear r2
  have HJ : Hid ((s.size + 1) / 2 = J) := hJ
  go_enter Tryd.func61, Tryd.ntmps61
  go_wp2_with fail
  refine (joinedSize_any _ hs _).mono ?_
  rintro e w' ⟨rfl, rfl⟩
  rw [hJ]
  clear hJ
  go_wp2_with fail
  clear hmk
  go_loopw [12] (fun i wr => ∃ k : Nat, k ≤ s.size ∧ i = .int .i64 k ∧ wr.ownsRow w'.heap.size 5 1 (.slice (some ⟨w'.heap.size, 0, none⟩) J J) J (cellsL (padL (L s) k J)) ∧ Below w'.heap.size w' wr) (fun i _ => s.size - (intOf i).toNat)
  case atStart => exact ⟨0, by omega, rfl, by rw [made_zero (L s)] at r1; exact r1, hb1⟩
  case round =>
    clear r1 hb1
    obtain ⟨k, hk, rfl, hown, hb⟩ := hrel
    have hB := hb.size
    by_cases hlt : k < s.size
    · have HS : Hid ((L s)[k]? = some s[k]) := L_get s k hlt
      obtain ⟨y, hy⟩ : ∃ y, (lo s[k]).toNat = y := ⟨_, rfl⟩
      have hd := lo_form s[k]
      rw [hy] at hd
      have HY : Hid (s[k].toNat % 16 = y) := (lo_nat s[k]).symm.trans hy
      have hy16 : y < 16 := by have := HY.out; omega
      have hy0 : (0 : Int) ≤ (y : Int) := Int.natCast_nonneg _
      have hy1 : (y : Int) < 16 := by omega
      clear hy
      obtain ⟨m, hm⟩ : ∃ m, k / 2 = m := ⟨_, rfl⟩
      have HM : Hid (k / 2 = m) := hm
      have hq : (k : Int) / 2 = (m : Int) := by omega
      have hj : m < J := by have := HJ.out; omega
      have hj0 : (0 : Int) ≤ (m : Int) := Int.natCast_nonneg _
      have hj1 : (m : Int) < (J : Int) := by omega
      clear hm
      have hfz : wr.frozen? ⟨w'.heap.size, m, none⟩ = false := hown.frozenAt m
      by_cases ho : k % 2 = 1
      · have hk1 : k - 1 < s.size := by omega
        have HB : Hid ((L s)[k - 1]? = some s[k - 1]) := L_get s (k - 1) hk1
        obtain ⟨z, hz⟩ : ∃ z, (two s[k - 1] 0).toNat = z := ⟨_, rfl⟩
        obtain ⟨q, hqq⟩ : ∃ q, (two s[k - 1] s[k]).toNat = q := ⟨_, rfl⟩
        have hcell : wr.cell? ⟨w'.heap.size, m, none⟩ = some (.int .u8 (z : Int)) := by
          rw [hown.cellAt m (by omega), cellsL_get (c := two s[k - 1] 0), hz]
          rw [← HM.out]
          exact padL_now _ _ _ _ ho HB.out (by rw [HM.out]; exact hj)
        have hor : bits .or .u8 (z : Int) (y : Int) = (q : Int) := by
          rw [← hz, ← hqq, two_zero, two_nat, HY.out]
          exact or_halves _ (by omega) _ hy16
        have HP : Hid ((cellsL (padL (L s) k J)).set m (.int .u8 (q : Int)) = cellsL (padL (L s) (k + 1) J)) := by
          show _ = _
          rw [← padL_odd (L s) k J s[k - 1] s[k] ho HB.out HS.out (by rw [HM.out]; exact hj), HM.out]
          unfold cellsL
          rw [List.map_set, hqq]
        have HO : Hid (k % 2 = 1) := ho
        clear hz hqq ho
        go_wp2_with fail
        refine (isOdd_any _ _).mono ?_
        rintro e w2 ⟨rfl, rfl⟩
        rw [show oddB k = true from decide_eq_true HO.out]
        go_wp2_with fail
        all_goals exact ⟨⟨k + 1, by omega, by go_num, HP.out ▸ (hown.stored m _).1, hb.setCell (Nat.le_refl _) _⟩, by simp [intOf]; omega⟩
      · obtain ⟨t, ht⟩ : ∃ t, y * 16 = t := ⟨_, rfl⟩
        have hcell : wr.cell? ⟨0, y, none⟩ = some (.int .u8 (t : Int)) := by
          rw [hb.cell (p := ⟨0, y, none⟩) hT.1, hT.2 y hy16, ht]
        obtain ⟨u0, hu0⟩ : ∃ u, wr.cell? ⟨w'.heap.size, m, none⟩ = some u :=
          ⟨_, (hown.cellAt m (by omega)).trans (cellsL_get (padL_get _ _ _ _ hj))⟩
        have HP : Hid ((cellsL (padL (L s) k J)).set m (.int .u8 (t : Int)) = cellsL (padL (L s) (k + 1) J)) := by
          show _ = _
          rw [← padL_even (L s) k J s[k] (by omega) HS.out (by rw [HM.out]; exact hj), HM.out]
          unfold cellsL
          rw [List.map_set, two_zero, HY.out, ht]
        have HO : Hid (¬ k % 2 = 1) := ho
        clear ht ho
        go_wp2_with fail
        refine (isOdd_any _ _).mono ?_
        rintro e w2 ⟨rfl, rfl⟩
        rw [show oddB k = false from decide_eq_false HO.out]
        go_wp2_with fail
        all_goals exact ⟨⟨k + 1, by omega, by go_num, HP.out ▸ (hown.stored m _).1, hb.setCell (Nat.le_refl _) _⟩, by simp [intOf]; omega⟩
    · obtain rfl : k = s.size := by omega
      have hcv := conv_own (padL_length _ _ _) hown
      have HF : Hid (padL (L s) s.size J = joinL (L s)) := by
        show _ = _
        rw [← padL_full, L_size, HJ.out]
      rw [HF.out] at hcv
      clear hown
      go_wp2_with fail
      go_ret
      exact ⟨rfl, Kept.below hb⟩

end Go.Proofs.YtjpjcojabjkaaaaDoor
namespace Go.Proofs.YtjpjcojabjkaaaaDoor
open Go.RowKit
set_option maxRecDepth 20000

def keyB (l : List UInt8) : Bool := !oddB l.length && halvesB l

set_option maxHeartbeats 400000 in
theorem key_no (s : ByteArray) (hs : s.size ≤ 5000) (h : keyB (L s) = false) (w : World) :
    Calls Tryd.prog 53 #[.string s] w fun e w' => e = .returned (.tuple #[.string (bs []), .bool false]) ∧ Kept w w' := by
  unfold keyB at h
  rw [L_size] at h
  go_enter Tryd.func53, Tryd.ntmps53
  go_wp2_with fail
  refine (isOdd_any _ _).mono ?_
  rintro e w' ⟨rfl, rfl⟩
  cases ho : oddB s.size
  · rw [ho] at h
    have hh : halvesB (L s) = false := by simpa using h
    go_wp2_with fail
    refine (allHalves_any s hs _).mono ?_
    rintro e w2 ⟨rfl, rfl⟩
    rw [hh]
    go_wp2_with fail
    go_ret2
    exact ⟨rfl, Kept.refl _⟩
  · go_wp2_with fail
    go_ret2
    exact ⟨rfl, Kept.refl _⟩

set_option maxHeartbeats 400000 in
theorem key_yes (s : ByteArray) (hs : s.size ≤ 5000) (h : keyB (L s) = true) (w : World) (hT : Tab w) :
    Calls Tryd.prog 53 #[.string s] w fun e w' => e = .returned (.tuple #[.string (bs (joinL (L s))), .bool true]) ∧ Kept w w' := by
  unfold keyB at h
  rw [L_size] at h
  have ho : Hid (oddB s.size = false) := by show _ = _; cases h1 : oddB s.size <;> simp [h1] at h ⊢
  have hh : Hid (halvesB (L s) = true) := by show _ = _; cases h1 : halvesB (L s) <;> simp [h1] at h ⊢
  clear h
  go_enter Tryd.func53, Tryd.ntmps53
  go_wp2_with fail
  refine (isOdd_any _ _).mono ?_
  rintro e w' ⟨rfl, rfl⟩
  rw [ho.out]
  go_wp2_with fail
  refine (allHalves_any s hs _).mono ?_
  rintro e w2 ⟨rfl, rfl⟩
  rw [hh.out]
  go_wp2_with fail
  refine (join_any s hs _ hT).mono ?_
  rintro e w3 ⟨rfl, g⟩
  go_wp2_with fail
  go_ret2
  exact ⟨rfl, g⟩

def packL (l : List UInt8) : List UInt8 := UInt8.ofNat l.length :: joinL l

end Go.Proofs.YtjpjcojabjkaaaaDoor
namespace Go.Proofs.YtjpjcojabjkaaaaDoor
open Go.RowKit
set_option maxRecDepth 20000

theorem lo_form2 (c : UInt8) : (c.toNat : Int) % 16 = ((lo c).toNat : Int) := by rw [lo_nat]; omega

set_option maxHeartbeats 1000000 in
theorem refOf_any (s : ByteArray) (hs : s.size ≤ 5000) (w : World) :
    Calls Tryd.prog 30 #[.string s] w fun e w' => e = .returned (.string (bs (ofL (L s)))) ∧ Below w.heap.size w w' := by
  obtain ⟨i0, hi0, hz0, hz1, hz2⟩ := info_parts info5
  go_enter Tryd.func30, Tryd.ntmps30
  go_wp2_with fail
  go_loopw [3, 4] (fun v i wr => ∃ k : Nat, k ≤ s.size ∧ i = .int .i64 k ∧ wr.ownsRow w.heap.size 5 1 v (2 * k) (cellsL (ofL ((L s).take k))) ∧ Below w.heap.size w wr) (fun _ i _ => s.size - (intOf i).toNat)
  case atStart => exact ⟨0, by omega, rfl, World.ownsRow_nil _ _ _ _, Below.refl _ _⟩
  case round =>
    obtain ⟨k, hk, rfl, hown, hb⟩ := hrel
    have hB := hb.size
    by_cases hlt : k < s.size
    · have hc := hi_form s[k]
      have hd := lo_form2 s[k]
      have hd' : ((s[k].toNat : Int)).tmod 16 = ((lo s[k]).toNat : Int) := by rw [Int.tmod_eq_emod_of_nonneg (by omega)]; exact hd
      have hc' : IntKind.u8.wrap ((hi s[k]).toNat : Int) = ((hi s[k]).toNat : Int) := by rw [IntKind.wrap_u8, hi_nat]; have := s[k].toNat_lt; omega
      have HS : Hid (_ = _) := cells_step (L s) k s[k] (L_get s k hlt)
      go_wp2_with fail
      go_region_held3 (fun _ => True) (trivial)
        ((refine step_append_lies _ (by rfl) _ _ _ (by rfl) w.heap.size 5 i0 _ 1 1 Tryd.underlying50 hi0 hz0 hz1 hz2 rfl (by omega) u3 (2 * k) (cellsL (ofL ((L s).take k))) (by rfl) ((hown.alloc _).drew)
            ⟨wr.heap.size, 0, none⟩ 2 2 [.int .u8 ((hi s[k]).toNat : Int), .int .u8 ((lo s[k]).toNat : Int)] (by rfl) (by rfl) (World.news_of_block (cs := #[.int .u8 ((hi s[k]).toNat : Int), .int .u8 ((lo s[k]).toNat : Int)]) (t := 5) (fr := (0, 0)) (heap_alloc_new wr _)) (by simp [Value.oneCell'])
            (by omega) (by unfold maxLen; omega) (by omega) (by simp; omega) (wr.heap.size + 1) (by simp) ?_; intro gg cap w1 hown1 hgrow hat hlt1))
      go_wp2_with fail
      all_goals exact ⟨⟨k + 1, by omega, by go_num, HS.out ▸ hown1, grow_kept hown hb hgrow⟩, by simp [intOf]; omega⟩
    · obtain rfl : k = s.size := by omega
      have hcv := conv_own (by rw [ofL_length, List.length_take, L_size]; omega) hown
      rw [← L_size, List.take_length] at hcv
      clear hown
      go_wp2_with fail
      go_ret
      exact ⟨rfl, hb⟩

set_option maxHeartbeats 1000000 in
theorem refCommon_any (s t : ByteArray) (hs : s.size ≤ 5000) (ht : t.size ≤ 5000) (w : World) :
    Calls Tryd.prog 45 #[.string s, .string t] w fun e w' => e = .returned (.int .i64 (comN (L s) (L t) : Nat)) ∧ Kept w w' := by
  have hne : Nonempty (KeptW w) := ⟨⟨w, Kept.refl w⟩⟩
  go_enter Tryd.func45, Tryd.ntmps45
  go_wp2_with fail
  go_loopw [5] (fun i wr => ∃ k : Nat, k ≤ s.size ∧ k ≤ t.size ∧ i = .int .i64 k ∧ (L s).take k = (L t).take k ∧ Kept w wr) (fun i _ => s.size - (intOf i).toNat)
  case atStart => exact ⟨0, by omega, by omega, rfl, rfl, Kept.refl _⟩
  case round =>
    obtain ⟨k, hk1, hk2, rfl, hpre, hkept⟩ := hrel
    have HP : Hid ((L s).take k = (L t).take k) := hpre
    clear hpre
    by_cases h1 : k < s.size
    · have n1 : decide (k < s.size) = true := decide_eq_true h1
      by_cases h2 : k < t.size
      · have n2 : decide (k < t.size) = true := decide_eq_true h2
        have hc : Hid ((L s)[k]? = some s[k]) := L_get s k h1
        have hd : Hid ((L t)[k]? = some t[k]) := L_get t k h2
        by_cases he : s[k] = t[k]
        · have hb : ((s[k].toNat : Int) == (t[k].toNat : Int)) = true := by rw [he]; simp
          have HE : Hid (s[k] = t[k]) := he
          clear he
          go_wp2_with fail
          refine region_kept w hkept (by kernel_rfl) (by kernel_rfl) ?_
          repeat (go_big_quiet_step (fail))
          refine wpQuiet_nil ?_
          rintro _ ⟨⟨w5, hk5⟩, rfl⟩
          go_wp2_with fail
          exact ⟨⟨k + 1, by omega, by omega, by go_num, com_step HP.out (hc.out.trans (by rw [HE.out])) hd.out, hk5⟩, by simp [intOf]; omega⟩
        · have hb : ((s[k].toNat : Int) == (t[k].toNat : Int)) = false := by
            rw [beq_eq_false_iff_ne]; intro h; exact he (UInt8.toNat_inj.1 (by omega))
          have HE : Hid (comN (L s) (L t) = k) := comN_stop _ _ _ HP.out (by rw [L_size]; omega) (by rw [L_size]; omega) (.inr (.inr ⟨_, _, hc.out, hd.out, he⟩))
          clear he
          go_wp2_with fail
          refine region_kept w hkept (by kernel_rfl) (by kernel_rfl) ?_
          repeat (go_big_quiet_step (fail))
          refine wpQuiet_nil ?_
          rintro _ ⟨⟨w5, hk5⟩, rfl⟩
          go_wp2_with fail
          go_ret
          exact ⟨ret_int (by rw [HE.out]), hk5⟩
      · have n2 : decide (k < t.size) = false := decide_eq_false h2
        have HE : Hid (comN (L s) (L t) = k) := comN_stop _ _ _ HP.out (by rw [L_size]; omega) (by rw [L_size]; omega) (by rw [L_size, L_size]; omega)
        go_wp2_with fail
        refine region_kept w hkept (by kernel_rfl) (by kernel_rfl) ?_
        repeat (go_big_quiet_step (fail))
        refine wpQuiet_nil ?_
        rintro _ ⟨⟨w5, hk5⟩, rfl⟩
        go_wp2_with fail
        go_ret
        exact ⟨ret_int (by rw [HE.out]), hk5⟩
    · have n1 : decide (k < s.size) = false := decide_eq_false h1
      have HE : Hid (comN (L s) (L t) = k) := comN_stop _ _ _ HP.out (by rw [L_size]; omega) (by rw [L_size]; omega) (by rw [L_size, L_size]; omega)
      go_wp2_with fail
      refine region_kept w hkept (by kernel_rfl) (by kernel_rfl) ?_
      repeat (go_big_quiet_step (fail))
      refine wpQuiet_nil ?_
      rintro _ ⟨⟨w5, hk5⟩, rfl⟩
      go_wp2_with fail
      go_ret
      exact ⟨ret_int (by rw [HE.out]), hk5⟩

end Go.Proofs.YtjpjcojabjkaaaaDoor
namespace Go.Proofs.YtjpjcojabjkaaaaDoor
open Go.RowKit
set_option maxRecDepth 20000

theorem joinL_append (x y : List UInt8) (h : x.length % 2 = 0) : joinL (x ++ y) = joinL x ++ joinL y := by
  induction x using pairs with
  | h0 => rfl
  | h1 a => simp at h
  | h2 a b l ih =>
    simp only [List.length_cons] at h
    show two a b :: joinL (l ++ y) = two a b :: (joinL l ++ joinL y)
    rw [ih (by omega)]
theorem joinL_step (l : List UInt8) (m : Nat) (a b : UInt8) (ha : l[2 * m]? = some a) (hb : l[2 * m + 1]? = some b) : joinL (l.take (2 * (m + 1))) = joinL (l.take (2 * m)) ++ [two a b] := by
  have h1 : 2 * m < l.length := (List.getElem?_eq_some_iff.1 ha).1
  rw [show 2 * (m + 1) = 2 * m + 1 + 1 by omega, List.take_add_one, List.take_add_one, ha, hb, List.append_assoc, joinL_append _ _ (by rw [List.length_take]; omega)]
  rfl
theorem bcell {W w1 : World} (hb : Below W.heap.size W w1) : (∀ b o, b < W.heap.size → w1.cell? ⟨b, o, none⟩ = W.cell? ⟨b, o, none⟩) ∧ (∀ b o, b < W.heap.size → w1.frozen? ⟨b, o, none⟩ = W.frozen? ⟨b, o, none⟩) :=
  ⟨fun b o h => hb.cell (p := ⟨b, o, none⟩) h, fun b o h => hb.frozen (p := ⟨b, o, none⟩) h⟩

theorem boxed {w wr : World} {a b : Value} {t : TypeId} (hb : Below (w.heap.size + 1) (w.alloc (.cells #[a, b] t)) wr) :
    wr.cell? ⟨w.heap.size, 0, none⟩ = some a ∧ wr.cell? ⟨w.heap.size, 1, none⟩ = some b ∧ wr.frozen? ⟨w.heap.size, 0, none⟩ = false ∧ wr.frozen? ⟨w.heap.size, 1, none⟩ = false ∧ Below w.heap.size w wr ∧ w.heap.size + 1 ≤ wr.heap.size := by
  refine ⟨?_, ?_, ?_, ?_, ?_, ?_⟩
  · rw [hb.cell (p := ⟨w.heap.size, 0, none⟩) (by simp)]; simp
  · rw [hb.cell (p := ⟨w.heap.size, 1, none⟩) (by simp)]; simp
  · rw [hb.frozen (p := ⟨w.heap.size, 0, none⟩) (by simp)]; simp
  · rw [hb.frozen (p := ⟨w.heap.size, 1, none⟩) (by simp)]; simp
  · exact ((Below.refl _ _).alloc (Nat.le_refl _) _).trans (hb.mono (by omega))
  · have := hb.size; simpa using this

set_option maxHeartbeats 1000000 in
theorem refKey_core (s : ByteArray) (hs : s.size ≤ 5000) (r : ByteArray) (ok : Bool) (HR : Hid ((keyB (L s) = true ∧ r = bs (joinL (L s)) ∧ ok = true) ∨ (keyB (L s) = false ∧ r = bs [] ∧ ok = false))) (w : World) :
    Calls Tryd.prog 36 #[.string s] w fun e w' => e = .returned (.agg #[.string r, .bool ok]) ∧ Below w.heap.size w w' := by
  obtain ⟨i0, hi0, hz0, hz1, hz2⟩ := info_parts info5
  go_enter Tryd.func36, Tryd.ntmps36
  go_wp2_with fail
  go_loopw [3, 4] (fun v i wr => ∃ k : Nat, k ≤ s.size ∧ i = .int .i64 k ∧ (k = 0 ∨ s.size % 2 = 0) ∧ (∀ (j : Nat) c, j < k → (L s)[j]? = some c → c.toNat < 16) ∧
      wr.ownsRow (w.heap.size + 1) 5 1 v (k / 2) (cellsL (joinL ((L s).take (2 * (k / 2))))) ∧ Below (w.heap.size + 1) (w.alloc (.cells #[.string ⟨#[]⟩, .bool false] 79)) wr) (fun _ i _ => s.size - (intOf i).toNat)
  case atStart => exact ⟨0, by omega, rfl, .inl rfl, (fun j c h => absurd h (by omega)), World.ownsRow_nil _ _ _ _, Below.refl _ _⟩
  case round =>
    obtain ⟨k, hk, rfl, hev, hall, hown, hb⟩ := hrel
    have HV : Hid (k = 0 ∨ s.size % 2 = 0) := hev
    have HA : Hid (∀ (j : Nat) c, j < k → (L s)[j]? = some c → c.toNat < 16) := hall
    obtain ⟨c0, c1, f0, f1, hbw, hB⟩ := boxed hb
    clear hev hall
    by_cases hlt : k < s.size
    · have hc : Hid ((L s)[k]? = some s[k]) := L_get s k hlt
      by_cases h16 : (s[k]).toNat < 16
      · have ht : decide ((15 : Int) < (s[k].toNat : Int)) = false := decide_eq_false (by omega)
        by_cases ho : s.size % 2 = 1
        · have ho1 : ((s.size : Int) % 2 != 0) = true := by rw [bne_iff_ne]; omega
          have HF : Hid (keyB (L s) = false) := by show _ = _; unfold keyB; rw [L_size, show oddB s.size = true from decide_eq_true ho]; rfl
          clear ho
          obtain ⟨rfl, rfl⟩ : r = bs [] ∧ ok = false := by
            rcases HR.out with h | h
            · rw [HF.out] at h; cases h.1
            · exact h.2
          go_wp2_with fail
          exact bodyPost_ret (v := .agg #[.string (bs []), .bool false]) (by simp [results, Tryd.results36, go_sem, c0, c1]; rfl) rfl ⟨rfl, (hbw.setCell (by simp) _).setCell (by simp) _⟩
        · have ho1 : ((s.size : Int) % 2 != 0) = false := by rw [bne_eq_false_iff_eq]; omega
          have he : s.size % 2 = 0 := by omega
          have HN : Hid (∀ (j : Nat) c, j < k + 1 → (L s)[j]? = some c → c.toNat < 16) := fun j c hj hjc => by
            by_cases e : j = k
            · subst e; rw [hc.out] at hjc; cases hjc; exact h16
            · exact HA.out j c (by omega) hjc
          by_cases hodd : k % 2 = 1
          · have ho2 : ((k : Int) % 2 == 1) = true := by rw [beq_iff_eq]; omega
            obtain ⟨m, hm⟩ : ∃ m, k - 1 = m := ⟨_, rfl⟩
            have hm1 : (k : Int) - 1 = (m : Int) := by omega
            have hms : m < s.size := by omega
            have hm0 : (0 : Int) ≤ (m : Int) := by omega
            have hms1 : (m : Int) < (s.size : Int) := by omega
            have hmw : IntKind.i64.wrap (m : Int) = (m : Int) := by rw [IntKind.wrap_i64]; omega
            have hcm : Hid ((L s)[m]? = some s[m]) := L_get s m hms
            have h16m : (s[m]).toNat < 16 := HA.out m _ (by omega) hcm.out
            obtain ⟨t, ht2⟩ : ∃ t, (two s[m] s[k]).toNat = t := ⟨_, rfl⟩
            have hmul : IntKind.u8.wrap ((s[m].toNat : Int) * 16) = (s[m].toNat : Int) * 16 := by rw [IntKind.wrap_u8]; omega
            have hadd : IntKind.u8.wrap ((s[m].toNat : Int) * 16 + (s[k].toNat : Int)) = (t : Int) := by rw [IntKind.wrap_u8, ← ht2, two_nat]; omega
            have HS : Hid (cellsL (joinL ((L s).take (2 * (k / 2)))) ++ [.int .u8 (t : Int)] = cellsL (joinL ((L s).take (2 * ((k + 1) / 2)))) ∧ k / 2 + 1 = (k + 1) / 2) := by
              refine ⟨?_, by omega⟩
              rw [show (k + 1) / 2 = k / 2 + 1 by omega, joinL_step (L s) (k / 2) s[m] s[k] (by rw [show 2 * (k / 2) = m by omega]; exact hcm.out) (by rw [show 2 * (k / 2) + 1 = k by omega]; exact hc.out), cellsL_append, ← ht2]
              rfl
            have HE : Hid (s.size % 2 = 0) := he
            clear ht2 he ho hm hodd
            go_wp2_with fail
            go_region_held3 (fun _ => True) (trivial)
              ((refine step_append_lies _ (by rfl) _ _ _ (by rfl) (w.heap.size + 1) 5 i0 _ 1 1 Tryd.underlying50 hi0 hz0 hz1 hz2 rfl (by omega) u3 (k / 2) (cellsL (joinL ((L s).take (2 * (k / 2))))) (by rfl) ((hown.alloc _).drew)
                  ⟨wr.heap.size, 0, none⟩ 1 1 [.int .u8 (t : Int)] (by rfl) (by rfl) (World.news_of_block (cs := #[.int .u8 (t : Int)]) (t := 5) (fr := (0, 0)) (heap_alloc_new wr _)) (by simp [Value.oneCell'])
                  (by omega) (by unfold maxLen; omega) (by omega) (by simp; omega) (wr.heap.size + 1) (by simp) ?_; intro gg cap w1 hown1 hgrow hat hlt1))
            go_wp2_with fail
            all_goals
              rw [HS.out.1, HS.out.2] at hown1
              refine ⟨⟨k + 1, by omega, by go_num, .inr HE.out, HN.out, ?_, ((hb.alloc hB _).drew).grown hgrow (by simp; omega) fun j hj => (hown.lt j hj).1⟩, by simp [intOf]; omega⟩
              rw [← HS.out.2] at hown1 ⊢
              exact hown1
          · have ho2 : ((k : Int) % 2 == 1) = false := by rw [beq_eq_false_iff_ne]; omega
            have HQ : Hid ((k + 1) / 2 = k / 2) := by show _ = _; omega
            clear hodd
            go_wp2_with fail
            exact ⟨⟨k + 1, by omega, by go_num, .inr he, HN.out, by rw [HQ.out]; exact hown, hb⟩, by simp [intOf]; omega⟩
      · have ht : decide ((15 : Int) < (s[k].toNat : Int)) = true := decide_eq_true (by omega)
        have HF : Hid (keyB (L s) = false) := by show _ = _; unfold keyB; rw [halvesB_bad hc.out h16, Bool.and_false]
        obtain ⟨rfl, rfl⟩ : r = bs [] ∧ ok = false := by
          rcases HR.out with h | h
          · rw [HF.out] at h; cases h.1
          · exact h.2
        go_wp2_with fail
        exact bodyPost_ret (v := .agg #[.string (bs []), .bool false]) (by simp [results, Tryd.results36, go_sem, c0, c1]; rfl) rfl ⟨rfl, (hbw.setCell (by simp) _).setCell (by simp) _⟩
    · obtain rfl : k = s.size := by omega
      have he : s.size % 2 = 0 := by have := HV.out; omega
      have hcv := conv_own (by rw [joinL_length, List.length_take, L_size]; omega) hown
      rw [show 2 * (s.size / 2) = s.size by omega, ← L_size, List.take_length] at hcv
      have HF : Hid (keyB (L s) = true) := by
        show _ = _
        unfold keyB
        rw [L_size, show oddB s.size = false from decide_eq_false (by omega), halvesB_good fun j c h => HA.out j c (by rw [← L_size s]; exact (List.getElem?_eq_some_iff.1 h).1) h]; rfl
      clear hown
      obtain ⟨rfl, rfl⟩ : r = bs (joinL (L s)) ∧ ok = true := by
        rcases HR.out with h | h
        · exact h.2
        · rw [HF.out] at h; cases h.1
      go_wp2_with fail
      exact bodyPost_ret (v := .agg #[.string (bs (joinL (L s))), .bool true]) (by simp [results, Tryd.results36, go_sem, c0, c1]) rfl ⟨rfl, (hbw.setCell (by simp) _).setCell (by simp) _⟩

theorem refKey_any (s : ByteArray) (hs : s.size ≤ 5000) (w : World) :
    Calls Tryd.prog 36 #[.string s] w fun e w' => e = .returned (.agg #[.string (if keyB (L s) then bs (joinL (L s)) else bs []), .bool (keyB (L s))]) ∧ Below w.heap.size w w' := by
  cases h : keyB (L s)
  · exact refKey_core s hs (bs []) false (.inr ⟨h, rfl, rfl⟩) w
  · exact refKey_core s hs (bs (joinL (L s))) true (.inl ⟨h, rfl, rfl⟩) w

end Go.Proofs.YtjpjcojabjkaaaaDoor
namespace Go.Proofs.YtjpjcojabjkaaaaDoor
open Go.RowKit
set_option maxRecDepth 20000

theorem comN_facts : ∀ l m : List UInt8, comN l m ≤ l.length ∧ comN l m ≤ m.length ∧ l.take (comN l m) = m.take (comN l m) ∧
    (comN l m = l.length ∨ comN l m = m.length ∨ ∃ a b, l[comN l m]? = some a ∧ m[comN l m]? = some b ∧ a ≠ b) := by
  intro l
  induction l with
  | nil => intro m; cases m <;> exact ⟨Nat.zero_le _, Nat.zero_le _, rfl, .inl rfl⟩
  | cons a l ih =>
    intro m
    cases m with
    | nil => exact ⟨Nat.zero_le _, Nat.zero_le _, rfl, .inr (.inl rfl)⟩
    | cons b m =>
      by_cases h : a = b
      · subst h
        have e : comN (a :: l) (a :: m) = comN l m + 1 := by show (if a = a then _ else _) = _; rw [if_pos rfl]
        rw [e]
        obtain ⟨h1, h2, h3, h4⟩ := ih m
        refine ⟨by simp only [List.length_cons]; omega, by simp only [List.length_cons]; omega, by rw [List.take_succ_cons, List.take_succ_cons, h3], ?_⟩
        rcases h4 with h | h | ⟨x, y, hx, hy, hne⟩
        · exact .inl (by simp only [List.length_cons]; omega)
        · exact .inr (.inl (by simp only [List.length_cons]; omega))
        · exact .inr (.inr ⟨x, y, hx, hy, hne⟩)
      · have e : comN (a :: l) (b :: m) = 0 := by show (if a = b then _ else _) = _; rw [if_neg h]
        rw [e]
        exact ⟨Nat.zero_le _, Nat.zero_le _, rfl, .inr (.inr ⟨a, b, rfl, rfl, h⟩)⟩
theorem comN_symm (l m : List UInt8) : comN l m = comN m l := by
  obtain ⟨h1, h2, h3, h4⟩ := comN_facts m l
  refine comN_stop l m _ h3.symm h2 h1 ?_
  rcases h4 with h | h | ⟨x, y, hx, hy, hne⟩
  · exact .inr (.inl h)
  · exact .inl h
  · exact .inr (.inr ⟨y, x, hy, hx, fun e => hne e.symm⟩)
theorem comN_self (l : List UInt8) : comN l l = l.length := comN_stop l l _ rfl (Nat.le_refl _) (Nat.le_refl _) (.inl rfl)
/-- Halves have twice as many in common, or one more. -/
theorem comN_of : ∀ l m : List UInt8, comN (ofL l) (ofL m) = 2 * comN l m ∨
    (comN (ofL l) (ofL m) = 2 * comN l m + 1 ∧ ∃ a b, l[comN l m]? = some a ∧ m[comN l m]? = some b ∧ a ≠ b ∧ hi a = hi b) := by
  intro l
  induction l with
  | nil => intro m; left; cases m <;> rfl
  | cons a l ih =>
    intro m
    cases m with
    | nil => left; rfl
    | cons b m =>
      have e0 : comN (ofL (a :: l)) (ofL (b :: m)) = if hi a = hi b then (if lo a = lo b then comN (ofL l) (ofL m) + 1 else 0) + 1 else 0 := rfl
      by_cases h : a = b
      · subst h
        have e : comN (a :: l) (a :: m) = comN l m + 1 := by show (if a = a then _ else _) = _; rw [if_pos rfl]
        rw [e0, e, if_pos rfl, if_pos rfl]
        rcases ih m with h | ⟨h, x, y, hx, hy, hne, hh⟩
        · left; omega
        · right; exact ⟨by omega, x, y, hx, hy, hne, hh⟩
      · have e : comN (a :: l) (b :: m) = 0 := by show (if a = b then _ else _) = _; rw [if_neg h]
        rw [e0, e]
        by_cases hh : hi a = hi b
        · rw [if_pos hh]
          by_cases hl : lo a = lo b
          · exact absurd (by rw [← two_hi_lo a, ← two_hi_lo b, hh, hl]) h
          · rw [if_neg hl]
            right
            exact ⟨rfl, a, b, rfl, rfl, h, hh⟩
        · rw [if_neg hh]; left; rfl

end Go.Proofs.YtjpjcojabjkaaaaDoor
namespace Go.Proofs.YtjpjcojabjkaaaaDoor
set_option maxRecDepth 20000

abbrev Bt := List UInt8
abbrev Pr := Bt × Bt

/-- A node. -/
structure Nd where
  kind : Int
  path : Bt
  has : Bool
  val : Bt
  kids : List Int
deriving DecidableEq
abbrev NP := Nd × Bt

/-- Order of lists of bytes. -/
def ltL : Bt → Bt → Prop
  | _, [] => False
  | [], _ :: _ => True
  | a :: l, b :: m => a.toNat < b.toNat ∨ (a = b ∧ ltL l m)
theorem ltL_irrefl : ∀ l : Bt, ¬ ltL l l
  | [] => fun h => h
  | a :: l => fun h => by
    rcases h with h | ⟨_, h⟩
    · omega
    · exact ltL_irrefl l h
theorem ltL_trans : ∀ {a b c : Bt}, ltL a b → ltL b c → ltL a c
  | [], [], _, h, _ => h.elim
  | _ :: _, [], _, h, _ => h.elim
  | _, _ :: _, [], _, h => h.elim
  | [], _ :: _, _ :: _, _, _ => trivial
  | x :: a, y :: b, z :: c, h, k => by
    rcases h with h | ⟨rfl, h⟩
    · rcases k with k | ⟨rfl, k⟩
      · exact .inl (by omega)
      · exact .inl h
    · rcases k with k | ⟨rfl, k⟩
      · exact .inl k
      · exact .inr ⟨rfl, ltL_trans h k⟩
theorem ltL_append (p : Bt) (a b : Bt) : ltL (p ++ a) (p ++ b) ↔ ltL a b := by
  induction p with
  | nil => exact Iff.rfl
  | cons x p ih =>
    constructor
    · rintro (h | ⟨_, h⟩)
      · omega
      · exact ih.1 h
    · exact fun h => .inr ⟨rfl, ih.2 h⟩
theorem ltL_prefix (p : Bt) {x : Bt} (h : x ≠ []) : ltL p (p ++ x) := by
  have := (ltL_append p [] x).2 (by cases x with
    | nil => exact absurd rfl h
    | cons _ _ => trivial)
  simpa using this
theorem ltL_part {p a b : Bt} {x y : UInt8} (h : x.toNat < y.toNat) : ltL (p ++ x :: a) (p ++ y :: b) := (ltL_append p _ _).2 (.inl h)
/-- What lies between two lists that begin alike begins so too. -/
theorem ltL_between : ∀ (p : Bt) {a b c : Bt}, ltL a b → ltL b c → p <+: a → p <+: c → p <+: b
  | [], _, _, _, _, _, _, _ => List.nil_prefix
  | x :: p, a, b, c, h, k, ⟨a', ha⟩, ⟨c', hc⟩ => by
    subst ha hc
    cases b with
    | nil => exact h.elim
    | cons y b =>
      have hxy : x = y := by
        rcases h with h | ⟨h, _⟩
        · rcases k with k | ⟨k, _⟩
          · exact absurd h (by omega)
          · exact k.symm
        · exact h
      subst hxy
      have h' : ltL (p ++ a') b := h.elim (fun h => absurd h (by omega)) (·.2)
      have k' : ltL b (p ++ c') := k.elim (fun h => absurd h (by omega)) (·.2)
      obtain ⟨r, hr⟩ := ltL_between p h' k' ⟨_, rfl⟩ ⟨_, rfl⟩
      exact ⟨r, by rw [← hr]; rfl⟩
theorem comN_le (a b : Bt) : comN a b ≤ a.length ∧ comN a b ≤ b.length := ⟨(comN_facts a b).1, (comN_facts a b).2.1⟩
theorem comN_take (a b : Bt) : a.take (comN a b) = b.take (comN a b) := (comN_facts a b).2.2.1
/-- Behind what they have in common lists are at an end, or unlike. -/
theorem comN_rest : ∀ a b : Bt, comN (a.drop (comN a b)) (b.drop (comN a b)) = 0
  | [], _ => by simp [comN]
  | _ :: _, [] => by simp [comN]
  | x :: a, y :: b => by
    by_cases h : x = y
    · subst h
      have e : comN (x :: a) (x :: b) = comN a b + 1 := by show (if x = x then _ else _) = _; rw [if_pos rfl]
      rw [e]; exact comN_rest a b
    · have e : comN (x :: a) (y :: b) = 0 := by show (if x = y then _ else _) = _; rw [if_neg h]
      rw [e]; exact e

/-- The half of a pair's key at a place. -/
def nib (p : Pr) (at_ : Nat) : Nat := (p.1.getD at_ 0).toNat
def grp (l : List Pr) (at_ h : Nat) : List Pr := l.filter fun p => nib p at_ == h
def no16 : List Int := List.replicate 16 0
def leafN (p v : Bt) : Nd := ⟨1, p, true, v, no16⟩
def extN (p : Bt) (k : Int) : Nd := ⟨2, p, false, [], no16.set 0 k⟩
def brN (h : Bool) (v : Bt) (ks : List Int) : Nd := ⟨3, [], h, v, ks⟩

/-- A Branch's children up to a half: their numbers, their nodes. -/
def kidsW (G : List Pr → Nat → List NP) (gs : Nat → List Pr) (b : Nat) : Nat → List Int × List NP
  | 0 => (no16, [])
  | h + 1 =>
    let s := kidsW G gs b h
    if gs h = [] then s else (s.1.set h ((b + s.2.length : Nat) : Int), s.2 ++ G (gs h) (b + s.2.length))
/-- Has the first key ended? -/
def endsB (l : List Pr) (at_ : Nat) : Bool := match l with | [] => false | p :: _ => decide (p.1.length = at_)
def restL (l : List Pr) (at_ : Nat) : List Pr := if endsB l at_ then l.tail else l
def headV (l : List Pr) (at_ : Nat) : Bt := if endsB l at_ then (match l with | [] => [] | p :: _ => p.2) else []
def headP (l : List Pr) (n : Nat) : Bt := match l with | [] => [] | p :: _ => p.1.take n
def forkW (G : List Pr → Nat → List NP) (l : List Pr) (at_ b : Nat) : List NP :=
  let s := kidsW G (fun h => grp (restL l at_) at_ h) (b + 1) 16
  (brN (endsB l at_) (headV l at_) s.1, headP l at_) :: s.2
def lastL (l : List Pr) : Bt := match l.getLast? with | none => [] | some p => p.1
def headK (l : List Pr) : Bt := match l with | [] => [] | p :: _ => p.1
def headVal (l : List Pr) : Bt := match l with | [] => [] | p :: _ => p.2
def comG (l : List Pr) (n : Nat) : Nat := comN ((headK l).drop n) ((lastL l).drop n)
/-- The nodes of pairs, from a place on, numbered from b on, and the nibbles that lead to each. -/
def grow : Nat → List Pr → Nat → Nat → List NP
  | 0, _, _, _ => []
  | f + 1, l, n, b =>
    if l.length = 0 then []
    else if l.length = 1 then [(leafN ((headK l).drop n) (headVal l), (headK l).take n)]
    else if comG l n = 0 then forkW (fun g => grow f g (n + 1)) l n b
    else (extN (((headK l).drop n).take (comG l n)) ((b + 1 : Nat) : Int), (headK l).take n) :: forkW (fun g => grow f g (n + comG l n + 1)) l (n + comG l n) (b + 1)

end Go.Proofs.YtjpjcojabjkaaaaDoor
namespace Go.Proofs.YtjpjcojabjkaaaaDoor
set_option maxRecDepth 20000

structure Fit (l : List Pr) (n : Nat) : Prop where
  len : ∀ p ∈ l, n ≤ p.1.length ∧ p.1.length ≤ 16
  half : ∀ p ∈ l, ∀ c ∈ p.1, c.toNat < 16
  rise : l.Pairwise (fun p q => ltL p.1 q.1)
  same : ∀ p ∈ l, ∀ q ∈ l, p.1.take n = q.1.take n
theorem Fit.sub {l m : List Pr} {n : Nat} (h : Fit l n) (k : m.Sublist l) : Fit m n :=
  ⟨fun p hp => h.len p (k.subset hp), fun p hp => h.half p (k.subset hp), h.rise.sublist k, fun p hp q hq => h.same p (k.subset hp) q (k.subset hq)⟩
theorem headK_mem {l : List Pr} (h : l ≠ []) : ∃ p ∈ l, p.1 = headK l ∧ p.2 = headVal l ∧ ∃ r, l = p :: r := by
  cases l with
  | nil => exact absurd rfl h
  | cons p r => exact ⟨p, by simp, rfl, rfl, r, rfl⟩
theorem lastL_mem {l : List Pr} (h : l ≠ []) : ∃ p ∈ l, p.1 = lastL l ∧ l.getLast? = some p := by
  refine ⟨l.getLast h, List.getLast_mem h, ?_, List.getLast?_eq_some_getLast h⟩
  unfold lastL
  rw [List.getLast?_eq_some_getLast h]
theorem Fit.headP {l : List Pr} {n : Nat} (h : Fit l n) {p : Pr} (hp : p ∈ l) : p.1.take n = (headK l).take n := by
  obtain ⟨q, hq, e, _⟩ := headK_mem (List.ne_nil_of_mem hp)
  rw [← e]; exact h.same p hp q hq
/-- All lie between the first and the last. -/
theorem Fit.between {l : List Pr} {n : Nat} (h : Fit l n) {p : Pr} (hp : p ∈ l) : (headK l = p.1 ∨ ltL (headK l) p.1) ∧ (p.1 = lastL l ∨ ltL p.1 (lastL l)) := by
  have hne : l ≠ [] := List.ne_nil_of_mem hp
  have hr := h.rise
  constructor
  · obtain ⟨q, _, e, _, r, hl⟩ := headK_mem hne
    rw [← e]
    subst hl
    rcases List.mem_cons.1 hp with rfl | h1
    · exact .inl rfl
    · exact .inr ((List.pairwise_cons.1 hr).1 p h1)
  · obtain ⟨q, _, e, hq⟩ := lastL_mem hne
    rw [← e]
    obtain ⟨r, hl⟩ := List.getLast?_eq_some_iff.1 hq
    subst hl
    rw [List.pairwise_append] at hr
    rcases List.mem_append.1 hp with h1 | h1
    · exact .inr (hr.2.2 p h1 q (by simp))
    · obtain rfl : p = q := by simpa using h1
      exact .inl rfl
theorem take_prefix_of {a b : Bt} {n : Nat} (h : a.take n = b.take n) : a.take n <+: b := by rw [h]; exact List.take_prefix _ _
theorem prefix_take {a b : Bt} (h : a <+: b) {n : Nat} (hn : a.length = n) : b.take n = a := by
  subst hn; exact (List.prefix_iff_eq_take.1 h).symm
theorem drop_take_more {a b : Bt} {n c : Nat} (h : a.take n = b.take n) (k : (a.drop n).take c = (b.drop n).take c) : a.take (n + c) = b.take (n + c) := by
  rw [List.take_add, List.take_add, h, k]
/-- What the first and the last have in common all have. -/
theorem Fit.com {l : List Pr} {n : Nat} (h : Fit l n) (hne : l ≠ []) : Fit l (n + comG l n) ∧ n + comG l n ≤ (headK l).length := by
  obtain ⟨p0, hp0, e0, _⟩ := headK_mem hne
  obtain ⟨p1, hp1, e1, _⟩ := lastL_mem hne
  have hle := comN_le ((headK l).drop n) ((lastL l).drop n)
  rw [List.length_drop, List.length_drop] at hle
  have hl0 := h.len p0 hp0
  have hl1 := h.len p1 hp1
  rw [e0] at hl0
  rw [e1] at hl1
  have hsame : (headK l).take (n + comG l n) = (lastL l).take (n + comG l n) :=
    drop_take_more (by rw [← e0, ← e1]; exact h.same _ hp0 _ hp1) (comN_take _ _)
  have hle' : comG l n ≤ (headK l).length - n := hle.1
  have hlen : ((headK l).take (n + comG l n)).length = n + comG l n := by rw [List.length_take]; omega
  have key : ∀ p ∈ l, (headK l).take (n + comG l n) <+: p.1 := by
    intro p hp
    obtain ⟨h1, h2⟩ := h.between hp
    rcases h1 with h1 | h1
    · rw [← h1]; exact List.take_prefix _ _
    · rcases h2 with h2 | h2
      · rw [h2, hsame]; exact List.take_prefix _ _
      · exact ltL_between _ h1 h2 (List.take_prefix _ _) (take_prefix_of hsame)
  refine ⟨⟨fun p hp => ⟨?_, (h.len p hp).2⟩, h.half, h.rise, fun p hp q hq => ?_⟩, by omega⟩
  · have := (key p hp).length_le; omega
  · rw [prefix_take (key p hp) hlen, prefix_take (key q hq) hlen]

/-- Pairs that part at a place. -/
structure Fork (l : List Pr) (n : Nat) : Prop where
  fit : Fit l n
  two : 2 ≤ l.length
  part : comG l n = 0
theorem Fork.ne {l : List Pr} {n : Nat} (h : Fork l n) : l ≠ [] := by intro e; have := h.two; rw [e] at this; simp at this
theorem comG_again {l : List Pr} {n : Nat} : comG l (n + comG l n) = 0 := by
  show comN ((headK l).drop (n + comG l n)) ((lastL l).drop (n + comG l n)) = 0
  rw [← List.drop_drop, ← List.drop_drop]
  exact comN_rest _ _
theorem Fit.fork {l : List Pr} {n : Nat} (h : Fit l n) (h2 : 2 ≤ l.length) : Fork l (n + comG l n) :=
  ⟨(h.com (by intro e; rw [e] at h2; simp at h2)).1, h2, comG_again⟩
theorem nib_eq {p : Pr} {n : Nat} (h : n < p.1.length) : p.1.drop n = UInt8.ofNat (nib p n) :: p.1.drop (n + 1) := by
  rw [List.drop_eq_getElem_cons h]
  unfold nib
  rw [List.getD_eq_getElem?_getD, List.getElem?_eq_getElem h]
  simp
theorem key_split {p : Pr} {n : Nat} (h : n < p.1.length) : p.1 = p.1.take n ++ UInt8.ofNat (nib p n) :: p.1.drop (n + 1) := by
  rw [← nib_eq h, List.take_append_drop]
theorem take_succ_nib {p : Pr} {n : Nat} (h : n < p.1.length) : p.1.take (n + 1) = p.1.take n ++ [UInt8.ofNat (nib p n)] := by
  rw [List.take_add_one, List.getElem?_eq_getElem h]
  unfold nib
  rw [List.getD_eq_getElem?_getD, List.getElem?_eq_getElem h]
  simp
theorem Fit.nib_lt {l : List Pr} {n : Nat} (h : Fit l n) {p : Pr} (hp : p ∈ l) {k : Nat} (hk : k < p.1.length) : nib p k < 16 := by
  unfold nib
  rw [List.getD_eq_getElem?_getD, List.getElem?_eq_getElem hk]
  exact h.half p hp _ (List.getElem_mem hk)
theorem ends_iff {l : List Pr} {n : Nat} (hne : l ≠ []) : endsB l n = true ↔ (headK l).length = n := by
  cases l with
  | nil => exact absurd rfl hne
  | cons p r => exact decide_eq_true_iff
theorem rest_sub (l : List Pr) (n : Nat) : (restL l n).Sublist l := by
  unfold restL; split
  · exact List.tail_sublist l
  · exact List.Sublist.refl l
theorem ltL_long : ∀ {a b : Bt} {n : Nat}, ltL a b → a.take n = b.take n → n ≤ a.length → n ≤ b.length → n < b.length
  | a, b, n, h, k, ha, hb => by
    rcases Nat.lt_or_ge n b.length with h1 | h1
    · exact h1
    · have e : n = b.length := by omega
      have hb' : b.take n = b := List.take_of_length_le (by omega)
      rw [hb'] at k
      have : a = b ++ a.drop n := by rw [← k, List.take_append_drop]
      rw [this] at h
      have := (ltL_append b (a.drop n) []).1 (by simpa using h)
      cases hx : a.drop n <;> rw [hx] at this <;> exact this.elim
/-- Where they part all but a first one that ends are longer. -/
theorem Fork.long {l : List Pr} {n : Nat} (h : Fork l n) : ∀ p ∈ restL l n, n < p.1.length := by
  intro p hp
  have hr := h.fit.rise
  obtain ⟨q, hq, e, _, r, hl⟩ := headK_mem h.ne
  unfold restL at hp
  have tail_long : ∀ p ∈ r, n < p.1.length := by
    intro p hp'
    have hp'' : p ∈ l := by rw [hl]; exact List.mem_cons_of_mem _ hp'
    rw [hl] at hr
    exact ltL_long ((List.pairwise_cons.1 hr).1 p hp') (h.fit.same q hq p hp'') (h.fit.len q hq).1 (h.fit.len p hp'').1
  split at hp
  · rw [hl] at hp; exact tail_long p hp
  · next hb =>
    rw [hl] at hp
    rcases List.mem_cons.1 hp with rfl | h1
    · have h2 := (h.fit.len p hq).1
      have h3 : ¬ (headK l).length = n := fun e => hb ((ends_iff h.ne).2 e)
      rw [← e] at h3
      omega
    · exact tail_long p h1
theorem Fork.restfit {l : List Pr} {n : Nat} (h : Fork l n) : Fit (restL l n) n := h.fit.sub (rest_sub l n)
theorem ltL_cons {p : Bt} {a b : UInt8} {x y : Bt} (h : ltL (p ++ a :: x) (p ++ b :: y)) : a.toNat ≤ b.toNat := by
  rcases (ltL_append p _ _).1 h with h | ⟨rfl, _⟩
  · omega
  · exact Nat.le_refl _
theorem byte16 {n : Nat} (h : n < 16) : (UInt8.ofNat n).toNat = n := byte_of n (by omega)
theorem Fork.order {l : List Pr} {n : Nat} (h : Fork l n) : (restL l n).Pairwise (fun p q => nib p n ≤ nib q n) := by
  refine List.Pairwise.imp_of_mem (fun {p q} hp hq hlt => ?_) h.restfit.rise
  have h1 := h.long p hp
  have h2 := h.long q hq
  have := h.restfit.same p hp q hq
  rw [key_split h1, key_split h2, this] at hlt
  have := ltL_cons hlt
  rwa [byte16 (h.restfit.nib_lt hp h1), byte16 (h.restfit.nib_lt hq h2)] at this
theorem grp_mem {l : List Pr} {n h : Nat} {p : Pr} : p ∈ grp l n h ↔ p ∈ l ∧ nib p n = h := by
  unfold grp; rw [List.mem_filter, beq_iff_eq]
theorem Fork.group {l : List Pr} {n : Nat} (h : Fork l n) (c : Nat) : Fit (grp (restL l n) n c) (n + 1) := by
  have hs : (grp (restL l n) n c).Sublist (restL l n) := List.filter_sublist
  have hf := h.restfit.sub hs
  refine ⟨fun p hp => ⟨?_, (hf.len p hp).2⟩, hf.half, hf.rise, fun p hp q hq => ?_⟩
  · exact h.long p (grp_mem.1 hp).1
  · rw [take_succ_nib (h.long p (grp_mem.1 hp).1), take_succ_nib (h.long q (grp_mem.1 hq).1), hf.same p hp q hq, (grp_mem.1 hp).2, (grp_mem.1 hq).2]
theorem Fork.grouphead {l : List Pr} {n : Nat} (h : Fork l n) {c : Nat} (hne : grp (restL l n) n c ≠ []) : (headK (grp (restL l n) n c)).take (n + 1) = (headK l).take n ++ [UInt8.ofNat c] := by
  obtain ⟨p, hp, e, _⟩ := headK_mem hne
  have hm := grp_mem.1 hp
  rw [← e, take_succ_nib (h.long p hm.1), hm.2, h.fit.headP ((rest_sub l n).subset hm.1)]
/-- In order, the groups are the whole. -/
theorem filter_step (n h : Nat) : ∀ (r : List Pr), r.Pairwise (fun p q => nib p n ≤ nib q n) → r.filter (fun p => nib p n < h + 1) = r.filter (fun p => nib p n < h) ++ grp r n h
  | [], _ => rfl
  | p :: r, hr => by
    obtain ⟨h1, h2⟩ := List.pairwise_cons.1 hr
    have ih := filter_step n h r h2
    unfold grp at ih ⊢
    rcases Nat.lt_trichotomy (nib p n) h with hp | hp | hp
    · rw [List.filter_cons_of_pos (by simpa using by omega), List.filter_cons_of_pos (by simpa using hp), List.filter_cons_of_neg (by simpa using by omega), ih, List.cons_append]
    · have e : r.filter (fun p => decide (nib p n < h)) = [] := List.filter_eq_nil_iff.2 fun q hq => by have := h1 q hq; simpa using by omega
      rw [List.filter_cons_of_pos (by simpa using by omega), List.filter_cons_of_neg (by simpa using by omega), List.filter_cons_of_pos (by simpa using hp), ih, e]
      rfl
    · have e : r.filter (fun p => decide (nib p n < h)) = [] := List.filter_eq_nil_iff.2 fun q hq => by have := h1 q hq; simpa using by omega
      have e2 : r.filter (fun p => nib p n == h) = [] := List.filter_eq_nil_iff.2 fun q hq => by have := h1 q hq; simpa using by omega
      rw [List.filter_cons_of_neg (by simpa using by omega), List.filter_cons_of_neg (by simpa using by omega), List.filter_cons_of_neg (by simpa using by omega), ih, e, e2]
theorem Fork.all16 {l : List Pr} {n : Nat} (h : Fork l n) : (restL l n).filter (fun p => nib p n < 16) = restL l n :=
  List.filter_eq_self.2 fun p hp => by simpa using h.restfit.nib_lt hp (h.long p hp)
/-- There are two groups, or one and a value. -/
theorem Fork.ways {l : List Pr} {n : Nat} (h : Fork l n) : (endsB l n = true ∧ ∃ c, c < 16 ∧ grp (restL l n) n c ≠ []) ∨
    (endsB l n = false ∧ ∃ c d, c < d ∧ d < 16 ∧ grp (restL l n) n c ≠ [] ∧ grp (restL l n) n d ≠ []) := by
  obtain ⟨q, hq, e, _, r, hl⟩ := headK_mem h.ne
  have some_group : ∀ p ∈ restL l n, nib p n < 16 ∧ grp (restL l n) n (nib p n) ≠ [] := fun p hp =>
    ⟨h.restfit.nib_lt hp (h.long p hp), List.ne_nil_of_mem (grp_mem.2 ⟨hp, rfl⟩)⟩
  cases hb : endsB l n
  · right
    refine ⟨rfl, ?_⟩
    have hrest : restL l n = l := by unfold restL; rw [hb]; rfl
    obtain ⟨z, hz, e1, _⟩ := lastL_mem h.ne
    have hq' : q ∈ restL l n := by rw [hrest]; exact hq
    have hz' : z ∈ restL l n := by rw [hrest]; exact hz
    have h1 := h.long q hq'
    have h2 := h.long z hz'
    have hp := h.part
    unfold comG at hp
    rw [← e, ← e1, nib_eq h1, nib_eq h2] at hp
    have hne : nib q n ≠ nib z n := by
      intro e2
      have hp : (if UInt8.ofNat (nib q n) = UInt8.ofNat (nib z n) then _ + 1 else 0) = 0 := hp
      rw [e2, if_pos rfl] at hp
      omega
    obtain ⟨a1, a2⟩ := some_group q hq'
    obtain ⟨b1, b2⟩ := some_group z hz'
    rcases Nat.lt_or_gt_of_ne hne with h3 | h3
    · exact ⟨_, _, h3, b1, a2, b2⟩
    · exact ⟨_, _, h3, a1, b2, a2⟩
  · left
    refine ⟨rfl, ?_⟩
    have hrest : restL l n = l.tail := by unfold restL; rw [hb]; rfl
    have h2 := h.two
    rw [hl] at h2 hrest
    cases r with
    | nil => simp at h2
    | cons z r =>
      have := some_group z (by rw [hl, hrest]; simp)
      exact ⟨_, this.1, this.2⟩

end Go.Proofs.YtjpjcojabjkaaaaDoor
namespace Go.Proofs.YtjpjcojabjkaaaaDoor
open Go.RowKit
set_option maxRecDepth 20000

theorem less_cons (a b : UInt8) (l m : List UInt8) : Op.bytesLess (a :: l) (b :: m) = (decide (a.toNat < b.toNat) || (decide (a.toNat = b.toNat) && Op.bytesLess l m)) := by
  show (decide (a < b) || (a == b && Op.bytesLess l m)) = _
  congr 2
  rw [Bool.eq_iff_iff, beq_iff_eq, decide_eq_true_eq, UInt8.toNat_inj]
theorem less_of : ∀ l m : List UInt8, Op.bytesLess (ofL l) (ofL m) = Op.bytesLess l m := by
  intro l
  induction l with
  | nil => intro m; cases m <;> rfl
  | cons a l ih =>
    intro m
    cases m with
    | nil => rfl
    | cons b m =>
      have e : Op.bytesLess (ofL (a :: l)) (ofL (b :: m)) = Op.bytesLess (hi a :: lo a :: ofL l) (hi b :: lo b :: ofL m) := rfl
      rw [e, less_cons, less_cons, less_cons, ih, hi_nat, hi_nat, lo_nat, lo_nat]
      generalize Op.bytesLess l m = z
      rw [Bool.eq_iff_iff]
      simp only [Bool.or_eq_true, Bool.and_eq_true, decide_eq_true_eq]
      generalize a.toNat = x
      generalize b.toNat = y
      constructor
      · rintro (h | ⟨h, h2 | ⟨h2, h3⟩⟩)
        · left; omega
        · left; omega
        · right; exact ⟨by omega, h3⟩
      · rintro (h | ⟨h, h3⟩)
        · by_cases c : x / 16 < y / 16
          · exact .inl c
          · exact .inr ⟨by omega, .inl (by omega)⟩
        · exact .inr ⟨by omega, .inr ⟨by omega, h3⟩⟩
theorem less_join (l : List UInt8) : ∀ m : List UInt8, l.length = m.length → halvesB l = true → halvesB m = true → Op.bytesLess (joinL l) (joinL m) = Op.bytesLess l m := by
  induction l using pairs with
  | h0 => intro m h _ _; cases m with
    | nil => rfl
    | cons b m => simp at h
  | h1 a =>
    intro m h hl hm
    match m, h with
    | [b], _ =>
      have ha : a.toNat < 16 := halvesB_get hl (k := 0) rfl
      have hb : b.toNat < 16 := halvesB_get hm (k := 0) rfl
      show Op.bytesLess [two a 0] [two b 0] = _
      rw [less_cons, less_cons, two_zero, two_zero]
      rw [Bool.eq_iff_iff]
      simp only [Bool.or_eq_true, Bool.and_eq_true, decide_eq_true_eq]
      constructor
      · rintro (h | ⟨_, h⟩)
        · left; omega
        · cases h
      · rintro (h | ⟨_, h⟩)
        · left; omega
        · cases h
  | h2 a b l ih =>
    intro m h hl hm
    match m, h with
    | c :: d :: m, h =>
      obtain ⟨ha, hb, hl⟩ := halvesB_cons2 hl
      obtain ⟨hc, hd, hm⟩ := halvesB_cons2 hm
      show Op.bytesLess (two a b :: joinL l) (two c d :: joinL m) = _
      rw [less_cons, less_cons, less_cons, ih m (by simpa using h) hl hm, two_nat, two_nat]
      generalize Op.bytesLess l m = z
      rw [Bool.eq_iff_iff]
      simp only [Bool.or_eq_true, Bool.and_eq_true, decide_eq_true_eq]
      generalize a.toNat = x at *
      generalize b.toNat = y at *
      generalize c.toNat = u at *
      generalize d.toNat = v at *
      constructor
      · rintro (h | ⟨h, h3⟩)
        · by_cases e : x < u
          · exact .inl e
          · exact .inr ⟨by omega, .inl (by omega)⟩
        · exact .inr ⟨by omega, .inr ⟨by omega, h3⟩⟩
      · rintro (h | ⟨h, h2 | ⟨h2, h3⟩⟩)
        · left; omega
        · left; omega
        · right; exact ⟨by omega, h3⟩
theorem goodB_parts {l : List UInt8} (h : goodB l = true) : l.length ≤ 16 ∧ halvesB l = true := by
  unfold goodB at h
  rw [Bool.and_eq_true, decide_eq_true_eq] at h
  exact h
theorem less_pack (l m : List UInt8) (h : l.length = m.length) (hl : goodB l = true) (hm : goodB m = true) : Op.bytesLess (packL l) (packL m) = Op.bytesLess l m := by
  unfold packL
  rw [less_cons, h, less_join l m h (goodB_parts hl).2 (goodB_parts hm).2]
  simp

end Go.Proofs.YtjpjcojabjkaaaaDoor
