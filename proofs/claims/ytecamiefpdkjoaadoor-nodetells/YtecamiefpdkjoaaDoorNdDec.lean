/-
  What Decode returns: the Item whose text a text is; else none.
-/
import Derived.Test.YtecamiefpdkjoaaDoorNdEq
namespace Go.Proofs.YtecamiefpdkjoaaDoor
open Go.RowKit
set_option maxRecDepth 20000
set_option linter.unusedVariables false

theorem mem_pad {hs : List (List UInt8)} {x : List UInt8} (h : x ∈ pad16 hs) : x ∈ hs ∨ x = [] := by
  unfold pad16 at h
  rcases List.mem_append.1 h with h | h
  · exact .inl h
  · exact .inr (List.mem_replicate.1 h).2
theorem mem_cut {l : List UInt8} {n : Nat} {x : List UInt8} (h : x ∈ cutH l n) : x.length ≤ 32 := by
  unfold cutH at h
  obtain ⟨j, _, rfl⟩ := List.mem_map.1 h
  rw [List.length_take]; omega
structure PtOk (P : Pt) : Prop where
  kind : P.kind.length ≤ 1
  path : P.path.length ≤ 4000
  mask : P.mask.length ≤ 2
  value : P.value.length ≤ 4000
  n : P.hs.length = 16
  h : ∀ h ∈ P.hs, h.length ≤ 4000
theorem in_ok (l : List UInt8) (hl : l.length ≤ 4000) : PtOk (inP l) := by
  unfold inP
  split
  · unfold leafP
    refine ⟨by simp; omega, by simp; omega, by simp, by simp; omega, by simp, fun h hh => by rw [(List.mem_replicate.1 hh).2]; simp⟩
  · split
    · unfold extP
      refine ⟨by simp; omega, by simp; omega, by simp, by simp, pad16_length _ (by simp), fun h hh => ?_⟩
      rcases mem_pad hh with h1 | h1
      · obtain rfl : h = _ := by simpa using h1
        rw [List.length_take]; omega
      · rw [h1]; simp
    · split
      · have hp := popN_le (numN ((l.drop 1).take 2))
        unfold brP
        split
        · unfold brV
          refine ⟨by simp; omega, by simp, by simp; omega, by simp; omega, pad16_length _ (by rw [cutH_length]; exact hp), fun h hh => ?_⟩
          rcases mem_pad hh with h1 | h1
          · have := mem_cut h1; omega
          · rw [h1]; simp
        · unfold brV
          refine ⟨by simp; omega, by simp, by simp; omega, by simp, pad16_length _ (by rw [cutH_length]; exact hp), fun h hh => ?_⟩
          rcases mem_pad hh with h1 | h1
          · have := mem_cut h1; omega
          · rw [h1]; simp
      · exact ⟨by simp; omega, by simp, by simp, by simp, by simp, fun h hh => by rw [(List.mem_replicate.1 hh).2]; simp⟩
theorem unN_le (l : List UInt8) : (unN l).length ≤ 256 := by
  cases l with
  | nil => simp [unN]
  | cons c r =>
    show ((ofL (r.take ((c.toNat + 1) / 2))).take c.toNat).length ≤ 256
    have := c.toNat_lt
    rw [List.length_take]; omega
theorem it_small {P : Pt} (h : PtOk P) : Small (itP P) := by
  refine ⟨?_, h.value, ?_, ?_⟩
  · show (if unpackB P.path then unN P.path else []).length ≤ 4000
    split
    · have := unN_le P.path; omega
    · simp
  · show (P.hs.take _).length ≤ _
    have := h.n
    rw [List.length_take]; omega
  · intro x hx
    have := h.h x (List.mem_of_mem_take hx)
    omega
theorem built24_none : Tryd.prog.built 24 [] = some itZ := by kernel_rfl
theorem itZ_one : itZ.all (·.oneCell') = true := by simp [itZ, Value.oneCell']
theorem itC_one (I : It) (a : Option Addr) (c : Nat) : (itC I a c).all (·.oneCell') = true := by simp [itC, Value.oneCell']
theorem decB_eq (l : List UInt8) : decB l = (goodI (itP (inP l)) && eqPt (inP l) (ptOf (itP (inP l)))) := by
  rw [Bool.eq_iff_iff, decB_iff, Bool.and_eq_true, eqPt_iff]
  exact ⟨fun h => ⟨h.1, h.2.symm⟩, fun h => ⟨h.1, h.2.symm⟩⟩

/-- An Item that was decoded, or none. -/
def MadeG (w : World) (D : Bool) (I : It) (e : Ending) (w' : World) : Prop :=
  New w w' ∧ if D = true then ∃ a c, e = .returned (.tuple #[itV I a c, .bool true]) ∧ Tx w' a I.hs else e = .returned (.tuple #[.agg itZ, .bool false])
theorem MadeG.no {w w' : World} {D : Bool} {I : It} (h : D = false) (n : New w w') : MadeG w D I (.returned (.tuple #[.agg itZ, .bool false])) w' := ⟨n, by rw [h, if_neg Bool.false_ne_true]⟩
theorem MadeG.yes {w w' : World} {D : Bool} {I : It} (h : D = true) (n : New w w') (a : Option Addr) (c : Nat) (hT : Tx w' a I.hs) : MadeG w D I (.returned (.tuple #[.agg (itC I a c), .bool true])) w' := ⟨n, by rw [h, if_pos rfl]; exact ⟨a, c, rfl, hT⟩⟩

set_option maxHeartbeats 4000000 in
theorem decode_any (l : List UInt8) (hl : l.length ≤ 4000) (w : World) (hTab : Tab w) :
    Calls Tryd.prog 11 #[.string (bs l)] w fun e w' => MadeG w (decB l) (itP (inP l)) e w' := by
  have hP := in_ok l hl
  have hS := it_small hP
  have HIn := partsIn_any l hl
  have HIt := item_any (inP l) hP.n hP.kind hP.mask hP.path hP.value hP.h
  have HNo := fun h W a c hT => partsOf_no (itP (inP l)) hS h a c W hT
  have HYes := fun h W a c hT hT2 => partsOf_yes (itP (inP l)) hS h a c W hT hT2
  have HEq := fun h W => eq_parts (inP l) (ptOf (itP (inP l))) hP.n (ptOf16 _ h) W
  have H16 := fun h => ptOf16 (itP (inP l)) h
  have HD : Hid (decB l = (goodI (itP (inP l)) && eqPt (inP l) (ptOf (itP (inP l))))) := decB_eq l
  have sP := s44 hP.n
  have mP := same44 pz16 hP.n
  have oP := ptC_one (inP l)
  generalize decB l = D at *
  generalize inP l = P at *
  generalize ptOf (itP P) = Q at *
  generalize itP P = I at *
  have HTb : Hid (Tab w) := hTab
  clear hP hS hTab
  have gd := guard44
  go_enter Tryd.func11, Tryd.ntmps11
  go_wp2_with (refine wpList_alloc_at (by rfl) 2 (by rfl) 24 (by rfl) _ _ _ info24 ?_; intro W1 R1 N1)
  have Rz : Row W1 w.heap.size itZ 24 := R1
  have hwz : w.heap.size ≤ w.heap.size := Nat.le_refl _
  have rz := Rz.lt
  generalize hz : w.heap.size = z at Rz rz
  have hwz : w.heap.size ≤ z := by omega
  clear R1
  refine (HIn _).mono ?_
  rintro _ W2 ⟨rfl, N2⟩
  replace Rz := Rz.after N2
  have N := N1.trans N2
  have rz := Rz.lt
  have lw := N.size
  clear N1 N2 HIn
  go_wp2_with (first
    | (refine wpList_alloc_at (by rfl) 4 (by rfl) 44 (by rfl) _ _ _ info44 ?_; intro W3 R3 N3)
    | (refine wpList_store_new (by rfl) 44 _ _ (by rfl) W2.heap.size (ptC P) (by rfl) (by rfl) 44 _ R3 sP mP oP ?_; intro W4 Rp B4)
    | refine wpList_load_row (by rfl) 44 _ (by rfl) W2.heap.size (by rfl) 44 _ (0, 0) _ Rp Tryd.underlying44 rfl sP ?_)
  have N' : New w W4 := B4.new (N.trans N3) lw
  have Rz' : Row W4 z itZ 24 := (Rz.after N3).but B4 (by omega)
  have hzp : z < W2.heap.size := rz
  have hwp : w.heap.size ≤ W2.heap.size := lw
  generalize W2.heap.size = p at *
  clear Rz N R3 N3 B4 rz lw
  have hz4 := Rz'.lt
  refine (HIt _).mono ?_
  rintro _ W5 ⟨N5, a, c, rfl, hT, hTn⟩
  have hxz : ∀ x, a = some x → x.block ≠ z := fun x hx e => by have := hTn x hx; omega
  replace Rp := Rp.after N5
  replace Rz' := Rz'.after N5
  replace N' := N'.trans N5
  have rp := Rp.lt
  have lw := N'.size
  clear N5 HIt
  go_wp2_with (first
    | (refine wpList_alloc_at (by rfl) 5 (by rfl) 24 (by rfl) _ _ _ info24 ?_; intro W6 R6 N6)
    | (refine wpList_store_new (by rfl) 24 _ _ (by rfl) W5.heap.size (itC I a c) (by rfl) (by rfl) 24 _ R6 i24 rfl (itC_one _ _ _) ?_; intro W7 Ri B7)
    | refine wpList_load_row (by rfl) 24 _ (by rfl) W5.heap.size (by rfl) 24 _ (0, 0) _ Ri Tryd.underlying24 rfl i24 ?_)
  have N7 : New w W7 := B7.new (N'.trans N6) lw
  have Rz7 : Row W7 z itZ 24 := (Rz'.after N6).but B7 (by omega)
  have Rp7 : Row W7 p (ptC P) 44 := (Rp.after N6).but B7 (by omega)
  have hT7 : Tx W7 a I.hs := hT.of fun x _ hlt => (B7.block _ (by omega)).trans (N6.block _ hlt)
  have hzi : z < W5.heap.size := Rz'.lt
  have hpi : p < W5.heap.size := rp
  have hwi : w.heap.size ≤ W5.heap.size := lw
  generalize W5.heap.size = t at *
  clear Rz' Rp hT N' R6 N6 B7 rp lw
  cases hg : goodI I
  · rw [hg] at HD
    have HDf : Hid (D = false) := HD.out
    have HN := HNo hg
    clear HYes HEq H16 HD
    refine (HN _ _ _ hT7).mono ?_
    rintro _ W8 ⟨rfl, N8⟩
    replace Ri := Ri.after N8
    replace Rz7 := Rz7.after N8
    replace N7 := N7.trans N8
    have lz := Rz7.lt
    have lw := N7.size
    clear Rp7 hT7 N8 HN HNo
    go_wp2_with (first
      | (refine wpList_alloc_at (by rfl) 6 (by rfl) 44 (by rfl) _ _ _ info44 ?_; intro W9 R9 N9)
      | (refine wpList_store_new (by rfl) 44 _ _ (by rfl) W8.heap.size (ptC ptZ) (by rfl) (by rfl) 44 (ptC ptZ) R9 (s44 pz16) rfl (ptC_one _) ?_; intro Wa Ra Ba; have Rza : Row Wa z itZ 24 := (Rz7.after N9).but Ba (by omega); have Na : New w Wa := Ba.new (N7.trans N9) lw)
      | refine wpList_build0 (by rfl) 24 (by rfl) itZ built24_none ?_
      | (refine wpList_store_new (by rfl) 24 _ _ (by rfl) z itZ (by rfl) (by rfl) 24 itZ Rza i24 rfl itZ_one ?_; intro Wb Rb Bb))
    exact bodyPost_ret (results_cell_tmp rfl _ _ z 24 itZ (0, 0) _ (.bool false) rfl rfl Rb Tryd.underlying24 rfl i24) rfl (MadeG.no HDf.out (Bb.new Na hwz))
  · rw [hg] at HD
    have HDt : Hid (D = eqPt P Q) := HD.out
    have HY := HYes hg
    have HE := HEq hg
    have sQ := s44 (H16 hg)
    have mQ := same44 pz16 (H16 hg)
    have oQ := ptC_one Q
    clear HNo HYes HEq H16 HD
    generalize eqPt P Q = E at *
    refine (HY _ _ _ hT7 (HTb.out.kept N7)).mono ?_
    rintro _ W8 ⟨rfl, N8⟩
    replace Ri := Ri.after N8
    replace Rz7 := Rz7.after N8
    replace Rp7 := Rp7.after N8
    replace hT7 := hT7.after N8
    replace N7 := N7.trans N8
    have lz := Rz7.lt
    have lp := Rp7.lt
    have lt := Ri.lt
    have lw := N7.size
    clear N8 HY
    generalize ptC P = cP at *
    generalize ptC Q = cQ at *
    cases E
    · go_wp2_with (first
        | (refine wpList_alloc_at (by rfl) 6 (by rfl) 44 (by rfl) _ _ _ info44 ?_; intro W9 R9 N9)
        | (refine wpList_store_new (by rfl) 44 _ _ (by rfl) W8.heap.size cQ (by rfl) (by rfl) 44 _ R9 sQ mQ oQ ?_; intro Wa Ra Ba; have Rza : Row Wa z itZ 24 := (Rz7.after N9).but Ba (by omega); have Rpa : Row Wa p cP 44 := (Rp7.after N9).but Ba (by omega); have Na : New w Wa := Ba.new (N7.trans N9) lw)
        | refine wpList_load_want (by rfl) 44 _ (by rfl) p (by rfl) 44 cP _ Rpa Tryd.underlying44 rfl sP ?_
        | refine wpList_load_want (by rfl) 44 _ (by rfl) W8.heap.size (by rfl) 44 cQ _ Ra Tryd.underlying44 rfl sQ ?_
        | refine wpList_build0 (by rfl) 24 (by rfl) itZ built24_none ?_
        | (refine wpList_store_new (by rfl) 24 _ _ (by rfl) z itZ (by rfl) (by rfl) 24 itZ Rza i24 rfl itZ_one ?_; intro Wb Rb Bb))
      exact bodyPost_ret (results_cell_tmp rfl _ _ z 24 itZ (0, 0) _ (.bool false) rfl rfl Rb Tryd.underlying24 rfl i24) rfl (MadeG.no HDt.out (Bb.new Na hwz))
    · go_wp2_with (first
        | (refine wpList_alloc_at (by rfl) 6 (by rfl) 44 (by rfl) _ _ _ info44 ?_; intro W9 R9 N9)
        | (refine wpList_store_new (by rfl) 44 _ _ (by rfl) W8.heap.size cQ (by rfl) (by rfl) 44 _ R9 sQ mQ oQ ?_; intro Wa Ra Ba; have Rza : Row Wa z itZ 24 := (Rz7.after N9).but Ba (by omega); have Rpa : Row Wa p cP 44 := (Rp7.after N9).but Ba (by omega); have Ria : Row Wa t (itC I a c) 24 := (Ri.after N9).but Ba (by omega); have hTa : Tx Wa a I.hs := hT7.of (fun x _ hlt => (Ba.block _ (by omega)).trans (N9.block _ hlt)); have Na : New w Wa := Ba.new (N7.trans N9) lw)
        | refine wpList_load_want (by rfl) 44 _ (by rfl) p (by rfl) 44 cP _ Rpa Tryd.underlying44 rfl sP ?_
        | refine wpList_load_want (by rfl) 44 _ (by rfl) W8.heap.size (by rfl) 44 cQ _ Ra Tryd.underlying44 rfl sQ ?_
        | refine wpList_load_row (by rfl) 24 _ (by rfl) t (by rfl) 24 (itC I a c) (0, 0) _ Ria Tryd.underlying24 rfl i24 ?_
        | (refine wpList_store_new (by rfl) 24 _ _ (by rfl) z (itC I a c) (by rfl) (by rfl) 24 itZ Rza i24 rfl (itC_one _ _ _) ?_; intro Wb Rb Bb))
      exact bodyPost_ret (results_cell_tmp rfl _ _ z 24 (itC I a c) (0, 0) _ (.bool true) rfl rfl Rb Tryd.underlying24 rfl i24) rfl (MadeG.yes HDt.out (Bb.new Na hwz) a c (hTa.of fun x hx hlt => Bb.block _ (hxz x hx)))

end Go.Proofs.YtecamiefpdkjoaaDoor
