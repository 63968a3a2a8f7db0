/-
  What Encode and Hash return.
-/
import Derived.Test.YtecamiefpdkjoaaDoorNdPartB
import Derived.Test.YtecamiefpdkjoaaDoorDgOf
namespace Go.Proofs.YtecamiefpdkjoaaDoor
open Go.RowKit
set_option maxRecDepth 20000
set_option linter.unusedVariables false

/-- The three tables lie as their initialisers lay them. -/
def TT (w : World) : Prop := Tab w ∧ Dg.Tab w
theorem TT.after {w w' : World} (h : TT w) (k : New w w') : TT w' := ⟨h.1.kept k, h.2.kept k⟩

theorem flat32 (hs : List (List UInt8)) (h : ∀ x ∈ hs, x.length = 32) : hs.flatten.length = 32 * hs.length := by
  induction hs with
  | nil => rfl
  | cons x hs ih =>
    rw [List.flatten_cons, List.length_append, h x (by simp), ih (fun y hy => h y (by simp [hy])), List.length_cons]; omega
/-- How long an Item's text is. -/
def lenN (I : It) : Nat := 1 + 32 * I.hs.length + (if I.k = 3 then 3 else 1 + (I.p.length + 1) / 2) + (if I.has then 1 + I.v.length else 0)
theorem enc_len (I : It) (h : goodI I = true) : (encL I).length = lenN I ∧ lenN I ≤ 533 ∧ I.hs.length ≤ 16 := by
  rw [goodI_iff] at h
  cases h with
  | leaf p v hp hv =>
    have h1 := (goodB_parts hp).1
    have e : encL ⟨1, p, true, v, 0, []⟩ = 1 :: (packL p ++ (UInt8.ofNat v.length :: v)) := by
      unfold encL Pt.text ptOf
      simp [pad16]
    rw [e]
    simp [lenN, pack_length]
    omega
  | ext p h hp h0 hh =>
    have h1 := (goodB_parts hp).1
    have e : encL ⟨2, p, false, [], 1, [h]⟩ = 2 :: (packL p ++ h) := by
      unfold encL Pt.text ptOf
      simp [pad16]
    rw [e]
    simp [lenN, pack_length, hh]
    omega
  | branch has v m hs hv hv2 hm h2 hl hh =>
    have hf := flat32 hs hh
    have hp := popN_le m
    cases has with
    | true =>
      have e : encL ⟨3, [], true, v, (m : Int), hs⟩ = 3 :: UInt8.ofNat (m / 256) :: UInt8.ofNat m :: 1 :: UInt8.ofNat v.length :: (v ++ hs.flatten) := by
        unfold encL Pt.text ptOf
        simp [pad16_flat]
      rw [e]
      simp [lenN, hf]
      omega
    | false =>
      obtain rfl := hv2 rfl
      have e : encL ⟨3, [], false, [], (m : Int), hs⟩ = 3 :: UInt8.ofNat (m / 256) :: UInt8.ofNat m :: 0 :: hs.flatten := by
        unfold encL Pt.text ptOf
        simp [pad16_flat]
      rw [e]
      simp [lenN, hf]
      omega
theorem ptOf16 (I : It) (h : goodI I = true) : (ptOf I).hs.length = 16 := pad16_length _ (enc_len I h).2.2

set_option maxHeartbeats 1000000 in
theorem encode_no (I : It) (hS : Small I) (hg : goodI I = false) (a : Option Addr) (c : Nat) (w : World) (hT : Tx w a I.hs) :
    Calls Tryd.prog 9 #[itV I a c] w fun e w' => e = .returned (.tuple #[.string ⟨#[]⟩, .bool false]) ∧ New w w' := by
  have HC := fun W h => partsOf_no I hS hg a c W h
  obtain ⟨k, p, has, v, m, hs⟩ := I
  have HT : Hid (Tx w a hs) := hT
  clear hT hg hS
  show Calls Tryd.prog 9 #[.agg #[.int .i64 k, .string (bs p), .bool has, .string (bs v), .int .i64 m, .slice a hs.length c]] w _
  replace HC : ∀ w, Tx w a hs → Calls Tryd.prog 21 #[.agg #[.int .i64 k, .string (bs p), .bool has, .string (bs v), .int .i64 m, .slice a hs.length c]] w _ := HC
  generalize bs p = sp at *
  generalize bs v = sv at *
  go_enter Tryd.func9, Tryd.ntmps9
  go_wp2_with (first
    | (refine wpList_box_at (by rfl) 1 (by rfl) 24 _ (by rfl) _ (by rfl) ?_; intro W1 R1 N1)
    | refine wpList_load_row (by rfl) 24 _ (by rfl) w.heap.size (by rfl) 24 _ (0, 0) _ R1 Tryd.underlying24 rfl i24 ?_)
  refine (HC _ (HT.out.after N1)).mono ?_
  rintro _ W2 ⟨rfl, N2⟩
  have N2' := N1.trans N2
  have l2 := N2'.size
  go_wp2_with (first
    | (refine wpList_alloc_at (by rfl) 4 (by rfl) 44 (by rfl) _ _ _ info44 ?_; intro W3 R3 N3)
    | (refine wpList_store_new (by rfl) 44 _ _ (by rfl) W2.heap.size (ptC ptZ) (by rfl) (by rfl) 44 (ptC ptZ) R3 (s44 pz16) rfl (ptC_one _) ?_; intro W4 R4 B4))
  go_ret2
  exact ⟨rfl, B4.new (N2'.trans N3) l2⟩

set_option maxHeartbeats 1000000 in
theorem encode_yes (I : It) (hS : Small I) (hg : goodI I = true) (a : Option Addr) (c : Nat) (w : World) (hT : Tx w a I.hs) (hTab : Tab w) :
    Calls Tryd.prog 9 #[itV I a c] w fun e w' => e = .returned (.tuple #[.string (bs (encL I)), .bool true]) ∧ New w w' := by
  have HC := fun W h h2 => partsOf_yes I hS hg a c W h h2
  have h16 := ptOf16 I hg
  have hen := enc_len I hg
  have HX := fun W => text_any (ptOf I) h16 (by show (encL I).length ≤ 4000; omega) W
  have HE : Hid ((ptOf I).text = encL I) := rfl
  rw [HE.out] at HX
  generalize encL I = t at *
  have s16 := s44 h16
  have sm := same44 pz16 h16
  have on := ptC_one (ptOf I)
  generalize ptOf I = Q at *
  obtain ⟨k, p, has, v, m, hs⟩ := I
  have HT : Hid (Tx w a hs) := hT
  have HB : Hid (Tab w) := hTab
  clear hT hg hS hTab hen HE
  show Calls Tryd.prog 9 #[.agg #[.int .i64 k, .string (bs p), .bool has, .string (bs v), .int .i64 m, .slice a hs.length c]] w _
  replace HC : ∀ w, Tx w a hs → Tab w → Calls Tryd.prog 21 #[.agg #[.int .i64 k, .string (bs p), .bool has, .string (bs v), .int .i64 m, .slice a hs.length c]] w _ := HC
  generalize bs p = sp at *
  generalize bs v = sv at *
  generalize bs t = st at *
  go_enter Tryd.func9, Tryd.ntmps9
  go_wp2_with (first
    | (refine wpList_box_at (by rfl) 1 (by rfl) 24 _ (by rfl) _ (by rfl) ?_; intro W1 R1 N1)
    | refine wpList_load_row (by rfl) 24 _ (by rfl) w.heap.size (by rfl) 24 _ (0, 0) _ R1 Tryd.underlying24 rfl i24 ?_)
  refine (HC _ (HT.out.after N1) (HB.out.kept N1)).mono ?_
  rintro _ W2 ⟨rfl, N2⟩
  have N2' := N1.trans N2
  have l2 := N2'.size
  go_wp2_with (first
    | (refine wpList_alloc_at (by rfl) 4 (by rfl) 44 (by rfl) _ _ _ info44 ?_; intro W3 R3 N3)
    | (refine wpList_store_new (by rfl) 44 _ _ (by rfl) W2.heap.size (ptC Q) (by rfl) (by rfl) 44 (ptC ptZ) R3 s16 sm on ?_; intro W4 R4 B4)
    | refine wpList_load_row (by rfl) 44 _ (by rfl) W2.heap.size (by rfl) 44 _ (0, 0) _ R4 Tryd.underlying44 rfl s16 ?_)
  refine (HX _).mono ?_
  rintro _ W5 ⟨rfl, N5⟩
  go_wp2_with fail
  go_ret2
  exact ⟨rfl, (B4.new (N2'.trans N3) l2).trans N5⟩

/-- What Encode and Hash tell. -/
def encB (I : It) : List UInt8 := if goodI I then encL I else []
theorem encode_any (I : It) (hS : Small I) (a : Option Addr) (c : Nat) (w : World) (hT : Tx w a I.hs) (hTab : Tab w) :
    Calls Tryd.prog 9 #[itV I a c] w fun e w' => e = .returned (.tuple #[.string (bs (encB I)), .bool (goodI I)]) ∧ New w w' := by
  unfold encB
  cases hg : goodI I
  · exact encode_no I hS hg a c w hT
  · exact encode_yes I hS hg a c w hT hTab

theorem dg_of (l : List UInt8) (h : l.length ≤ 4000) (w : World) (hT : Dg.Tab w) : Calls Tryd.prog 18 #[.string (bs l)] w fun e w' => e = .returned (.string (bs (Dg.ofL l))) ∧ New w w' := Dg.of_any (bs l) h w hT
def hashB (I : It) : List UInt8 := if goodI I then Dg.ofL (encL I) else []
set_option maxHeartbeats 1000000 in
theorem hash_any (I : It) (hS : Small I) (a : Option Addr) (c : Nat) (w : World) (hT : Tx w a I.hs) (hTab : TT w) :
    Calls Tryd.prog 10 #[itV I a c] w fun e w' => e = .returned (.tuple #[.string (bs (hashB I)), .bool (goodI I)]) ∧ New w w' := by
  have HC := fun W h h2 => encode_any I hS a c W h h2
  have HD : goodI I = true → ∀ W, Dg.Tab W → Calls Tryd.prog 18 #[.string (bs (encL I))] W fun e w' => e = .returned (.string (bs (Dg.ofL (encL I)))) ∧ New W w' := fun hg W h => dg_of _ (by have := enc_len I hg; omega) W h
  have e1 : encB I = if goodI I then encL I else [] := rfl
  unfold hashB
  rw [e1] at HC
  generalize encL I = t at *
  generalize goodI I = b at *
  obtain ⟨k, p, has, v, m, hs⟩ := I
  have HT : Hid (Tx w a hs) := hT
  have HB : Hid (TT w) := hTab
  clear hT hS hTab e1
  show Calls Tryd.prog 10 #[.agg #[.int .i64 k, .string (bs p), .bool has, .string (bs v), .int .i64 m, .slice a hs.length c]] w _
  replace HC : ∀ w, Tx w a hs → Tab w → Calls Tryd.prog 9 #[.agg #[.int .i64 k, .string (bs p), .bool has, .string (bs v), .int .i64 m, .slice a hs.length c]] w _ := HC
  generalize bs p = sp at *
  generalize bs v = sv at *
  cases b
  · go_enter Tryd.func10, Tryd.ntmps10
    go_wp2_with (first
      | (refine wpList_box_at (by rfl) 1 (by rfl) 24 _ (by rfl) _ (by rfl) ?_; intro W1 R1 N1)
      | refine wpList_load_row (by rfl) 24 _ (by rfl) w.heap.size (by rfl) 24 _ (0, 0) _ R1 Tryd.underlying24 rfl i24 ?_)
    refine (HC _ (HT.out.after N1) (HB.out.after N1).1).mono ?_
    rintro _ W2 ⟨rfl, N2⟩
    go_wp2_with fail
    go_ret2
    exact ⟨rfl, N1.trans N2⟩
  · have HD' := HD rfl
    go_enter Tryd.func10, Tryd.ntmps10
    go_wp2_with (first
      | (refine wpList_box_at (by rfl) 1 (by rfl) 24 _ (by rfl) _ (by rfl) ?_; intro W1 R1 N1)
      | refine wpList_load_row (by rfl) 24 _ (by rfl) w.heap.size (by rfl) 24 _ (0, 0) _ R1 Tryd.underlying24 rfl i24 ?_)
    refine (HC _ (HT.out.after N1) (HB.out.after N1).1).mono ?_
    rintro _ W2 ⟨rfl, N2⟩
    go_wp2_with fail
    refine (HD' _ (HB.out.after (N1.trans N2)).2).mono ?_
    rintro _ W3 ⟨rfl, N3⟩
    go_wp2_with fail
    go_ret2
    exact ⟨rfl, (N1.trans N2).trans N3⟩

end Go.Proofs.YtecamiefpdkjoaaDoor
