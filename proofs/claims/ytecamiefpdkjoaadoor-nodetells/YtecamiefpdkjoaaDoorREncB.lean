/-
  The reference's Encode and Hash say what Encode and Hash say.
-/
import Derived.Test.YtecamiefpdkjoaaDoorREncA
namespace Go.Proofs.YtecamiefpdkjoaaDoor
open Go.RowKit
set_option maxRecDepth 20000
set_option linter.unusedVariables false

set_option maxHeartbeats 1000000 in
theorem renc_no (I : It) (hS : Small I) (hg : goodI I = false) (a : Option Addr) (c : Nat) (w : World) (hT : Tx w a I.hs) :
    Says 15 #[.agg (itC I a c)] (.string (bs [])) w := by
  have HT : Hid (Tx w a I.hs) := hT
  have s3 := itC_size I a c
  have G3 := c_rgood I hS a c
  rw [hg] at G3
  clear hT hS hg
  generalize itC I a c = C at *
  go_enter Tryd.func15, Tryd.ntmps15
  go_wp2_with (first
    | (refine wpList_box_at (by rfl) 1 (by rfl) 24 _ (by rfl) C (by rfl) ?_; intro Wa R3 N)
    | refine wpList_load_want (by rfl) 24 _ (by rfl) w.heap.size (by rfl) 24 _ _ R3 Tryd.underlying24 rfl s3 ?_
    | refine wpList_load_row (by rfl) 24 _ (by rfl) w.heap.size (by rfl) 24 _ (0, 0) _ R3 Tryd.underlying24 rfl s3 ?_)
  refine (G3 _ (HT.out.after N)).mono ?_
  rintro _ W1 ⟨rfl, k⟩
  go_wp2_with fail
  go_ret
  exact ⟨rfl, N.trans k⟩
theorem c_renc (I : It) (hS : Small I) (a : Option Addr) (c : Nat) : ∀ W, Tx W a I.hs → Says 15 #[.agg (itC I a c)] (.string (bs (encB I))) W := fun W hT => by
  unfold encB
  cases hg : goodI I
  · exact renc_no I hS hg a c W hT
  · rw [if_pos rfl]
    have hg2 := hg
    rw [goodI_iff] at hg2
    cases hg2 with
    | leaf p v hp hv => exact renc_leaf p v hp hv _ rfl [] (by simp) (fun x hx => by cases hx) hg (by unfold encL Pt.text ptOf; simp [pad16]) a c W hT
    | ext p h hp h0 hh => exact renc_ext p hp [h] (by simp) (fun x hx => by simp only [List.mem_singleton] at hx; subst hx; exact hh) hg (by unfold encL Pt.text ptOf; simp [pad16]) a c W hT
    | branch has v m hs hv hv2 hm h2 hl hh =>
      have hl16 : hs.length ≤ 16 := by have := popN_le m; omega
      cases has with
      | true => exact renc_full v hv _ rfl m hm _ rfl _ _ rfl rfl hs hl16 hh hg (by unfold encL Pt.text ptOf; simp [pad16_flat]) a c W hT
      | false =>
        obtain rfl := hv2 rfl
        exact renc_bare m hm _ rfl _ _ rfl rfl hs hl16 hh hg (by unfold encL Pt.text ptOf; simp [pad16_flat]) a c W hT
theorem enc_pos (I : It) (h : goodI I = true) : encL I ≠ [] := fun e => by
  have := (enc_len I h).1
  rw [e] at this
  unfold lenN at this
  simp only [List.length_nil] at this
  omega
set_option maxHeartbeats 1000000 in
theorem c_rhash (I : It) (hS : Small I) (a : Option Addr) (c : Nat) : ∀ W, Tx W a I.hs → Says 16 #[.agg (itC I a c)] (.string (bs (hashB I))) W := fun w hT => by
  have HT : Hid (Tx w a I.hs) := hT
  have s3 := itC_size I a c
  have E3 := c_renc I hS a c
  cases hg : goodI I
  · have e1 : encB I = [] := by unfold encB; rw [hg]; rfl
    have e2 : hashB I = [] := by unfold hashB; rw [hg]; rfl
    rw [e1] at E3
    rw [e2]
    clear hT hS hg e1 e2
    generalize itC I a c = C at *
    go_enter Tryd.func16, Tryd.ntmps16
    go_wp2_with (first
      | (refine wpList_box_at (by rfl) 1 (by rfl) 24 _ (by rfl) C (by rfl) ?_; intro Wa R3 N)
      | refine wpList_load_want (by rfl) 24 _ (by rfl) w.heap.size (by rfl) 24 _ _ R3 Tryd.underlying24 rfl s3 ?_
      | refine wpList_load_row (by rfl) 24 _ (by rfl) w.heap.size (by rfl) 24 _ (0, 0) _ R3 Tryd.underlying24 rfl s3 ?_)
    refine (E3 _ (HT.out.after N)).mono ?_
    rintro _ W1 ⟨rfl, k⟩
    have ex : ((bs []).toList == []) = true := by rw [beq_nil_bs]; rfl
    have ex2 : (bs []).toList.isEmpty = true := by rw [isEmpty_bs]; rfl
    go_wp2_with fail
    go_ret
    exact ⟨rfl, N.trans k⟩
  · have e1 : encB I = encL I := by unfold encB; rw [hg, if_pos rfl]
    have e2 : hashB I = Dg.ofL (encL I) := by unfold hashB; rw [hg, if_pos rfl]
    have hsz : (bs (encL I)).size ≤ 533 := by rw [bs_size, (enc_len I hg).1]; exact (enc_len I hg).2.1
    have ex1 : (bs (encL I)).toList.isEmpty = false := by rw [isEmpty_bs]; exact emptyB_false.2 (enc_pos I hg)
    have ex2 : ((bs (encL I)).toList == []) = false := by rw [beq_nil_bs]; exact emptyB_false.2 (enc_pos I hg)
    have HD : ∀ W, Says 32 #[.string (bs (encL I))] (.string (bs (Dg.ofL (encL I)))) W := fun W => by
      have h := Dg.refOf_any (bs (encL I)) (by omega) W
      rw [show Dg.L (bs (encL I)) = encL I from L_bs _] at h
      exact h
    rw [e1] at E3
    rw [e2]
    clear hT hS hg e1 e2
    generalize itC I a c = C at *
    generalize bs (Dg.ofL (encL I)) = hq at *
    generalize bs (encL I) = st at *
    go_enter Tryd.func16, Tryd.ntmps16
    go_wp2_with (first
      | (refine wpList_box_at (by rfl) 1 (by rfl) 24 _ (by rfl) C (by rfl) ?_; intro Wa R3 N)
      | refine wpList_load_want (by rfl) 24 _ (by rfl) w.heap.size (by rfl) 24 _ _ R3 Tryd.underlying24 rfl s3 ?_
      | refine wpList_load_row (by rfl) 24 _ (by rfl) w.heap.size (by rfl) 24 _ (0, 0) _ R3 Tryd.underlying24 rfl s3 ?_)
    refine (E3 _ (HT.out.after N)).mono ?_
    rintro _ W1 ⟨rfl, k⟩
    go_wp2_with fail
    refine (HD _).mono ?_
    rintro _ W2 ⟨rfl, k2⟩
    go_wp2_with fail
    go_ret
    exact ⟨rfl, (N.trans k).trans k2⟩
end Go.Proofs.YtecamiefpdkjoaaDoor
