/-
  NodeBack's walk: whatever two Items and a text, the call returns true, where the tables lie as their initialisers lay them.
-/
import Derived.Test.YtecamiefpdkjoaaDoorBackA
namespace Go.Proofs.YtecamiefpdkjoaaDoor
open Go.RowKit
set_option maxRecDepth 20000
set_option linter.unusedVariables false

set_option maxHeartbeats 8000000 in
theorem back_long (I J : It) (a b : Option Addr) (c d : Nat) (q : ByteArray) (w : World) (hT : Tx w a I.hs) (hU : Tx w b J.hs) (hTT : TT w) (h : longI I = true ∨ longI I = false ∧ (longI J = true ∨ longI J = false ∧ 2000 < q.size)) :
    Calls Tryd.prog 4 #[.agg (itC I a c), .agg (itC J b d), .string q] w fun e w' => e = .returned (.bool true) ∧ New w w' := by
  have HT : Hid (Tx w a I.hs) := hT
  have HU : Hid (Tx w b J.hs) := hU
  have s3 := itC_size I a c
  have s4 := itC_size J b d
  have L3 := c_long I a c
  have L4 := c_long J b d
  clear hT hU
  generalize itC I a c = C at *
  generalize itC J b d = D at *
  go_enter Tryd.func4, Tryd.ntmps4
  go_wp2_with (first
    | (refine wpList_box_at (by rfl) 3 (by rfl) 24 _ (by rfl) C (by rfl) ?_; intro Wa R3 N1)
    | (refine wpList_box_at (by rfl) 4 (by rfl) 24 _ (by rfl) D (by rfl) ?_; intro W0 R4 N2; replace R3 := R3.after N2; have N := N1.trans N2)
    | refine wpList_load_want (by rfl) 24 _ (by rfl) w.heap.size (by rfl) 24 _ _ R3 Tryd.underlying24 rfl s3 ?_ | refine wpList_load_row (by rfl) 24 _ (by rfl) w.heap.size (by rfl) 24 _ (0, 0) _ R3 Tryd.underlying24 rfl s3 ?_)
  have r3 := R3.lt
  have r4 := R4.lt
  clear N1 N2
  rcases h with h | ⟨h, h2⟩
  · rw [h] at L3
    refine (L3 _ (HT.out.after N)).mono ?_
    rintro _ V1 ⟨rfl, k⟩
    replace N := N.trans k
    clear k
    go_wp2_with fail
    refine (c_wakes _ (hTT.after N)).mono ?_
    rintro _ V2 ⟨rfl, k⟩
    replace N := N.trans k
    clear k
    go_wp2_with fail
    go_ret
    exact ⟨rfl, N⟩
  · rw [h] at L3
    rcases h2 with h2 | ⟨h2, h3⟩
    · rw [h2] at L4
      refine (L3 _ (HT.out.after N)).mono ?_
      rintro _ V3 ⟨rfl, k⟩
      replace R3 := R3.after k
      replace R4 := R4.after k
      replace N := N.trans k
      clear k
      go_wp2_with (first | refine wpList_load_want (by rfl) 24 _ (by rfl) Wa.heap.size (by rfl) 24 _ _ R4 Tryd.underlying24 rfl s4 ?_ | refine wpList_load_row (by rfl) 24 _ (by rfl) Wa.heap.size (by rfl) 24 _ (0, 0) _ R4 Tryd.underlying24 rfl s4 ?_)
      refine (L4 _ (HU.out.after N)).mono ?_
      rintro _ V4 ⟨rfl, k⟩
      replace N := N.trans k
      clear k
      go_wp2_with fail
      refine (c_wakes _ (hTT.after N)).mono ?_
      rintro _ V5 ⟨rfl, k⟩
      replace N := N.trans k
      clear k
      go_wp2_with fail
      go_ret
      exact ⟨rfl, N⟩
    · rw [h2] at L4
      have e1 : decide ((2000 : Int) < (q.size : Int)) = true := decide_eq_true (by omega)
      have e2 : decide (2000 < q.size) = true := decide_eq_true (by omega)
      refine (L3 _ (HT.out.after N)).mono ?_
      rintro _ V6 ⟨rfl, k⟩
      replace R3 := R3.after k
      replace R4 := R4.after k
      replace N := N.trans k
      clear k
      go_wp2_with (first | refine wpList_load_want (by rfl) 24 _ (by rfl) Wa.heap.size (by rfl) 24 _ _ R4 Tryd.underlying24 rfl s4 ?_ | refine wpList_load_row (by rfl) 24 _ (by rfl) Wa.heap.size (by rfl) 24 _ (0, 0) _ R4 Tryd.underlying24 rfl s4 ?_)
      refine (L4 _ (HU.out.after N)).mono ?_
      rintro _ V7 ⟨rfl, k⟩
      replace N := N.trans k
      clear k
      go_wp2_with fail
      refine (c_wakes _ (hTT.after N)).mono ?_
      rintro _ V8 ⟨rfl, k⟩
      replace N := N.trans k
      clear k
      go_wp2_with fail
      go_ret
      exact ⟨rfl, N⟩

set_option maxHeartbeats 8000000 in
theorem back_no (I J : It) (a b : Option Addr) (c d : Nat) (q : ByteArray) (w : World) (hT : Tx w a I.hs) (hU : Tx w b J.hs) (hTT : TT w) (hI : longI I = false) (hJ : longI J = false) (h2 : ¬ 2000 < q.size) (hg : goodI I = false) :
    Calls Tryd.prog 4 #[.agg (itC I a c), .agg (itC J b d), .string q] w fun e w' => e = .returned (.bool true) ∧ New w w' := by
  have HT : Hid (Tx w a I.hs) := hT
  have HU : Hid (Tx w b J.hs) := hU
  have s3 := itC_size I a c
  have s4 := itC_size J b d
  have L3 := c_long I a c
  have L4 := c_long J b d
  have E3 := c_enc I (longI_small hI).1 a c
  have E4 := c_enc J (longI_small hJ).1 b d
  rw [hg] at E3
  have e1 : decide ((2000 : Int) < (q.size : Int)) = false := decide_eq_false (by omega)
  have e2 : decide (2000 < q.size) = false := decide_eq_false (by omega)
  have hq : q.size ≤ 4000 := by omega
  rw [hI] at L3
  rw [hJ] at L4
  clear hT hU hI hJ h2 hg
  generalize itC I a c = C at *
  generalize itC J b d = D at *
  go_enter Tryd.func4, Tryd.ntmps4
  go_wp2_with (first
    | (refine wpList_box_at (by rfl) 3 (by rfl) 24 _ (by rfl) C (by rfl) ?_; intro Wa R3 N1)
    | (refine wpList_box_at (by rfl) 4 (by rfl) 24 _ (by rfl) D (by rfl) ?_; intro W0 R4 N2; replace R3 := R3.after N2; have N := N1.trans N2)
    | refine wpList_load_want (by rfl) 24 _ (by rfl) w.heap.size (by rfl) 24 _ _ R3 Tryd.underlying24 rfl s3 ?_ | refine wpList_load_row (by rfl) 24 _ (by rfl) w.heap.size (by rfl) 24 _ (0, 0) _ R3 Tryd.underlying24 rfl s3 ?_)
  have r3 := R3.lt
  have r4 := R4.lt
  clear N1 N2
  refine (L3 _ (HT.out.after N)).mono ?_
  rintro _ V1 ⟨rfl, k⟩
  replace R3 := R3.after k
  replace R4 := R4.after k
  replace N := N.trans k
  clear k
  go_wp2_with (first | refine wpList_load_want (by rfl) 24 _ (by rfl) Wa.heap.size (by rfl) 24 _ _ R4 Tryd.underlying24 rfl s4 ?_ | refine wpList_load_row (by rfl) 24 _ (by rfl) Wa.heap.size (by rfl) 24 _ (0, 0) _ R4 Tryd.underlying24 rfl s4 ?_)
  refine (L4 _ (HU.out.after N)).mono ?_
  rintro _ V2 ⟨rfl, k⟩
  replace R3 := R3.after k
  replace R4 := R4.after k
  replace N := N.trans k
  clear k
  go_wp2_with (first | refine wpList_load_want (by rfl) 24 _ (by rfl) w.heap.size (by rfl) 24 _ _ R3 Tryd.underlying24 rfl s3 ?_ | refine wpList_load_row (by rfl) 24 _ (by rfl) w.heap.size (by rfl) 24 _ (0, 0) _ R3 Tryd.underlying24 rfl s3 ?_)
  refine (E3 _ (HT.out.after N) (hTT.after N)).mono ?_
  rintro _ V3 ⟨rfl, k⟩
  replace R3 := R3.after k
  replace R4 := R4.after k
  replace N := N.trans k
  clear k
  go_wp2_with (first | refine wpList_load_want (by rfl) 24 _ (by rfl) Wa.heap.size (by rfl) 24 _ _ R4 Tryd.underlying24 rfl s4 ?_ | refine wpList_load_row (by rfl) 24 _ (by rfl) Wa.heap.size (by rfl) 24 _ (0, 0) _ R4 Tryd.underlying24 rfl s4 ?_)
  refine (E4 _ (HU.out.after N) (hTT.after N)).mono ?_
  rintro _ V4 ⟨rfl, k⟩
  replace R3 := R3.after k
  replace R4 := R4.after k
  replace N := N.trans k
  clear k
  clear R3 R4 HT HU L3 L4 E3 E4
  go_wp2_with fail
  cases hd : decB (L q)
  · have DS := c_dec_no q hq hd
    clear hd
    refine (DS _ (hTT.after N)).mono ?_
    rintro _ V5 ⟨rfl, k⟩
    replace N := N.trans k
    clear k
    have lw := N.size
    go_wp2_with (first | (refine wpList_alloc_at (by rfl) 15 (by rfl) 24 (by rfl) _ _ _ info24 ?_; intro Y1 Ra Na) | (refine wpList_store_new (by rfl) 24 _ _ (by rfl) V5.heap.size itZ (by rfl) (by rfl) 24 itZ Ra i24 rfl itZ_one ?_; intro Y2 Rb Bb; replace N := Bb.new (N.trans Na) lw; have c0 : Y2.cell? ⟨V5.heap.size, 0, none⟩ = some (.int .i64 0) := Rb.cell 0; have c5 : Y2.cell? ⟨V5.heap.size, 5, none⟩ = some (.slice none 0 0) := Rb.cell 5))
    refine (c_wakes _ (hTT.after N)).mono ?_
    rintro _ V6 ⟨rfl, k⟩
    replace N := N.trans k
    clear k
    go_wp2_with fail
    go_ret
    exact ⟨rfl, N⟩
  · have DS := c_dec_yes q hq hd
    obtain ⟨hd1, hd2⟩ := dec_yes hd
    have hKS := good_small _ hd1
    clear hd
    generalize itP (inP (L q)) = K at *
    have h1 : bs (encB K) = q := by unfold encB; rw [hd1, if_pos rfl, hd2, bs_L]
    have h2 : hashB K = Dg.ofL (L q) := by unfold hashB; rw [hd1, if_pos rfl, hd2]
    have KE := c_enc K hKS
    have KH := c_hash K hKS
    have KG := c_good K hKS
    have KD := c_dg q hq
    rw [h1, hd1] at KE
    rw [h2, hd1] at KH
    rw [hd1] at KG
    clear hd1 hd2 hKS h1 h2
    generalize bs (Dg.ofL (L q)) = hq1 at *
    have t1 : (q.toList == q.toList) = true := beq_self_eq_true _
    have t2 : (hq1.toList == hq1.toList) = true := beq_self_eq_true _
    refine (DS _ (hTT.after N)).mono ?_
    rintro _ V7 ⟨k, a5, c5, rfl, hTK⟩
    have sK := itC_size K a5 c5
    have oK := itC_one K a5 c5
    replace KE := KE a5 c5
    replace KH := KH a5 c5
    replace KG := KG a5 c5
    generalize itC K a5 c5 = Ck at *
    replace N := N.trans k
    clear k
    have HK : Hid (Tx V7 a5 K.hs) := hTK
    clear hTK
    have lw := N.size
    have zK : itZ.size = Ck.size := by have h := sK; rw [i24] at h; exact Option.some.inj h
    go_wp2_with (first | (refine wpList_alloc_at (by rfl) 15 (by rfl) 24 (by rfl) _ _ _ info24 ?_; intro Y1 Ra Na) | (refine wpList_store_new (by rfl) 24 _ _ (by rfl) V7.heap.size Ck (by rfl) (by rfl) 24 itZ Ra sK zK oK ?_; intro Y2 Rb Bb; replace N := Bb.new (N.trans Na) lw) | refine wpList_load_want (by rfl) 24 _ (by rfl) V7.heap.size (by rfl) 24 _ _ Rb Tryd.underlying24 rfl sK ?_ | refine wpList_load_row (by rfl) 24 _ (by rfl) V7.heap.size (by rfl) 24 _ (0, 0) _ Rb Tryd.underlying24 rfl sK ?_)
    have HK2 : Hid (Tx Y2 a5 K.hs) := HK.out.of fun x _ hlt => (Bb.block _ (by omega)).trans (Na.block _ hlt)
    generalize V7.heap.size = B at *
    clear HK Na Bb Ra lw
    refine (KE _ HK2.out (hTT.after N)).mono ?_
    rintro _ V8 ⟨rfl, k⟩
    replace Rb := Rb.after k
    replace HK2 : Hid (Tx _ a5 K.hs) := HK2.out.after k
    replace N := N.trans k
    clear k
    go_wp2_with (first | refine wpList_load_want (by rfl) 24 _ (by rfl) B (by rfl) 24 _ _ Rb Tryd.underlying24 rfl sK ?_ | refine wpList_load_row (by rfl) 24 _ (by rfl) B (by rfl) 24 _ (0, 0) _ Rb Tryd.underlying24 rfl sK ?_)
    refine (KH _ HK2.out (hTT.after N)).mono ?_
    rintro _ V9 ⟨rfl, k⟩
    replace Rb := Rb.after k
    replace HK2 : Hid (Tx _ a5 K.hs) := HK2.out.after k
    replace N := N.trans k
    clear k
    go_wp2_with (first | refine wpList_load_want (by rfl) 24 _ (by rfl) B (by rfl) 24 _ _ Rb Tryd.underlying24 rfl sK ?_ | refine wpList_load_row (by rfl) 24 _ (by rfl) B (by rfl) 24 _ (0, 0) _ Rb Tryd.underlying24 rfl sK ?_)
    refine (KG _ HK2.out).mono ?_
    rintro _ V10 ⟨rfl, k⟩
    replace Rb := Rb.after k
    replace HK2 : Hid (Tx _ a5 K.hs) := HK2.out.after k
    replace N := N.trans k
    clear k
    go_wp2_with (first | refine wpList_load_want (by rfl) 24 _ (by rfl) B (by rfl) 24 _ _ Rb Tryd.underlying24 rfl sK ?_ | refine wpList_load_row (by rfl) 24 _ (by rfl) B (by rfl) 24 _ (0, 0) _ Rb Tryd.underlying24 rfl sK ?_)
    refine (KD _ (hTT.after N)).mono ?_
    rintro _ V11 ⟨rfl, k⟩
    replace Rb := Rb.after k
    replace HK2 : Hid (Tx _ a5 K.hs) := HK2.out.after k
    replace N := N.trans k
    clear k
    go_wp2_with fail
    refine (c_wakes _ (hTT.after N)).mono ?_
    rintro _ V12 ⟨rfl, k⟩
    replace N := N.trans k
    clear k
    go_wp2_with fail
    go_ret
    exact ⟨rfl, N⟩

set_option maxHeartbeats 8000000 in
theorem back_one (I J : It) (a b : Option Addr) (c d : Nat) (q : ByteArray) (w : World) (hT : Tx w a I.hs) (hU : Tx w b J.hs) (hTT : TT w) (hI : longI I = false) (hJ : longI J = false) (h2 : ¬ 2000 < q.size) (hg : goodI I = true) (hk : goodI J = false) :
    Calls Tryd.prog 4 #[.agg (itC I a c), .agg (itC J b d), .string q] w fun e w' => e = .returned (.bool true) ∧ New w w' := by
  have HT : Hid (Tx w a I.hs) := hT
  have HU : Hid (Tx w b J.hs) := hU
  have s3 := itC_size I a c
  have s4 := itC_size J b d
  have L3 := c_long I a c
  have L4 := c_long J b d
  have E3 := c_enc I (longI_small hI).1 a c
  have E4 := c_enc J (longI_small hJ).1 b d
  have h1 : encB I = encL I := by unfold encB; rw [hg, if_pos rfl]
  have hz : (bs (encL I)).size ≤ 533 := by rw [bs_size, (enc_len I hg).1]; exact (enc_len I hg).2.1
  have DI := c_dec_yes (bs (encL I)) (by omega) (by rw [L_bs]; exact (dec_enc I hg).1)
  rw [L_bs, (dec_enc I hg).2] at DI
  have hmo : bs (encL I) ++ ⟨#[0]⟩ = bs (encL I ++ [0]) := eq_of_L (by rw [L_append, L_bs, L_bs]; rfl)
  have DM : ∀ W, TT W → Says 11 #[.string (bs (encL I) ++ ⟨#[0]⟩)] (.tuple #[.agg itZ, .bool false]) W := by
    rw [hmo]
    exact c_dec_no _ (by rw [bs_size, List.length_append, ← bs_size]; simp only [List.length_singleton]; omega) (by rw [L_bs]; exact dec_more I hg)
  have SI := fun a2 c2 => c_same I I (longI_small hI).1 a2 a c2 c
  rw [(eqIt_iff I I).2 rfl] at SI
  rw [h1, hg] at E3
  rw [hk] at E4
  have e1 : decide ((2000 : Int) < (q.size : Int)) = false := decide_eq_false (by omega)
  have e2 : decide (2000 < q.size) = false := decide_eq_false (by omega)
  have hq : q.size ≤ 4000 := by omega
  rw [hI] at L3
  rw [hJ] at L4
  clear hT hU hI hJ h2 hg h1 hmo hk
  generalize itC I a c = C at *
  generalize itC J b d = D at *
  go_enter Tryd.func4, Tryd.ntmps4
  go_wp2_with (first
    | (refine wpList_box_at (by rfl) 3 (by rfl) 24 _ (by rfl) C (by rfl) ?_; intro Wa R3 N1)
    | (refine wpList_box_at (by rfl) 4 (by rfl) 24 _ (by rfl) D (by rfl) ?_; intro W0 R4 N2; replace R3 := R3.after N2; have N := N1.trans N2)
    | refine wpList_load_want (by rfl) 24 _ (by rfl) w.heap.size (by rfl) 24 _ _ R3 Tryd.underlying24 rfl s3 ?_ | refine wpList_load_row (by rfl) 24 _ (by rfl) w.heap.size (by rfl) 24 _ (0, 0) _ R3 Tryd.underlying24 rfl s3 ?_)
  have r3 := R3.lt
  have r4 := R4.lt
  clear N1 N2
  generalize bs (encL I) = st at *
  refine (L3 _ (HT.out.after N)).mono ?_
  rintro _ V1 ⟨rfl, k⟩
  replace R3 := R3.after k
  replace R4 := R4.after k
  replace N := N.trans k
  clear k
  go_wp2_with (first | refine wpList_load_want (by rfl) 24 _ (by rfl) Wa.heap.size (by rfl) 24 _ _ R4 Tryd.underlying24 rfl s4 ?_ | refine wpList_load_row (by rfl) 24 _ (by rfl) Wa.heap.size (by rfl) 24 _ (0, 0) _ R4 Tryd.underlying24 rfl s4 ?_)
  refine (L4 _ (HU.out.after N)).mono ?_
  rintro _ V2 ⟨rfl, k⟩
  replace R3 := R3.after k
  replace R4 := R4.after k
  replace N := N.trans k
  clear k
  go_wp2_with (first | refine wpList_load_want (by rfl) 24 _ (by rfl) w.heap.size (by rfl) 24 _ _ R3 Tryd.underlying24 rfl s3 ?_ | refine wpList_load_row (by rfl) 24 _ (by rfl) w.heap.size (by rfl) 24 _ (0, 0) _ R3 Tryd.underlying24 rfl s3 ?_)
  refine (E3 _ (HT.out.after N) (hTT.after N)).mono ?_
  rintro _ V3 ⟨rfl, k⟩
  replace R3 := R3.after k
  replace R4 := R4.after k
  replace N := N.trans k
  clear k
  go_wp2_with (first | refine wpList_load_want (by rfl) 24 _ (by rfl) Wa.heap.size (by rfl) 24 _ _ R4 Tryd.underlying24 rfl s4 ?_ | refine wpList_load_row (by rfl) 24 _ (by rfl) Wa.heap.size (by rfl) 24 _ (0, 0) _ R4 Tryd.underlying24 rfl s4 ?_)
  refine (E4 _ (HU.out.after N) (hTT.after N)).mono ?_
  rintro _ V4 ⟨rfl, k⟩
  replace R3 := R3.after k
  replace R4 := R4.after k
  replace N := N.trans k
  clear k
  go_wp2_with fail
  refine (DI _ (hTT.after N)).mono ?_
  rintro _ V5 ⟨k, a2, c2, rfl, hTK⟩
  replace R3 := R3.after k
  replace R4 := R4.after k
  have sK := itC_size I a2 c2
  have oK := itC_one I a2 c2
  replace SI := SI a2 c2
  generalize itC I a2 c2 = Ci at *
  replace N := N.trans k
  clear k
  have lw := N.size
  have r3 := R3.lt
  have r4 := R4.lt
  have zK : itZ.size = Ci.size := by have h := sK; rw [i24] at h; exact Option.some.inj h
  go_wp2_with (first | (refine wpList_alloc_at (by rfl) 11 (by rfl) 24 (by rfl) _ _ _ info24 ?_; intro Y1 Ra Na) | (refine wpList_store_new (by rfl) 24 _ _ (by rfl) V5.heap.size Ci (by rfl) (by rfl) 24 itZ Ra sK zK oK ?_; intro Y2 R5 Bb; replace R3 := (R3.after Na).but Bb (by omega); replace R4 := (R4.after Na).but Bb (by omega); replace N := Bb.new (N.trans Na) lw))
  have HK : Hid (Tx Y2 a2 I.hs) := hTK.of fun x _ hlt => (Bb.block _ (by omega)).trans (Na.block _ hlt)
  generalize V5.heap.size = B at *
  clear hTK Na Bb Ra lw r3 r4
  refine (DM _ (hTT.after N)).mono ?_
  rintro _ V6 ⟨rfl, k⟩
  replace R3 := R3.after k
  replace R4 := R4.after k
  replace R5 := R5.after k
  replace HK : Hid (Tx _ a2 I.hs) := HK.out.after k
  replace N := N.trans k
  clear k
  have lw := N.size
  have r3 := R3.lt
  have r4 := R4.lt
  have r5 := R5.lt
  go_wp2_with (first | (refine wpList_alloc_at (by rfl) 13 (by rfl) 24 (by rfl) _ _ _ info24 ?_; intro Y3 Ra Na) | (refine wpList_store_new (by rfl) 24 _ _ (by rfl) V6.heap.size itZ (by rfl) (by rfl) 24 itZ Ra i24 rfl itZ_one ?_; intro Y4 R6 Bb; replace R3 := (R3.after Na).but Bb (by omega); replace R4 := (R4.after Na).but Bb (by omega); replace R5 := (R5.after Na).but Bb (by omega); replace N := Bb.new (N.trans Na) lw) | refine wpList_load_want (by rfl) 24 _ (by rfl) B (by rfl) 24 _ _ R5 Tryd.underlying24 rfl sK ?_ | refine wpList_load_row (by rfl) 24 _ (by rfl) B (by rfl) 24 _ (0, 0) _ R5 Tryd.underlying24 rfl sK ?_ | refine wpList_load_want (by rfl) 24 _ (by rfl) w.heap.size (by rfl) 24 _ _ R3 Tryd.underlying24 rfl s3 ?_ | refine wpList_load_row (by rfl) 24 _ (by rfl) w.heap.size (by rfl) 24 _ (0, 0) _ R3 Tryd.underlying24 rfl s3 ?_)
  replace HK : Hid (Tx Y4 a2 I.hs) := HK.out.of fun x _ hlt => (Bb.block _ (by omega)).trans (Na.block _ hlt)
  clear Na Bb Ra R6 lw r3 r4 r5
  refine (SI _ HK.out (HT.out.after N)).mono ?_
  rintro _ V7 ⟨rfl, k⟩
  replace R3 := R3.after k
  replace R4 := R4.after k
  replace N := N.trans k
  clear k
  clear R3 R4 R5 HT HU L3 L4 E3 E4 HK SI DI DM hz
  go_wp2_with fail
  cases hd : decB (L q)
  · have DS := c_dec_no q hq hd
    clear hd
    refine (DS _ (hTT.after N)).mono ?_
    rintro _ V8 ⟨rfl, k⟩
    replace N := N.trans k
    clear k
    have lw := N.size
    go_wp2_with (first | (refine wpList_alloc_at (by rfl) 15 (by rfl) 24 (by rfl) _ _ _ info24 ?_; intro Y1 Ra Na) | (refine wpList_store_new (by rfl) 24 _ _ (by rfl) V8.heap.size itZ (by rfl) (by rfl) 24 itZ Ra i24 rfl itZ_one ?_; intro Y2 Rb Bb; replace N := Bb.new (N.trans Na) lw; have c0 : Y2.cell? ⟨V8.heap.size, 0, none⟩ = some (.int .i64 0) := Rb.cell 0; have c5 : Y2.cell? ⟨V8.heap.size, 5, none⟩ = some (.slice none 0 0) := Rb.cell 5))
    refine (c_wakes _ (hTT.after N)).mono ?_
    rintro _ V9 ⟨rfl, k⟩
    replace N := N.trans k
    clear k
    go_wp2_with fail
    go_ret
    exact ⟨rfl, N⟩
  · have DS := c_dec_yes q hq hd
    obtain ⟨hd1, hd2⟩ := dec_yes hd
    have hKS := good_small _ hd1
    clear hd
    generalize itP (inP (L q)) = K at *
    have h1 : bs (encB K) = q := by unfold encB; rw [hd1, if_pos rfl, hd2, bs_L]
    have h2 : hashB K = Dg.ofL (L q) := by unfold hashB; rw [hd1, if_pos rfl, hd2]
    have KE := c_enc K hKS
    have KH := c_hash K hKS
    have KG := c_good K hKS
    have KD := c_dg q hq
    rw [h1, hd1] at KE
    rw [h2, hd1] at KH
    rw [hd1] at KG
    clear hd1 hd2 hKS h1 h2
    generalize bs (Dg.ofL (L q)) = hq1 at *
    have t1 : (q.toList == q.toList) = true := beq_self_eq_true _
    have t2 : (hq1.toList == hq1.toList) = true := beq_self_eq_true _
    refine (DS _ (hTT.after N)).mono ?_
    rintro _ V10 ⟨k, a5, c5, rfl, hTK⟩
    have sK := itC_size K a5 c5
    have oK := itC_one K a5 c5
    replace KE := KE a5 c5
    replace KH := KH a5 c5
    replace KG := KG a5 c5
    generalize itC K a5 c5 = Ck at *
    replace N := N.trans k
    clear k
    have HK : Hid (Tx V10 a5 K.hs) := hTK
    clear hTK
    have lw := N.size
    have zK : itZ.size = Ck.size := by have h := sK; rw [i24] at h; exact Option.some.inj h
    go_wp2_with (first | (refine wpList_alloc_at (by rfl) 15 (by rfl) 24 (by rfl) _ _ _ info24 ?_; intro Y1 Ra Na) | (refine wpList_store_new (by rfl) 24 _ _ (by rfl) V10.heap.size Ck (by rfl) (by rfl) 24 itZ Ra sK zK oK ?_; intro Y2 Rb Bb; replace N := Bb.new (N.trans Na) lw) | refine wpList_load_want (by rfl) 24 _ (by rfl) V10.heap.size (by rfl) 24 _ _ Rb Tryd.underlying24 rfl sK ?_ | refine wpList_load_row (by rfl) 24 _ (by rfl) V10.heap.size (by rfl) 24 _ (0, 0) _ Rb Tryd.underlying24 rfl sK ?_)
    have HK2 : Hid (Tx Y2 a5 K.hs) := HK.out.of fun x _ hlt => (Bb.block _ (by omega)).trans (Na.block _ hlt)
    generalize V10.heap.size = B at *
    clear HK Na Bb Ra lw
    refine (KE _ HK2.out (hTT.after N)).mono ?_
    rintro _ V11 ⟨rfl, k⟩
    replace Rb := Rb.after k
    replace HK2 : Hid (Tx _ a5 K.hs) := HK2.out.after k
    replace N := N.trans k
    clear k
    go_wp2_with (first | refine wpList_load_want (by rfl) 24 _ (by rfl) B (by rfl) 24 _ _ Rb Tryd.underlying24 rfl sK ?_ | refine wpList_load_row (by rfl) 24 _ (by rfl) B (by rfl) 24 _ (0, 0) _ Rb Tryd.underlying24 rfl sK ?_)
    refine (KH _ HK2.out (hTT.after N)).mono ?_
    rintro _ V12 ⟨rfl, k⟩
    replace Rb := Rb.after k
    replace HK2 : Hid (Tx _ a5 K.hs) := HK2.out.after k
    replace N := N.trans k
    clear k
    go_wp2_with (first | refine wpList_load_want (by rfl) 24 _ (by rfl) B (by rfl) 24 _ _ Rb Tryd.underlying24 rfl sK ?_ | refine wpList_load_row (by rfl) 24 _ (by rfl) B (by rfl) 24 _ (0, 0) _ Rb Tryd.underlying24 rfl sK ?_)
    refine (KG _ HK2.out).mono ?_
    rintro _ V13 ⟨rfl, k⟩
    replace Rb := Rb.after k
    replace HK2 : Hid (Tx _ a5 K.hs) := HK2.out.after k
    replace N := N.trans k
    clear k
    go_wp2_with (first | refine wpList_load_want (by rfl) 24 _ (by rfl) B (by rfl) 24 _ _ Rb Tryd.underlying24 rfl sK ?_ | refine wpList_load_row (by rfl) 24 _ (by rfl) B (by rfl) 24 _ (0, 0) _ Rb Tryd.underlying24 rfl sK ?_)
    refine (KD _ (hTT.after N)).mono ?_
    rintro _ V14 ⟨rfl, k⟩
    replace Rb := Rb.after k
    replace HK2 : Hid (Tx _ a5 K.hs) := HK2.out.after k
    replace N := N.trans k
    clear k
    go_wp2_with fail
    refine (c_wakes _ (hTT.after N)).mono ?_
    rintro _ V15 ⟨rfl, k⟩
    replace N := N.trans k
    clear k
    go_wp2_with fail
    go_ret
    exact ⟨rfl, N⟩

set_option maxHeartbeats 8000000 in
theorem back_two (I J : It) (a b : Option Addr) (c d : Nat) (q : ByteArray) (w : World) (hT : Tx w a I.hs) (hU : Tx w b J.hs) (hTT : TT w) (hI : longI I = false) (hJ : longI J = false) (h2 : ¬ 2000 < q.size) (hg : goodI I = true) (hk : goodI J = true) :
    Calls Tryd.prog 4 #[.agg (itC I a c), .agg (itC J b d), .string q] w fun e w' => e = .returned (.bool true) ∧ New w w' := by
  have HT : Hid (Tx w a I.hs) := hT
  have HU : Hid (Tx w b J.hs) := hU
  have s3 := itC_size I a c
  have s4 := itC_size J b d
  have L3 := c_long I a c
  have L4 := c_long J b d
  have E3 := c_enc I (longI_small hI).1 a c
  have E4 := c_enc J (longI_small hJ).1 b d
  have h1 : encB I = encL I := by unfold encB; rw [hg, if_pos rfl]
  have hz : (bs (encL I)).size ≤ 533 := by rw [bs_size, (enc_len I hg).1]; exact (enc_len I hg).2.1
  have DI := c_dec_yes (bs (encL I)) (by omega) (by rw [L_bs]; exact (dec_enc I hg).1)
  rw [L_bs, (dec_enc I hg).2] at DI
  have hmo : bs (encL I) ++ ⟨#[0]⟩ = bs (encL I ++ [0]) := eq_of_L (by rw [L_append, L_bs, L_bs]; rfl)
  have DM : ∀ W, TT W → Says 11 #[.string (bs (encL I) ++ ⟨#[0]⟩)] (.tuple #[.agg itZ, .bool false]) W := by
    rw [hmo]
    exact c_dec_no _ (by rw [bs_size, List.length_append, ← bs_size]; simp only [List.length_singleton]; omega) (by rw [L_bs]; exact dec_more I hg)
  have SI := fun a2 c2 => c_same I I (longI_small hI).1 a2 a c2 c
  rw [(eqIt_iff I I).2 rfl] at SI
  rw [h1, hg] at E3
  have h3 : encB J = encL J := by unfold encB; rw [hk, if_pos rfl]
  have SJ := c_same I J (longI_small hI).1 a b c d
  have ex : ((bs (encL I)).toList == (bs (encL J)).toList) = eqIt I J := by
    rw [beq_bs, Bool.eq_iff_iff, eqIt_iff, beq_iff_eq]
    exact ⟨enc_inj hg hk, fun h => by rw [h]⟩
  rw [h3, hk] at E4
  generalize eqIt I J = ij at *
  generalize bs (encL J) = su at *
  have exx : (ij != ij) = false := by cases ij <;> rfl
  have e1 : decide ((2000 : Int) < (q.size : Int)) = false := decide_eq_false (by omega)
  have e2 : decide (2000 < q.size) = false := decide_eq_false (by omega)
  have hq : q.size ≤ 4000 := by omega
  rw [hI] at L3
  rw [hJ] at L4
  clear hT hU hI hJ h2 hg h1 hmo hk h3
  generalize itC I a c = C at *
  generalize itC J b d = D at *
  go_enter Tryd.func4, Tryd.ntmps4
  go_wp2_with (first
    | (refine wpList_box_at (by rfl) 3 (by rfl) 24 _ (by rfl) C (by rfl) ?_; intro Wa R3 N1)
    | (refine wpList_box_at (by rfl) 4 (by rfl) 24 _ (by rfl) D (by rfl) ?_; intro W0 R4 N2; replace R3 := R3.after N2; have N := N1.trans N2)
    | refine wpList_load_want (by rfl) 24 _ (by rfl) w.heap.size (by rfl) 24 _ _ R3 Tryd.underlying24 rfl s3 ?_ | refine wpList_load_row (by rfl) 24 _ (by rfl) w.heap.size (by rfl) 24 _ (0, 0) _ R3 Tryd.underlying24 rfl s3 ?_)
  have r3 := R3.lt
  have r4 := R4.lt
  clear N1 N2
  generalize bs (encL I) = st at *
  refine (L3 _ (HT.out.after N)).mono ?_
  rintro _ V1 ⟨rfl, k⟩
  replace R3 := R3.after k
  replace R4 := R4.after k
  replace N := N.trans k
  clear k
  go_wp2_with (first | refine wpList_load_want (by rfl) 24 _ (by rfl) Wa.heap.size (by rfl) 24 _ _ R4 Tryd.underlying24 rfl s4 ?_ | refine wpList_load_row (by rfl) 24 _ (by rfl) Wa.heap.size (by rfl) 24 _ (0, 0) _ R4 Tryd.underlying24 rfl s4 ?_)
  refine (L4 _ (HU.out.after N)).mono ?_
  rintro _ V2 ⟨rfl, k⟩
  replace R3 := R3.after k
  replace R4 := R4.after k
  replace N := N.trans k
  clear k
  go_wp2_with (first | refine wpList_load_want (by rfl) 24 _ (by rfl) w.heap.size (by rfl) 24 _ _ R3 Tryd.underlying24 rfl s3 ?_ | refine wpList_load_row (by rfl) 24 _ (by rfl) w.heap.size (by rfl) 24 _ (0, 0) _ R3 Tryd.underlying24 rfl s3 ?_)
  refine (E3 _ (HT.out.after N) (hTT.after N)).mono ?_
  rintro _ V3 ⟨rfl, k⟩
  replace R3 := R3.after k
  replace R4 := R4.after k
  replace N := N.trans k
  clear k
  go_wp2_with (first | refine wpList_load_want (by rfl) 24 _ (by rfl) Wa.heap.size (by rfl) 24 _ _ R4 Tryd.underlying24 rfl s4 ?_ | refine wpList_load_row (by rfl) 24 _ (by rfl) Wa.heap.size (by rfl) 24 _ (0, 0) _ R4 Tryd.underlying24 rfl s4 ?_)
  refine (E4 _ (HU.out.after N) (hTT.after N)).mono ?_
  rintro _ V4 ⟨rfl, k⟩
  replace R3 := R3.after k
  replace R4 := R4.after k
  replace N := N.trans k
  clear k
  go_wp2_with fail
  refine (DI _ (hTT.after N)).mono ?_
  rintro _ V5 ⟨k, a2, c2, rfl, hTK⟩
  replace R3 := R3.after k
  replace R4 := R4.after k
  have sK := itC_size I a2 c2
  have oK := itC_one I a2 c2
  replace SI := SI a2 c2
  generalize itC I a2 c2 = Ci at *
  replace N := N.trans k
  clear k
  have lw := N.size
  have r3 := R3.lt
  have r4 := R4.lt
  have zK : itZ.size = Ci.size := by have h := sK; rw [i24] at h; exact Option.some.inj h
  go_wp2_with (first | (refine wpList_alloc_at (by rfl) 11 (by rfl) 24 (by rfl) _ _ _ info24 ?_; intro Y1 Ra Na) | (refine wpList_store_new (by rfl) 24 _ _ (by rfl) V5.heap.size Ci (by rfl) (by rfl) 24 itZ Ra sK zK oK ?_; intro Y2 R5 Bb; replace R3 := (R3.after Na).but Bb (by omega); replace R4 := (R4.after Na).but Bb (by omega); replace N := Bb.new (N.trans Na) lw))
  have HK : Hid (Tx Y2 a2 I.hs) := hTK.of fun x _ hlt => (Bb.block _ (by omega)).trans (Na.block _ hlt)
  generalize V5.heap.size = B at *
  clear hTK Na Bb Ra lw r3 r4
  refine (DM _ (hTT.after N)).mono ?_
  rintro _ V6 ⟨rfl, k⟩
  replace R3 := R3.after k
  replace R4 := R4.after k
  replace R5 := R5.after k
  replace HK : Hid (Tx _ a2 I.hs) := HK.out.after k
  replace N := N.trans k
  clear k
  have lw := N.size
  have r3 := R3.lt
  have r4 := R4.lt
  have r5 := R5.lt
  go_wp2_with (first | (refine wpList_alloc_at (by rfl) 13 (by rfl) 24 (by rfl) _ _ _ info24 ?_; intro Y3 Ra Na) | (refine wpList_store_new (by rfl) 24 _ _ (by rfl) V6.heap.size itZ (by rfl) (by rfl) 24 itZ Ra i24 rfl itZ_one ?_; intro Y4 R6 Bb; replace R3 := (R3.after Na).but Bb (by omega); replace R4 := (R4.after Na).but Bb (by omega); replace R5 := (R5.after Na).but Bb (by omega); replace N := Bb.new (N.trans Na) lw) | refine wpList_load_want (by rfl) 24 _ (by rfl) B (by rfl) 24 _ _ R5 Tryd.underlying24 rfl sK ?_ | refine wpList_load_row (by rfl) 24 _ (by rfl) B (by rfl) 24 _ (0, 0) _ R5 Tryd.underlying24 rfl sK ?_ | refine wpList_load_want (by rfl) 24 _ (by rfl) w.heap.size (by rfl) 24 _ _ R3 Tryd.underlying24 rfl s3 ?_ | refine wpList_load_row (by rfl) 24 _ (by rfl) w.heap.size (by rfl) 24 _ (0, 0) _ R3 Tryd.underlying24 rfl s3 ?_)
  replace HK : Hid (Tx Y4 a2 I.hs) := HK.out.of fun x _ hlt => (Bb.block _ (by omega)).trans (Na.block _ hlt)
  clear Na Bb Ra R6 lw r3 r4 r5
  refine (SI _ HK.out (HT.out.after N)).mono ?_
  rintro _ V7 ⟨rfl, k⟩
  replace R3 := R3.after k
  replace R4 := R4.after k
  replace N := N.trans k
  clear k
  go_wp2_with (first | refine wpList_load_want (by rfl) 24 _ (by rfl) w.heap.size (by rfl) 24 _ _ R3 Tryd.underlying24 rfl s3 ?_ | refine wpList_load_row (by rfl) 24 _ (by rfl) w.heap.size (by rfl) 24 _ (0, 0) _ R3 Tryd.underlying24 rfl s3 ?_ | refine wpList_load_want (by rfl) 24 _ (by rfl) Wa.heap.size (by rfl) 24 _ _ R4 Tryd.underlying24 rfl s4 ?_ | refine wpList_load_row (by rfl) 24 _ (by rfl) Wa.heap.size (by rfl) 24 _ (0, 0) _ R4 Tryd.underlying24 rfl s4 ?_)
  refine (SJ _ (HT.out.after N) (HU.out.after N)).mono ?_
  rintro _ V8 ⟨rfl, k⟩
  replace N := N.trans k
  clear k
  clear R3 R4 R5 HT HU L3 L4 E3 E4 HK SI SJ DI DM hz
  go_wp2_with fail
  cases hd : decB (L q)
  · have DS := c_dec_no q hq hd
    clear hd
    refine (DS _ (hTT.after N)).mono ?_
    rintro _ V9 ⟨rfl, k⟩
    replace N := N.trans k
    clear k
    have lw := N.size
    go_wp2_with (first | (refine wpList_alloc_at (by rfl) 15 (by rfl) 24 (by rfl) _ _ _ info24 ?_; intro Y1 Ra Na) | (refine wpList_store_new (by rfl) 24 _ _ (by rfl) V9.heap.size itZ (by rfl) (by rfl) 24 itZ Ra i24 rfl itZ_one ?_; intro Y2 Rb Bb; replace N := Bb.new (N.trans Na) lw; have c0 : Y2.cell? ⟨V9.heap.size, 0, none⟩ = some (.int .i64 0) := Rb.cell 0; have c5 : Y2.cell? ⟨V9.heap.size, 5, none⟩ = some (.slice none 0 0) := Rb.cell 5))
    refine (c_wakes _ (hTT.after N)).mono ?_
    rintro _ V10 ⟨rfl, k⟩
    replace N := N.trans k
    clear k
    go_wp2_with fail
    go_ret
    exact ⟨rfl, N⟩
  · have DS := c_dec_yes q hq hd
    obtain ⟨hd1, hd2⟩ := dec_yes hd
    have hKS := good_small _ hd1
    clear hd
    generalize itP (inP (L q)) = K at *
    have h1 : bs (encB K) = q := by unfold encB; rw [hd1, if_pos rfl, hd2, bs_L]
    have h2 : hashB K = Dg.ofL (L q) := by unfold hashB; rw [hd1, if_pos rfl, hd2]
    have KE := c_enc K hKS
    have KH := c_hash K hKS
    have KG := c_good K hKS
    have KD := c_dg q hq
    rw [h1, hd1] at KE
    rw [h2, hd1] at KH
    rw [hd1] at KG
    clear hd1 hd2 hKS h1 h2
    generalize bs (Dg.ofL (L q)) = hq1 at *
    have t1 : (q.toList == q.toList) = true := beq_self_eq_true _
    have t2 : (hq1.toList == hq1.toList) = true := beq_self_eq_true _
    refine (DS _ (hTT.after N)).mono ?_
    rintro _ V11 ⟨k, a5, c5, rfl, hTK⟩
    have sK := itC_size K a5 c5
    have oK := itC_one K a5 c5
    replace KE := KE a5 c5
    replace KH := KH a5 c5
    replace KG := KG a5 c5
    generalize itC K a5 c5 = Ck at *
    replace N := N.trans k
    clear k
    have HK : Hid (Tx V11 a5 K.hs) := hTK
    clear hTK
    have lw := N.size
    have zK : itZ.size = Ck.size := by have h := sK; rw [i24] at h; exact Option.some.inj h
    go_wp2_with (first | (refine wpList_alloc_at (by rfl) 15 (by rfl) 24 (by rfl) _ _ _ info24 ?_; intro Y1 Ra Na) | (refine wpList_store_new (by rfl) 24 _ _ (by rfl) V11.heap.size Ck (by rfl) (by rfl) 24 itZ Ra sK zK oK ?_; intro Y2 Rb Bb; replace N := Bb.new (N.trans Na) lw) | refine wpList_load_want (by rfl) 24 _ (by rfl) V11.heap.size (by rfl) 24 _ _ Rb Tryd.underlying24 rfl sK ?_ | refine wpList_load_row (by rfl) 24 _ (by rfl) V11.heap.size (by rfl) 24 _ (0, 0) _ Rb Tryd.underlying24 rfl sK ?_)
    have HK2 : Hid (Tx Y2 a5 K.hs) := HK.out.of fun x _ hlt => (Bb.block _ (by omega)).trans (Na.block _ hlt)
    generalize V11.heap.size = B at *
    clear HK Na Bb Ra lw
    refine (KE _ HK2.out (hTT.after N)).mono ?_
    rintro _ V12 ⟨rfl, k⟩
    replace Rb := Rb.after k
    replace HK2 : Hid (Tx _ a5 K.hs) := HK2.out.after k
    replace N := N.trans k
    clear k
    go_wp2_with (first | refine wpList_load_want (by rfl) 24 _ (by rfl) B (by rfl) 24 _ _ Rb Tryd.underlying24 rfl sK ?_ | refine wpList_load_row (by rfl) 24 _ (by rfl) B (by rfl) 24 _ (0, 0) _ Rb Tryd.underlying24 rfl sK ?_)
    refine (KH _ HK2.out (hTT.after N)).mono ?_
    rintro _ V13 ⟨rfl, k⟩
    replace Rb := Rb.after k
    replace HK2 : Hid (Tx _ a5 K.hs) := HK2.out.after k
    replace N := N.trans k
    clear k
    go_wp2_with (first | refine wpList_load_want (by rfl) 24 _ (by rfl) B (by rfl) 24 _ _ Rb Tryd.underlying24 rfl sK ?_ | refine wpList_load_row (by rfl) 24 _ (by rfl) B (by rfl) 24 _ (0, 0) _ Rb Tryd.underlying24 rfl sK ?_)
    refine (KG _ HK2.out).mono ?_
    rintro _ V14 ⟨rfl, k⟩
    replace Rb := Rb.after k
    replace HK2 : Hid (Tx _ a5 K.hs) := HK2.out.after k
    replace N := N.trans k
    clear k
    go_wp2_with (first | refine wpList_load_want (by rfl) 24 _ (by rfl) B (by rfl) 24 _ _ Rb Tryd.underlying24 rfl sK ?_ | refine wpList_load_row (by rfl) 24 _ (by rfl) B (by rfl) 24 _ (0, 0) _ Rb Tryd.underlying24 rfl sK ?_)
    refine (KD _ (hTT.after N)).mono ?_
    rintro _ V15 ⟨rfl, k⟩
    replace Rb := Rb.after k
    replace HK2 : Hid (Tx _ a5 K.hs) := HK2.out.after k
    replace N := N.trans k
    clear k
    go_wp2_with fail
    refine (c_wakes _ (hTT.after N)).mono ?_
    rintro _ V16 ⟨rfl, k⟩
    replace N := N.trans k
    clear k
    go_wp2_with fail
    go_ret
    exact ⟨rfl, N⟩

theorem back_any (I J : It) (a b : Option Addr) (c d : Nat) (q : ByteArray) (w : World) (hT : Tx w a I.hs) (hU : Tx w b J.hs) (hTT : TT w) :
    Calls Tryd.prog 4 #[itV I a c, itV J b d, .string q] w fun e w' => e = .returned (.bool true) ∧ New w w' := by
  show Calls Tryd.prog 4 #[.agg (itC I a c), .agg (itC J b d), .string q] w _
  cases hI : longI I
  · cases hJ : longI J
    · by_cases h2 : 2000 < q.size
      · exact back_long I J a b c d q w hT hU hTT (.inr ⟨hI, .inr ⟨hJ, h2⟩⟩)
      · cases hg : goodI I
        · exact back_no I J a b c d q w hT hU hTT hI hJ h2 hg
        · cases hk : goodI J
          · exact back_one I J a b c d q w hT hU hTT hI hJ h2 hg hk
          · exact back_two I J a b c d q w hT hU hTT hI hJ h2 hg hk
    · exact back_long I J a b c d q w hT hU hTT (.inr ⟨hI, .inl hJ⟩)
  · exact back_long I J a b c d q w hT hU hTT (.inl hI)

end Go.Proofs.YtecamiefpdkjoaaDoor
