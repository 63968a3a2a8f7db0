/-
  What the document's With and Of tell: the same as Of.
-/
import Derived.Test.YtecamiefpdkjoaaDoorDgRefBlock
import Derived.Test.YtecamiefpdkjoaaDoorDgRefPad
import Derived.Test.YtecamiefpdkjoaaDoorDgStepA
namespace Go.Proofs.YtecamiefpdkjoaaDoor.Dg
open Go.RowKit
set_option maxRecDepth 20000

theorem grow_at {B : Nat} {w wr w1 : World} {v : Value} {k : Nat} {xs : List Value} {d : Obj} (hown : wr.ownsRow B 5 1 v k xs) (hb : Below B w wr) (hB : B ≤ wr.heap.size) (hg : (wr.alloc d).drew.grownBy w1 v.ownBlock) : Below B w w1 :=
  ((hb.alloc hB d).drew).grown hg (by simp; omega) fun j hj => (hown.lt j hj).1
theorem stepsK_keep (k : List Nat) (h : W8) (hh : ∀ j, h.list.getD j 0 < 4294967296) (l : List UInt8) (n : Nat) : ∀ j, (stepsK k h l n).list.getD j 0 < 4294967296 := stepsK_bound k h hh l n

set_option maxRecDepth 4000 in
set_option maxHeartbeats 2000000 in
theorem with_any (s : ByteArray) (h : W8) (kl : List Nat) (hs : s.size ≤ 4000) (hkl : kl.length = 64) (hhb : ∀ j, h.list.getD j 0 < 4294967296) (w : World) :
    Calls Tryd.prog 51 #[.string s, .agg (cw h.list), .agg (cw kl)] w fun e w' => e = .returned (.string (bs (ofK kl h (L s)))) ∧ Kept w w' := by
  obtain ⟨i0, hi0, hz0, hz1, hz2⟩ := info_parts info5
  obtain ⟨t, ht⟩ : ∃ t, s ++ bs (padL s.size) = t := ⟨_, rfl⟩
  have htL : L t = L s ++ padL s.size := by rw [← ht, L_append, L_bs]
  have hts : t.size = s.size + padS s.size := by rw [← L_size, htL, List.length_append, padL_length, L_size]
  obtain ⟨M, hM⟩ : ∃ M, t.size / 64 = M := ⟨_, rfl⟩
  have hS9 := padS_ge s.size
  have hS72 := padS_le s.size
  have hSm := padS_mod s.size
  have htM : t.size = 64 * M := by omega
  have HO : Hid (ofK kl h (L s) = bytesL (stepsK kl h (L t) M).list) := by
    show _ = _
    unfold ofK
    rw [L_size, ← htL, ← hts, hM]
  have hpb : (bs (padL s.size)).size = padS s.size := by rw [bs_size, padL_length]
  obtain ⟨pb, hpbe⟩ : ∃ pb, bs (padL s.size) = pb := ⟨_, rfl⟩
  have hpad := refPad_any s.size (by omega)
  rw [hpbe] at hpad hpb ht
  have HTM : Hid (t.size = 64 * M) := htM
  have HM8 : Hid (M ≤ 64) := by show M ≤ 64; omega
  have hpb72 : pb.size ≤ 72 := by omega
  have HHB : Hid (∀ j, h.list.getD j 0 < 4294967296) := hhb
  obtain ⟨kc, hkc⟩ : ∃ kc, cw kl = kc := ⟨_, rfl⟩
  obtain ⟨hc, hhc⟩ : ∃ hc, cw h.list = hc := ⟨_, rfl⟩
  rw [hkc, hhc]
  have hks : kc.size = 64 := by rw [← hkc, cw_size, hkl]
  clear hpbe htL hts hM hS9 hS72 hSm htM hpb hhb
  go_enter Tryd.func51, Tryd.ntmps51
  go_wp2_with fail
  have R0 : Row ((w.alloc (.cells hc 62)).alloc (.cells kc 75)) w.heap.size (cw h.list) 62 := hhc ▸ (Row.new w hc 62).alloc _
  have R5 : Row ((w.alloc (.cells hc 62)).alloc (.cells kc 75)) (w.heap.size + 1) kc 75 := Row.newAt (by simp) _ _
  have K0 : Kept w ((w.alloc (.cells hc 62)).alloc (.cells kc 75)) := ((Kept.refl w).allocR _).allocR _
  generalize (w.alloc (.cells hc 62)).alloc (.cells kc 75) = W0 at R0 R5 K0 ⊢
  refine (hpad _).mono ?_
  rintro _ w1 ⟨rfl, k1⟩
  replace R0 := R0.kept k1
  replace R5 := R5.kept k1
  replace K0 := K0.trans k1
  clear hpad k1 W0
  go_wp2_with fail
  clear ht hpb72
  go_loopw [8] (fun i wr => ∃ k q : Nat, k ≤ M ∧ 64 * k = q ∧ i = .int .i64 (q : Int) ∧ Row wr w.heap.size (cw (stepsK kl h (L t) k).list) 62 ∧ Row wr (w.heap.size + 1) kc 75 ∧ Kept w wr) (fun i _ => t.size - (intOf i).toNat)
  case atStart => exact ⟨0, 0, by omega, rfl, rfl, R0, R5, K0⟩
  case round =>
    clear R0 R5 K0
    obtain ⟨k, q, hk, hq, rfl, R0, R5, K0⟩ := hrel
    obtain ⟨v, hv⟩ : ∃ v, stepsK kl h (L t) k = v := ⟨_, rfl⟩
    rw [hv] at R0
    have hM8 := HM8.out
    by_cases hlt : k < M
    · have hqt : q + 64 ≤ t.size := by have := HTM.out; omega
      have hq500 : q ≤ 4096 := by omega
      have HV : Hid (stepsK kl h (L t) (k + 1) = blockK kl v (nats (((L t).drop q).take 64))) := by
        show stepsK kl h (L t) (k + 1) = _
        rw [stepsK, hv, hq]
      have hdl : ((L t).drop q).length = t.size - q := by rw [List.length_drop, L_size]
      clear hv
      go_upto_region 6 with fail
      obtain ⟨Z, hZ⟩ : ∃ Z : Array Value, Z = #[.int .u8 0, .int .u8 0, .int .u8 0, .int .u8 0, .int .u8 0, .int .u8 0, .int .u8 0, .int .u8 0, .int .u8 0, .int .u8 0, .int .u8 0, .int .u8 0, .int .u8 0, .int .u8 0, .int .u8 0, .int .u8 0, .int .u8 0, .int .u8 0, .int .u8 0, .int .u8 0, .int .u8 0, .int .u8 0, .int .u8 0, .int .u8 0, .int .u8 0, .int .u8 0, .int .u8 0, .int .u8 0, .int .u8 0, .int .u8 0, .int .u8 0, .int .u8 0, .int .u8 0, .int .u8 0, .int .u8 0, .int .u8 0, .int .u8 0, .int .u8 0, .int .u8 0, .int .u8 0, .int .u8 0, .int .u8 0, .int .u8 0, .int .u8 0, .int .u8 0, .int .u8 0, .int .u8 0, .int .u8 0, .int .u8 0, .int .u8 0, .int .u8 0, .int .u8 0, .int .u8 0, .int .u8 0, .int .u8 0, .int .u8 0, .int .u8 0, .int .u8 0, .int .u8 0, .int .u8 0, .int .u8 0, .int .u8 0, .int .u8 0, .int .u8 0] := ⟨_, rfl⟩
      rw [← hZ]
      have hZ2 : Z = cb (pad64 (nats (((L t).drop q).take 0))) := by rw [hZ]; rfl
      have R1 : Row (wr.alloc (.cells Z 77)) wr.heap.size (cb (pad64 (nats (((L t).drop q).take 0)))) 77 := hZ2 ▸ Row.new wr Z 77
      have hG : w.heap.size + 1 < wr.heap.size := R5.lt
      replace R0 := R0.alloc (.cells Z 77)
      replace R5 := R5.alloc (.cells Z 77)
      replace K0 := K0.allocR (.cells Z 77)
      generalize wr.alloc (.cells Z 77) = W1 at R0 R1 R5 K0 ⊢
      generalize wr.heap.size = G at R1 hG ⊢
      clear hZ hZ2
      go_wp2_with fail
      go_loopw [10] (fun i wr => ∃ j : Nat, j ≤ 64 ∧ i = .int .i64 (j : Int) ∧ Row wr w.heap.size (cw v.list) 62 ∧ Row wr (w.heap.size + 1) kc 75 ∧ Row wr G (cb (pad64 (nats (((L t).drop q).take j)))) 77 ∧ Kept w wr) (fun i _ => (64 - intOf i).toNat)
      case atStart => exact ⟨0, by omega, rfl, R0, R5, R1, K0⟩
      case round =>
        clear R0 R1 R5 K0 W1
        obtain ⟨j, hj, rfl, R0, R5, R1, K0⟩ := hrel
        by_cases hlt2 : j < 64
        · obtain ⟨r, hr⟩ : ∃ r, q + j = r := ⟨_, rfl⟩
          have hrt : r < t.size := by omega
          have hrI : (q : Int) + (j : Int) = (r : Int) := by omega
          have hbo := block_of t q j (by omega)
          have HN : Hid (nats (((L t).drop q).take (j + 1)) = nats (((L t).drop q).take j) ++ [t[r].toNat]) := by
            show _ = _
            have h2 := nats_step ((L t).drop q) j _ hbo
            rw [h2]
            congr 2
            subst hr
            rfl
          have hnl : (nats (((L t).drop q).take j)).length = j := by rw [nats_length, List.length_take]; omega
          have hlen := pad64_length (nats (((L t).drop q).take j)) (by omega)
          obtain ⟨o, ho⟩ : ∃ o, wr.cell? ⟨G, j, none⟩ = some o := ⟨_, (R1.cell j).trans (cb_get _ _ (by omega))⟩
          have hf : wr.frozen? ⟨G, j, none⟩ = false := R1.frozen j
          have HNL : Hid ((nats (((L t).drop q).take j)).length = j) := hnl
          clear hbo hlen hr hnl hdl
          go_wp2_with fail
          go_roundw
          case rel =>
            refine ⟨j + 1, by omega, by simp, R0.setCellOther (by simp; omega) _, R5.setCellOther (by simp; omega) _, ?_, K0.setCell (by simp; omega) _⟩
            rw [HN.out]
            exact cb_push R1 HNL.out hlt2 _
          case measure => simp [intOf]; omega
        · obtain rfl : j = 64 := by omega
          obtain ⟨bl, hbl⟩ : ∃ bl, nats (((L t).drop q).take 64) = bl := ⟨_, rfl⟩
          have hbl64 : bl.length = 64 := by rw [← hbl, nats_length, List.length_take]; omega
          have hb256 : ∀ j, bl.getD j 0 < 256 := by rw [← hbl]; exact nats_lt _
          rw [hbl] at HV R1
          rw [pad64_full _ hbl64] at R1
          have hcall := refStep_any v bl kl hbl64 hb256 hkl wr
          rw [hkc] at hcall
          clear hbl hb256 hdl
          go_upto_region 10 with fail
          go_wp2_with (first | refine wpList_load_row (by rfl) 62 _ (by rfl) w.heap.size (by rfl) 62 (cw v.list) (0, 0) _ R0 Tryd.underlying62 rfl (by rw [cw_size]; exact i23) ?_ | refine wpList_load_row (by rfl) 77 _ (by rfl) G (by rfl) 77 (cb bl) (0, 0) _ R1 Tryd.underlying77 rfl (by rw [cb_size, hbl64]; exact i24) ?_ | refine wpList_load_row (by rfl) 75 _ (by rfl) (w.heap.size + 1) (by rfl) 75 kc (0, 0) _ R5 Tryd.underlying75 rfl (by rw [hks]; exact i40) ?_)
          refine hcall.mono ?_
          rintro _ w4 ⟨rfl, k4⟩
          clear hcall
          obtain ⟨r, hr⟩ : ∃ r, blockK kl v bl = r := ⟨_, rfl⟩
          rw [hr] at HV ⊢
          clear hr
          have V0 := R0.kept k4
          have V5 := R5.kept k4
          have hK4 := K0.trans k4
          clear R0 R1 R5 k4 K0
          go_wp2_with (refine wpList_store_row (by rfl) 62 _ _ (by rfl) w.heap.size (cw r.list) (by rfl) (by rfl) 62 (cw v.list) V0 (by rw [cw_size]; exact i23) (by rw [cw_size, cw_size]; rfl) (cw_one _) ?_)
          go_roundw
          case rel =>
            refine ⟨k + 1, q + 64, by omega, by omega, by go_num, ?_, V5.setOther (by omega) _, hK4.setRow (by omega) _⟩
            rw [HV.out]
            exact V0.set _
          case measure => simp [intOf]; omega
    · obtain rfl : k = M := by omega
      have hqt : t.size ≤ q := by have := HTM.out; omega
      have HO2 : Hid (ofK kl h (L s) = bytesL v.list) := by show _ = _; rw [HO.out, hv]
      have HVB : Hid (∀ j, v.list.getD j 0 < 4294967296) := by show ∀ j, _; rw [← hv]; exact stepsK_bound _ _ HHB.out _ _
      clear HO hv HTM HHB R5 hk hlt hM8 HM8 hkc hhc hkl hks
      go_wp2_with fail
      rw [show decide (q < t.size) = false from decide_eq_false (by omega)]
      clear hqt hq
      obtain ⟨wA, hwA⟩ : ∃ wA, wA = wr := ⟨_, rfl⟩
      subst hwA
      have hGA : w.heap.size < wA.heap.size := R0.lt
      go_loopw [11, 12] (fun u i wr => ∃ k : Nat, k ≤ 8 ∧ i = .int .i64 (k : Int) ∧ wr.ownsRow wA.heap.size 5 1 u (4 * k) (cellsL (bytesL (v.list.take k))) ∧ Below wA.heap.size wA wr) (fun _ i _ => (8 - intOf i).toNat)
      case atStart => exact ⟨0, by omega, rfl, World.ownsRow_nil _ _ _ _, Below.refl _ _⟩
      case round =>
        obtain ⟨k, hk, rfl, hown, hb⟩ := hrel
        have hB := hb.size
        by_cases hlt : k < 8
        · obtain ⟨x, hx⟩ : ∃ x, v.list.getD k 0 = x := ⟨_, rfl⟩
          have hxl := HVB.out k
          rw [hx] at hxl
          obtain ⟨a, ha⟩ : ∃ a, x / 16777216 % 256 = a := ⟨_, rfl⟩
          obtain ⟨b, hb'⟩ : ∃ a, x / 65536 % 256 = a := ⟨_, rfl⟩
          obtain ⟨c, hc'⟩ : ∃ a, x / 256 % 256 = a := ⟨_, rfl⟩
          obtain ⟨d, hd⟩ : ∃ a, x % 256 = a := ⟨_, rfl⟩
          have HS : Hid (_ = _) := out_step v.list k (by rw [list_length]; exact hlt) x hx a b c d ha hb' hc' hd
          have hcx : ∀ w1, Below wA.heap.size wA w1 → w1.cell? ⟨w.heap.size, k, none⟩ = some (.int .u32 (x : Int)) := fun w1 h1 => by
            have R1 : Row w1 w.heap.size (cw v.list) 62 := (h1.block _ hGA).trans R0
            rw [R1.cell, cw_get _ _ (by rw [list_length]; exact hlt), hx]
          have HCX : Hid (∀ w1, Below wA.heap.size wA w1 → w1.cell? ⟨w.heap.size, k, none⟩ = some (.int .u32 (x : Int))) := hcx
          have hcr := hcx wr hb
          have ia : (x : Int) / 16777216 = (a : Int) := by omega
          have ib : (x : Int) / 65536 % 256 = (b : Int) := by omega
          have ic : (x : Int) / 256 % 256 = (c : Int) := by omega
          have id' : (x : Int) % 256 = (d : Int) := by omega
          have ja : IntKind.u8.wrap (a : Int) = (a : Int) := by rw [IntKind.wrap_u8]; omega
          have jb : IntKind.u8.wrap ((x : Int) / 65536) = (b : Int) := by rw [IntKind.wrap_u8]; omega
          have jc : IntKind.u8.wrap ((x : Int) / 256) = (c : Int) := by rw [IntKind.wrap_u8]; omega
          have jd : IntKind.u8.wrap (x : Int) = (d : Int) := by rw [IntKind.wrap_u8]; omega
          have hk0 : (0 : Int) ≤ (k : Int) := by omega
          have hk8 : (k : Int) < 8 := by omega
          clear hx ha hb' hc' hd hcx
          go_wp2_with fail
          go_region_held3 (fun w' => w'.cell? ⟨w.heap.size, k, none⟩ = some (.int .u32 (x : Int))) (first | go_keep | exact hx1)
            ((refine step_append_lies _ (by rfl) _ _ _ (by rfl) wA.heap.size 5 i0 _ 1 1 Tryd.underlying56 hi0 hz0 hz1 hz2 rfl (by omega) u11 (4 * k) (cellsL (bytesL (v.list.take k))) (by rfl) ((hown.alloc _).drew)
                ⟨wr.heap.size, 0, none⟩ 4 4 [.int .u8 (a : Int), .int .u8 (b : Int), .int .u8 (c : Int), .int .u8 (d : Int)] (by rfl) (by rfl) (World.news_of_block (cs := #[.int .u8 (a : Int), .int .u8 (b : Int), .int .u8 (c : Int), .int .u8 (d : Int)]) (t := 5) (fr := (0, 0)) (heap_alloc_new wr _)) (by simp [Value.oneCell'])
                (by omega) (by unfold maxLen; omega) (by omega) (by simp; omega) (wr.heap.size + 1) (by simp) ?_; intro gg cap w1 hown1 hgrow hat hlt1; have hbb := grow_at hown hb hB hgrow; have hx1 := HCX.out w1 hbb))
          go_wp2_with fail
          all_goals exact ⟨⟨k + 1, by omega, by go_num, HS.out ▸ hown1, hbb⟩, by simp [intOf]; omega⟩
        · obtain rfl : k = 8 := by omega
          have hcv := conv_own (by rw [bytesL_length]; rfl) hown
          rw [show v.list.take 8 = v.list from rfl] at hcv
          clear hown
          go_wp2_with fail
          go_ret
          exact ⟨ret_str (by rw [HO2.out]), K0.trans (Kept.below hb)⟩

theorem refOf_any (s : ByteArray) (hs : s.size ≤ 4000) (w : World) :
    Calls Tryd.prog 32 #[.string s] w fun e w' => e = .returned (.string (bs (ofL (L s)))) ∧ Kept w w' := by
  have h1 := start_any
  have h2 := constants_any
  have h3 := with_any s firstN roundsN hs roundsN_length first_bound
  have h4 : ofK roundsN firstN (L s) = ofL (L s) := rfl
  rw [h4] at h3
  generalize cw firstN.list = a at h1 h3
  generalize cw roundsN = b at h2 h3
  generalize bs (ofL (L s)) = r at h3 ⊢
  clear h4
  go_enter Tryd.func32, Tryd.ntmps32
  go_wp2_with fail
  refine (h1 _).mono ?_
  rintro _ w1 ⟨rfl, k1⟩
  go_wp2_with fail
  refine (h2 _).mono ?_
  rintro _ w2 ⟨rfl, k2⟩
  go_wp2_with fail
  refine (h3 _).mono ?_
  rintro _ w3 ⟨rfl, k3⟩
  go_wp2_with fail
  go_ret
  exact ⟨rfl, k1.trans (k2.trans k3)⟩

end Go.Proofs.YtecamiefpdkjoaaDoor.Dg
