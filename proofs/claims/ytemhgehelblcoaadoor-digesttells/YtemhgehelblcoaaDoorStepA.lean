/-
  What DigestSteps returns: true, for every text, where the tables lie as their initialisers lay them.
-/
import Derived.Test.YtemhgehelblcoaaDoorWakes
namespace Go.Proofs.YtemhgehelblcoaaDoor
open Go.RowKit

/-- A row of bytes that is filled one by one. -/
theorem cb_push {w : World} {g k : Nat} {t : TypeId} {l : List Nat} (R : Row w g (cb (pad64 l)) t) (hk : l.length = k) (h : k < 64) (x : Nat) : Row (w.setCell ⟨g, k, none⟩ (.int .u8 (x : Int))) g (cb (pad64 (l ++ [x]))) t := by
  subst hk
  have h1 := R.setCell l.length (.int .u8 (x : Int))
  rw [cb_set, pad64_set _ _ h] at h1
  exact h1
theorem nats_step (l : List UInt8) (k : Nat) (c : UInt8) (h : l[k]? = some c) : nats (l.take (k + 1)) = nats (l.take k) ++ [c.toNat] := by
  rw [List.take_add_one, h, nats_append]; rfl
theorem block_of (t : ByteArray) (q j : Nat) (h : q + j < t.size) : ((L t).drop q)[j]? = some t[q + j] := by
  rw [List.getElem?_drop]; exact L_get t (q + j) h
theorem putL_at (x j : Nat) (h : j < 4) : (putL x)[j]? = some (UInt8.ofNat (x / 2 ^ (24 - 8 * j) % 256)) := by
  have h8 : j = 0 ∨ j = 1 ∨ j = 2 ∨ j = 3 := by omega
  rcases h8 with rfl | rfl | rfl | rfl
  all_goals simp [putL]
theorem bytesL_at (l : List Nat) : ∀ (m j : Nat), m < l.length → j < 4 → (bytesL l)[4 * m + j]? = some (UInt8.ofNat (l.getD m 0 / 2 ^ (24 - 8 * j) % 256)) := by
  induction l with
  | nil => intro m j h; simp at h
  | cons v l ih =>
    intro m j hm hj
    show (putL v ++ bytesL l)[4 * m + j]? = _
    cases m with
    | zero => rw [List.getElem?_append_left (by show 4 * 0 + j < 4; omega), show 4 * 0 + j = j by omega, putL_at v j hj]; rfl
    | succ m =>
      rw [List.getElem?_append_right (by show 4 ≤ 4 * (m + 1) + j; omega), show (putL v).length = 4 from rfl, show 4 * (m + 1) + j - 4 = 4 * m + j by omega, ih m j (by simpa using hm) hj]
      rfl

theorem at_bytes {s : ByteArray} {l : List UInt8} (h : s = bs l) {k : Nat} (hk : k < s.size) {c : UInt8} (hc : l[k]? = some c) : s[k] = c := by
  subst h
  have h2 := L_get (bs l) k hk
  rw [L_bs, hc] at h2
  exact (Option.some.inj h2).symm

set_option maxHeartbeats 2000000 in
theorem steps_small (s : ByteArray) (hs : s.size ≤ 400) (w : World) (hT : Tab w) :
    Calls Tryd.prog 4 #[.string s] w fun e w' => e = .returned (.bool true) ∧ w.keptBut w' (fun _ => False) := by
  obtain ⟨t, ht⟩ : ∃ t, s ++ bs (padL s.size) = t := ⟨_, rfl⟩
  have htL : L t = L s ++ padL s.size := by rw [← ht, L_append, L_bs]
  have hts : t.size = s.size + padS s.size := by rw [← L_size, htL, List.length_append, padL_length, L_size]
  obtain ⟨M, hM⟩ : ∃ M, t.size / 64 = M := ⟨_, rfl⟩
  have hS9 := padS_ge s.size
  have hS72 := padS_le s.size
  have hSm := padS_mod s.size
  have htM : t.size = 64 * M := by omega
  have HO : Hid (ofL (L s) = bytesL (stepsK roundsN firstN (L t) M).list) := by
    show _ = _
    unfold ofL ofK
    rw [L_size, ← htL, ← hts, hM]
  have hpb : (bs (padL s.size)).size = padS s.size := by rw [bs_size, padL_length]
  obtain ⟨pb, hpbe⟩ : ∃ pb, bs (padL s.size) = pb := ⟨_, rfl⟩
  have hpad := pad_any s.size (by omega)
  rw [hpbe] at hpad hpb ht
  have hof := of_any s (by omega)
  obtain ⟨d, hd⟩ : ∃ d, d = bs (ofL (L s)) := ⟨_, rfl⟩
  rw [← hd] at hof
  have hd32 : d.size = 32 := by rw [hd, bs_size, ofL_length]
  have HD : Hid (d = bs (ofL (L s))) := hd
  have hm0 : (t.size : Int) % 64 = 0 := by omega
  have hm1 : decide ((t.size : Int) < (s.size : Int) + 9) = false := decide_eq_false (by omega)
  have hm2 : decide ((t.size : Int) > (s.size : Int) + 72) = false := decide_eq_false (by omega)
  have HTM : Hid (t.size = 64 * M) := htM
  have HM8 : Hid (M ≤ 8) := by show M ≤ 8; omega
  have hpb72 : pb.size ≤ 72 := by omega
  have HOF : Hid (∀ w : World, Tab w → Calls Tryd.prog 8 #[.string s] w fun e w' => e = .returned (.string d) ∧ Kept w w') := hof
  clear hpbe htL hts hM hS9 hS72 hSm htM hpb hd hof
  go_enter Tryd.func4, Tryd.ntmps4
  go_wp2_with fail
  have R0 : Row (w.alloc (.cells #[.int .u32 1779033703, .int .u32 3144134277, .int .u32 1013904242, .int .u32 2773480762, .int .u32 1359893119, .int .u32 2600822924, .int .u32 528734635, .int .u32 1541459225] 23)) w.heap.size (cw firstN.list) 23 := Row.new w _ 23
  have K0 : Kept w (w.alloc (.cells #[.int .u32 1779033703, .int .u32 3144134277, .int .u32 1013904242, .int .u32 2773480762, .int .u32 1359893119, .int .u32 2600822924, .int .u32 528734635, .int .u32 1541459225] 23)) := (Kept.refl w).allocR _
  generalize w.alloc (.cells #[.int .u32 1779033703, .int .u32 3144134277, .int .u32 1013904242, .int .u32 2773480762, .int .u32 1359893119, .int .u32 2600822924, .int .u32 528734635, .int .u32 1541459225] 23) = W0 at R0 K0 ⊢
  refine (hpad _).mono ?_
  rintro _ w1 ⟨rfl, k1⟩
  replace R0 := R0.kept k1
  replace K0 := K0.trans k1
  clear hpad k1 W0
  go_wp2_with fail
  clear hm0 hm1 hm2 ht hpb72
  go_loopw [5] (fun i wr => ∃ k q : Nat, k ≤ M ∧ 64 * k = q ∧ i = .int .i64 (q : Int) ∧ Row wr w.heap.size (cw (stepsK roundsN firstN (L t) k).list) 23 ∧ Kept w wr) (fun i _ => t.size - (intOf i).toNat)
  case atStart => exact ⟨0, 0, by omega, rfl, rfl, R0, K0⟩
  case round =>
    clear R0 K0
    obtain ⟨k, q, hk, hq, rfl, R0, K0⟩ := hrel
    obtain ⟨v, hv⟩ : ∃ v, stepsK roundsN firstN (L t) k = v := ⟨_, rfl⟩
    rw [hv] at R0
    have hM8 := HM8.out
    by_cases hlt : k < M
    · have hqt : q + 64 ≤ t.size := by have := HTM.out; omega
      have hq500 : q ≤ 512 := by omega
      have hdq : decide ((q : Int) < (t.size : Int)) = true := decide_eq_true (by omega)
      have HV : Hid (stepsK roundsN firstN (L t) (k + 1) = blockN v (nats (((L t).drop q).take 64))) := by
        show stepsK roundsN firstN (L t) (k + 1) = _
        rw [stepsK, hv, hq]
        rfl
      have hdl : ((L t).drop q).length = t.size - q := by rw [List.length_drop, L_size]
      clear hv
      go_upto_region 11 with fail
      obtain ⟨Z, hZ⟩ : ∃ Z : Array Value, Z = #[.int .u8 0, .int .u8 0, .int .u8 0, .int .u8 0, .int .u8 0, .int .u8 0, .int .u8 0, .int .u8 0, .int .u8 0, .int .u8 0, .int .u8 0, .int .u8 0, .int .u8 0, .int .u8 0, .int .u8 0, .int .u8 0, .int .u8 0, .int .u8 0, .int .u8 0, .int .u8 0, .int .u8 0, .int .u8 0, .int .u8 0, .int .u8 0, .int .u8 0, .int .u8 0, .int .u8 0, .int .u8 0, .int .u8 0, .int .u8 0, .int .u8 0, .int .u8 0, .int .u8 0, .int .u8 0, .int .u8 0, .int .u8 0, .int .u8 0, .int .u8 0, .int .u8 0, .int .u8 0, .int .u8 0, .int .u8 0, .int .u8 0, .int .u8 0, .int .u8 0, .int .u8 0, .int .u8 0, .int .u8 0, .int .u8 0, .int .u8 0, .int .u8 0, .int .u8 0, .int .u8 0, .int .u8 0, .int .u8 0, .int .u8 0, .int .u8 0, .int .u8 0, .int .u8 0, .int .u8 0, .int .u8 0, .int .u8 0, .int .u8 0, .int .u8 0] := ⟨_, rfl⟩
      rw [← hZ]
      have hZ2 : Z = cb (pad64 (nats (((L t).drop q).take 0))) := by rw [hZ]; rfl
      have R1 : Row (wr.alloc (.cells Z 24)) wr.heap.size (cb (pad64 (nats (((L t).drop q).take 0)))) 24 := hZ2 ▸ Row.new wr Z 24
      have hG : w.heap.size < wr.heap.size := R0.lt
      replace R0 := R0.alloc (.cells Z 24)
      replace K0 := K0.allocR (.cells Z 24)
      generalize wr.alloc (.cells Z 24) = W1 at R0 R1 K0 ⊢
      generalize wr.heap.size = G at R1 hG ⊢
      clear hZ hZ2
      go_wp2_with fail
      go_loopw [7] (fun i wr => ∃ j : Nat, j ≤ 64 ∧ i = .int .i64 (j : Int) ∧ Row wr w.heap.size (cw v.list) 23 ∧ Row wr G (cb (pad64 (nats (((L t).drop q).take j)))) 24 ∧ Kept w wr) (fun i _ => (64 - intOf i).toNat)
      case atStart => exact ⟨0, by omega, rfl, R0, R1, K0⟩
      case round =>
        clear R0 R1 K0 W1
        obtain ⟨j, hj, rfl, R0, R1, K0⟩ := hrel
        by_cases hlt2 : j < 64
        · obtain ⟨r, hr⟩ : ∃ r, q + j = r := ⟨_, rfl⟩
          have hrt : r < t.size := by omega
          have hrI : (q : Int) + (j : Int) = (r : Int) := by omega
          have hbo := block_of t q j (by omega)
          have HN : Hid (nats (((L t).drop q).take (j + 1)) = nats (((L t).drop q).take j) ++ [t[r].toNat]) := by
            show _ = _
            have h2 := nats_step ((L t).drop q) j _ hbo
            rw [h2]
            congr 2
            subst hr
            rfl
          have hnl : (nats (((L t).drop q).take j)).length = j := by rw [nats_length, List.length_take]; omega
          have hlen := pad64_length (nats (((L t).drop q).take j)) (by omega)
          obtain ⟨o, ho⟩ : ∃ o, wr.cell? ⟨G, j, none⟩ = some o := ⟨_, (R1.cell j).trans (cb_get _ _ (by omega))⟩
          have hf : wr.frozen? ⟨G, j, none⟩ = false := R1.frozen j
          have HNL : Hid ((nats (((L t).drop q).take j)).length = j) := hnl
          clear hbo hlen hr hnl hdl
          go_wp2_with fail
          go_roundw
          case rel =>
            refine ⟨j + 1, by omega, by simp, R0.setCellOther (by simp; omega) _, ?_, K0.setCell (by simp; omega) _⟩
            rw [HN.out]
            exact cb_push R1 HNL.out hlt2 _
          case measure => simp [intOf]; omega
        · obtain rfl : j = 64 := by omega
          obtain ⟨bl, hbl⟩ : ∃ bl, nats (((L t).drop q).take 64) = bl := ⟨_, rfl⟩
          have hbl64 : bl.length = 64 := by rw [← hbl, nats_length, List.length_take]; omega
          have hb256 : ∀ j, bl.getD j 0 < 256 := by rw [← hbl]; exact nats_lt _
          rw [hbl] at HV R1
          rw [pad64_full _ hbl64] at R1
          have hcall := block_any v bl hbl64 hb256 wr (hT.kept K0)
          clear hbl hb256 hdl
          go_upto_region 15 with fail
          go_wp2_with (first | refine wpList_load_row (by rfl) 23 _ (by rfl) w.heap.size (by rfl) 23 (cw v.list) (0, 0) _ R0 Tryd.underlying23 rfl (by rw [cw_size]; exact i23) ?_ | refine wpList_load_row (by rfl) 24 _ (by rfl) G (by rfl) 24 (cb bl) (0, 0) _ R1 Tryd.underlying24 rfl (by rw [cb_size, hbl64]; exact i24) ?_)
          refine hcall.mono ?_
          rintro _ w4 ⟨rfl, k4⟩
          clear hcall
          obtain ⟨r, hr⟩ : ∃ r, blockN v bl = r := ⟨_, rfl⟩
          rw [hr] at HV ⊢
          clear hr
          have V0 := R0.kept k4
          have hK4 := K0.trans k4
          clear R0 R1 k4 K0
          go_wp2_with (refine wpList_store_row (by rfl) 23 _ _ (by rfl) w.heap.size (cw r.list) (by rfl) (by rfl) 23 (cw v.list) V0 (by rw [cw_size]; exact i23) (by rw [cw_size, cw_size]; rfl) (cw_one _) ?_)
          go_roundw
          case rel =>
            refine ⟨k + 1, q + 64, by omega, by omega, by go_num, ?_, hK4.setRow (by omega) _⟩
            rw [HV.out]
            exact V0.set _
          case measure => simp [intOf]; omega
    · obtain rfl : k = M := by omega
      have hqt : t.size ≤ q := by have := HTM.out; omega
      have HO2 : Hid (ofL (L s) = bytesL v.list) := by show _ = _; rw [HO.out, hv]
      have HVB : Hid (∀ j, v.list.getD j 0 < 4294967296) := by show ∀ j, _; rw [← hv]; exact stepsK_bound _ _ first_bound _ _
      clear HO hv HTM
      go_wp2_with fail
      refine (HOF.out _ (hT.kept K0)).mono ?_
      rintro _ w5 ⟨rfl, k5⟩
      replace R0 := R0.kept k5
      replace K0 := K0.trans k5
      clear HOF k5 hqt hlt hk hq hM8 HM8
      go_wp2_with fail
      go_loopw [9] (fun i wr => ∃ k : Nat, k ≤ 32 ∧ i = .int .i64 (k : Int) ∧ Row wr w.heap.size (cw v.list) 23 ∧ Kept w wr) (fun i _ => (32 - intOf i).toNat)
      case atStart => exact ⟨0, by omega, rfl, R0, K0⟩
      case round =>
        clear R0 K0
        obtain ⟨k, hk, rfl, R0, K0⟩ := hrel
        by_cases hlt : k < 32
        · obtain ⟨m, hm⟩ : ∃ m, k / 4 = m := ⟨_, rfl⟩
          obtain ⟨j, hj⟩ : ∃ j, k % 4 = j := ⟨_, rfl⟩
          obtain ⟨x, hx⟩ : ∃ x, v.list.getD m 0 = x := ⟨_, rfl⟩
          have hxl := HVB.out m
          rw [hx] at hxl
          obtain ⟨y, hy⟩ : ∃ y, x / 2 ^ (24 - 8 * j) % 256 = y := ⟨_, rfl⟩
          have hkd : k < d.size := by omega
          have hat : d[k] = UInt8.ofNat y := by
            refine at_bytes HD.out hkd ?_
            rw [HO2.out, show k = 4 * m + j by omega, bytesL_at _ m j (by rw [list_length]; omega) (by omega), hx, hy]
          have hdy : d[k].toNat = y := by rw [hat, byte_of y (by omega)]
          have hc : wr.cell? ⟨w.heap.size, m, none⟩ = some (.int .u32 (x : Int)) := by rw [R0.cell, cw_get _ _ (by rw [list_length]; omega), hx]
          have hmI : (k : Int) / 4 = (m : Int) := by omega
          have hm8 : (m : Int) < 8 := by omega
          have hway : ((k : Int) % 4 = 0 ∧ (x : Int) / 16777216 = (y : Int)) ∨ ((k : Int) % 4 = 1 ∧ (x : Int) / 65536 % 256 = (y : Int)) ∨ ((k : Int) % 4 = 2 ∧ (x : Int) / 256 % 256 = (y : Int)) ∨ ((k : Int) % 4 = 3 ∧ (x : Int) % 256 = (y : Int)) := by
            have h4 : j = 0 ∨ j = 1 ∨ j = 2 ∨ j = 3 := by omega
            rcases h4 with rfl | rfl | rfl | rfl
            · exact .inl ⟨by omega, by simp at hy; omega⟩
            · exact .inr (.inl ⟨by omega, by simp at hy; omega⟩)
            · exact .inr (.inr (.inl ⟨by omega, by simp at hy; omega⟩))
            · exact .inr (.inr (.inr ⟨by omega, by simp at hy; omega⟩))
          clear hat hm hj hx hy
          rcases hway with ⟨q1, q2⟩ | ⟨q1, q2⟩ | ⟨q1, q2⟩ | ⟨q1, q2⟩
          all_goals
            go_wp2_with fail
            go_quiet (fail)
            go_wp2_with fail
            go_roundw
            case rel => exact ⟨k + 1, by omega, by simp, R0.drewN _, K0.drewNR _⟩
            case measure => simp [intOf]; omega
        · obtain rfl : k = 32 := by omega
          have hxc := hex_any d (by omega)
          obtain ⟨hd', hhd⟩ : ∃ x, x = bs (hexL (L d)) := ⟨_, rfl⟩
          rw [← hhd] at hxc
          have hhs : hd'.size = 64 := by rw [hhd, bs_size, hexL_length, L_size, hd32]
          clear hhd HVB HO2
          go_wp2_with fail
          refine (hxc _).mono ?_
          rintro _ w6 ⟨rfl, k6⟩
          go_wp2_with fail
          refine (wakes_any _ (hT.kept (K0.trans k6))).mono ?_
          rintro _ w7 ⟨rfl, k7⟩
          go_wp2_with fail
          go_ret
          exact ⟨rfl, K0.trans (k6.trans k7)⟩

theorem steps_walk (s : ByteArray) (w : World) (hT : Tab w) :
    Calls Tryd.prog 4 #[.string s] w fun e w' => e = .returned (.bool true) ∧ w.keptBut w' (fun _ => False) := by
  by_cases hs : s.size ≤ 400
  · exact steps_small s hs w hT
  · go_enter Tryd.func4, Tryd.ntmps4
    go_wp2_with fail
    refine (wakes_any _ hT).mono ?_
    rintro _ w2 ⟨rfl, k2⟩
    go_wp2_with fail
    go_ret
    exact ⟨rfl, k2⟩

end Go.Proofs.YtemhgehelblcoaaDoor
