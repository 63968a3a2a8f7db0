/-
  What the document's own Pack returns, for every text: the same as Pack, as a struct. What the document's own Unpack returns, for every text: the same as Unpack, as a struct. What the document's primes tells: the first n primes, in a row of memory of the call's own.
-/
import Derived.Test.YtecamiefpdkjoaaDoorGag
import Derived.Test.YtecamiefpdkjoaaDoorGae
namespace Go.Proofs.YtecamiefpdkjoaaDoor
open Go.RowKit
set_option maxRecDepth 20000

theorem joinL_last (l : List UInt8) (m : Nat) (a : UInt8) (ha : l[2 * m]? = some a) (hl : l.length = 2 * m + 1) : joinL (l.take (2 * (m + 1))) = joinL (l.take (2 * m)) ++ [two a 0] := by
  have : l.take (2 * (m + 1)) = l.take (2 * m) ++ [a] := by
    rw [List.take_of_length_le (by omega)]
    have := List.take_add_one (l := l) (i := 2 * m)
    rw [ha, List.take_of_length_le (by omega)] at this
    exact this
  rw [this, joinL_append _ _ (by rw [List.length_take]; omega)]
  rfl

set_option maxHeartbeats 400000 in
theorem refPack_no (s : ByteArray) (hs : s.size ≤ 4000) (h : goodB (L s) = false) (w : World) :
    Calls Tryd.prog 31 #[.string s] w fun e w' => e = .returned (.agg #[.string (bs []), .bool false]) ∧ Below w.heap.size w w' := by
  have HG : Hid (goodB (L s) = false) := h
  clear h
  go_enter Tryd.func31, Tryd.ntmps31
  go_wp2_with fail
  refine (refGood_any s hs _).mono ?_
  rintro e w1 ⟨rfl, rfl⟩
  rw [HG.out]
  go_wp2_with fail
  exact bodyPost_ret (v := .agg #[.string (bs []), .bool false]) (by simp [results, Tryd.results31, go_sem]; rfl) rfl ⟨rfl, (Below.refl _ _).alloc (Nat.le_refl _) _⟩

/-- The row that is laid together: the number, and the bytes so far. -/
def rowL (l : List UInt8) (m : Nat) : List Value := cellsL (UInt8.ofNat l.length :: joinL (l.take (2 * m)))
theorem rowL_length (l : List UInt8) : (UInt8.ofNat l.length :: joinL (l.take (2 * ((l.length + 1) / 2)))) = packL l := by
  unfold packL
  rw [List.take_of_length_le (by omega)]

set_option maxHeartbeats 1000000 in
theorem refPack_yes (s : ByteArray) (h : goodB (L s) = true) (w : World) :
    Calls Tryd.prog 31 #[.string s] w fun e w' => e = .returned (.agg #[.string (bs (packL (L s))), .bool true]) ∧ Below w.heap.size w w' := by
  obtain ⟨i0, hi0, hz0, hz1, hz2⟩ := info_parts info5
  have HG : Hid (goodB (L s) = true) := h
  obtain ⟨h16, hh⟩ := goodB_parts h
  rw [L_size] at h16
  have HH : Hid (halvesB (L s) = true) := hh
  have hw8 : IntKind.u8.wrap (s.size : Int) = (s.size : Int) := by rw [IntKind.wrap_u8]; omega
  clear h hh
  go_enter Tryd.func31, Tryd.ntmps31
  go_wp2_with fail
  refine (refGood_any s (by omega) _).mono ?_
  rintro e w1 ⟨rfl, rfl⟩
  rw [HG.out]
  go_wp2_with fail
  go_loopw [3, 4] (fun v i wr => ∃ k m : Nat, k = 2 * m ∧ m ≤ (s.size + 1) / 2 ∧ i = .int .i64 k ∧
      wr.ownsRow (w.heap.size + 1) 5 1 v (m + 1) (rowL (L s) m) ∧ Below (w.heap.size + 1) (w.alloc (.cells #[.string ⟨#[]⟩, .bool false] 58)) wr) (fun _ i _ => s.size + 1 - (intOf i).toNat)
  case atStart =>
    refine ⟨0, 0, rfl, by omega, rfl, ?_, (Below.refl _ _).alloc (by simp) _⟩
    have := World.ownsRow_lit (base := w.heap.size + 1) (e := 5) (size := 1) (w.alloc (.cells #[.string ⟨#[]⟩, .bool false] 58)) #[.int .u8 (s.size : Int)] 1 (by simp) (by decide) rfl
    have e : rowL (L s) 0 = [.int .u8 (s.size : Int)] := by
      show [Value.int .u8 ((UInt8.ofNat (L s).length).toNat : Int)] = _
      rw [L_size, byte_of _ (by omega)]
    rw [e]
    simpa using this
  case round =>
    obtain ⟨k, m, hkm, hm, rfl, hown, hb⟩ := hrel
    have HM : Hid (k = 2 * m) := hkm
    obtain ⟨c0, c1, f0, f1, hbw, hB⟩ := boxed hb
    by_cases hlt : k < s.size
    · have hc : Hid ((L s)[k]? = some s[k]) := L_get s k hlt
      have hx16 : s[k].toNat < 16 := halvesB_get HH.out hc.out
      by_cases hlt2 : k + 1 < s.size
      · have hd1 : decide ((k : Int) + 1 < (s.size : Int)) = true := decide_eq_true (by omega)
        obtain ⟨q, hq⟩ : ∃ q, k + 1 = q := ⟨_, rfl⟩
        have hq1 : (k : Int) + 1 = (q : Int) := by omega
        have hqs : q < s.size := by omega
        have hd2 : Hid ((L s)[q]? = some s[q]) := L_get s q hqs
        have hy16 : s[q].toNat < 16 := halvesB_get HH.out hd2.out
        obtain ⟨t, ht2⟩ : ∃ t, (two s[k] s[q]).toNat = t := ⟨_, rfl⟩
        have hmul : IntKind.u8.wrap ((s[k].toNat : Int) * 16) = (s[k].toNat : Int) * 16 := by rw [IntKind.wrap_u8]; omega
        have hadd : IntKind.u8.wrap ((s[k].toNat : Int) * 16 + (s[q].toNat : Int)) = (t : Int) := by rw [IntKind.wrap_u8, ← ht2, two_nat]; omega
        have hadd2 : (s[k].toNat : Int) * 16 + (s[q].toNat : Int) = (t : Int) := by rw [← ht2, two_nat]; omega
        have HS : Hid (rowL (L s) m ++ [.int .u8 (t : Int)] = rowL (L s) (m + 1)) := by
          show _ = _
          unfold rowL
          rw [joinL_step (L s) m s[k] s[q] (by rw [← hkm]; exact hc.out) (by rw [← hkm, hq]; exact hd2.out), ← List.cons_append, cellsL_append, ← ht2]
          rfl
        clear ht2 hkm hq
        go_wp2_with (at_builtin; refine wpList_append_lies _ rfl _ _ 56 rfl (w.heap.size + 1) 5 i0 (.int .u8 0) 1 1 Tryd.underlying56 hi0 hz0 hz1 hz2 rfl (by decide) _ _ _ rfl (hown.alloc _) ⟨wr.heap.size, 0, none⟩ 1 1 [.int .u8 (t : Int)] rfl rfl (World.news_of_block (cs := #[.int .u8 (t : Int)]) (t := 5) (fr := (0, 0)) (heap_alloc_new wr _)) (by simp [Value.oneCell']) (by decide) (by unfold maxLen; omega) (by omega) (by simp; omega) (wr.heap.size + 1) (by simp) ?_)
        intro gg cap w2 hown1 hgrow _ _
        rw [HS.out] at hown1
        go_wp2_with fail
        exact ⟨⟨k + 2, m + 1, by have := HM.out; omega, by have := HM.out; omega, by go_num, hown1, (hb.alloc hB _).grown hgrow (by simp; omega) fun j hj => (hown.lt j hj).1⟩, by simp [intOf]; omega⟩
      · have hd1 : decide ((k : Int) + 1 < (s.size : Int)) = false := decide_eq_false (by omega)
        obtain ⟨t, ht2⟩ : ∃ t, (two s[k] 0).toNat = t := ⟨_, rfl⟩
        have hmul : IntKind.u8.wrap ((s[k].toNat : Int) * 16) = (t : Int) := by rw [IntKind.wrap_u8, ← ht2, two_zero]; omega
        have hmul2 : (s[k].toNat : Int) * 16 = (t : Int) := by rw [← ht2, two_zero]; omega
        have HS : Hid (rowL (L s) m ++ [.int .u8 (t : Int)] = rowL (L s) (m + 1)) := by
          show _ = _
          unfold rowL
          rw [joinL_last (L s) m s[k] (by rw [← hkm]; exact hc.out) (by rw [L_size]; omega), ← List.cons_append, cellsL_append, ← ht2]
          rfl
        clear ht2 hkm
        go_wp2_with (at_builtin; refine wpList_append_lies _ rfl _ _ 56 rfl (w.heap.size + 1) 5 i0 (.int .u8 0) 1 1 Tryd.underlying56 hi0 hz0 hz1 hz2 rfl (by decide) _ _ _ rfl (hown.alloc _) ⟨wr.heap.size, 0, none⟩ 1 1 [.int .u8 (t : Int)] rfl rfl (World.news_of_block (cs := #[.int .u8 (t : Int)]) (t := 5) (fr := (0, 0)) (heap_alloc_new wr _)) (by simp [Value.oneCell']) (by decide) (by unfold maxLen; omega) (by omega) (by simp; omega) (wr.heap.size + 1) (by simp) ?_)
        intro gg cap w2 hown1 hgrow _ _
        rw [HS.out] at hown1
        go_wp2_with fail
        exact ⟨⟨k + 2, m + 1, by have := HM.out; omega, by have := HM.out; omega, by go_num, hown1, (hb.alloc hB _).grown hgrow (by simp; omega) fun j hj => (hown.lt j hj).1⟩, by simp [intOf]; omega⟩
    · have hme : m = ((L s).length + 1) / 2 := by rw [L_size]; omega
      have hown2 : wr.ownsRow (w.heap.size + 1) 5 1 u3 (m + 1) (cellsL (packL (L s))) := by rw [← rowL_length, ← hme]; exact hown
      have hcv := conv_own (by rw [pack_length, ← hme]; omega) hown2
      clear hown2 hme
      clear hown
      go_wp2_with fail
      exact bodyPost_ret (v := .agg #[.string (bs (packL (L s))), .bool true]) (by simp [results, Tryd.results31, go_sem, c0, c1]) rfl ⟨rfl, (hbw.setCell (by simp) _).setCell (by simp) _⟩

theorem refPack_any (s : ByteArray) (hs : s.size ≤ 4000) (w : World) :
    Calls Tryd.prog 31 #[.string s] w fun e w' => e = .returned (.agg #[.string (if goodB (L s) then bs (packL (L s)) else bs []), .bool (goodB (L s))]) ∧ Below w.heap.size w w' := by
  cases h : goodB (L s)
  · exact refPack_no s hs h w
  · exact refPack_yes s h w

end Go.Proofs.YtecamiefpdkjoaaDoor
namespace Go.Proofs.YtecamiefpdkjoaaDoor
open Go.RowKit
set_option maxRecDepth 20000

theorem Kept.setCell {W w' : World} (h : Kept W w') {a : Addr} (ha : W.heap.size ≤ a.block) (v : Value) : Kept W (w'.setCell a v) := Below.setCell h ha v
theorem Kept.frozen {w w' : World} (h : Kept w w') {b o : Nat} (hb : b < w.heap.size) : w'.frozen? ⟨b, o, none⟩ = w.frozen? ⟨b, o, none⟩ := Below.frozen (p := ⟨b, o, none⟩) h hb
theorem field_text (q : ByteArray) (b : Bool) (w : World) : (Instr.field 58 (.agg #[.string q, .bool b]) 0).run Tryd.prog w = .ok (.string q) w := by
  kernel_rfl

theorem head_good (c : UInt8) (r : List UInt8) (h : headB c r = true) : goodB (unN (c :: r)) = true := by
  unfold headB at h
  rw [Bool.and_eq_true, decide_eq_true_eq, decide_eq_true_eq] at h
  have hlen : (unN (c :: r)).length = c.toNat := by
    show ((ofL (r.take ((c.toNat + 1) / 2))).take c.toNat).length = _
    rw [List.length_take, ofL_length, List.length_take]; omega
  unfold goodB
  rw [hlen, decide_eq_true h.1, Bool.true_and]
  exact halvesB_take (halvesB_of _) _
/-- A text begins with the Pack of what it unpacks to just if it unpacks. -/
theorem pack_test (l : List UInt8) (hg : goodB (unN l) = true) : (packL (unN l) == l.take (unUsed l)) = unpackB l := by
  cases h : unpackB l
  · rw [beq_eq_false_iff_ne]
    intro e
    have := (unpack_pack (unN l) (l.drop (unUsed l)) hg).1
    rw [e, List.take_append_drop, h] at this
    cases this
  · rw [beq_iff_eq]; exact (pack_unpack l h).2.1

set_option maxHeartbeats 400000 in
theorem refUnpack_empty (s : ByteArray) (h : L s = []) (w : World) :
    Calls Tryd.prog 25 #[.string s] w fun e w' => e = .returned (.agg #[.string (bs []), .int .i64 0, .bool false]) ∧ Kept w w' := by
  have hz : s.size = 0 := by rw [← L_size, h]; rfl
  have hd : decide ((s.size : Int) < 1) = true := decide_eq_true (by omega)
  clear h
  go_enter Tryd.func25, Tryd.ntmps25
  go_wp2_with fail
  exact bodyPost_ret (v := .agg #[.string (bs []), .int .i64 0, .bool false]) (by simp [results, Tryd.results25, go_sem]; rfl) rfl ⟨rfl, (Kept.refl _).allocR _⟩

set_option maxHeartbeats 1000000 in
theorem refUnpack_head (s : ByteArray) (c : UInt8) (r : List UInt8) (h : L s = c :: r) (hh : headB c r = false) (w : World) :
    Calls Tryd.prog 25 #[.string s] w fun e w' => e = .returned (.agg #[.string (bs []), .int .i64 0, .bool false]) ∧ Kept w w' := by
  obtain ⟨hlen, hne, h0, hc⟩ := head_parts s c r h
  unfold headB at hh
  clear h hne
  have hcl := c.toNat_lt
  obtain ⟨n, hn⟩ : ∃ n, c.toNat = n := ⟨_, rfl⟩
  obtain ⟨J, hJ⟩ : ∃ J, (n + 1) / 2 = J := ⟨_, rfl⟩
  rw [hn, hJ] at hh
  rw [hn] at hcl
  have hd0 : decide ((s.size : Int) < 1) = false := decide_eq_false (by omega)
  by_cases h16 : n ≤ 16
  · have hJr : ¬ J ≤ r.length := by
      intro h
      rw [decide_eq_true h16, decide_eq_true h] at hh
      cases hh
    have hJ8 : J ≤ 8 := by omega
    have hJi : ((n : Int) + 1) / 2 = (J : Int) := by omega
    have hd1 : decide ((16 : Int) < (n : Int)) = false := decide_eq_false (by omega)
    have hd2 : decide ((s.size : Int) < 1 + (J : Int)) = true := decide_eq_true (by omega)
    clear hh hlen hJr hJ
    go_enter Tryd.func25, Tryd.ntmps25
    go_wp2_with fail
    exact bodyPost_ret (v := .agg #[.string (bs []), .int .i64 0, .bool false]) (by simp [results, Tryd.results25, go_sem]; rfl) rfl ⟨rfl, (Kept.refl _).allocR _⟩
  · have hd1 : decide ((16 : Int) < (n : Int)) = true := decide_eq_true (by omega)
    clear hh hlen
    go_enter Tryd.func25, Tryd.ntmps25
    go_wp2_with fail
    exact bodyPost_ret (v := .agg #[.string (bs []), .int .i64 0, .bool false]) (by simp [results, Tryd.results25, go_sem]; rfl) rfl ⟨rfl, (Kept.refl _).allocR _⟩

set_option maxHeartbeats 1000000 in
theorem refUnpack_rest (s : ByteArray) (hs : s.size ≤ 4000) (c : UInt8) (r : List UInt8) (h : L s = c :: r) (hh : headB c r = true) (ok : Bool) (hok : unpackB (c :: r) = ok) (w : World) :
    Calls Tryd.prog 25 #[.string s] w fun e w' => e = .returned (.agg #[.string (if ok then bs (unN (c :: r)) else bs []), .int .i64 (if ok then (unUsed (c :: r) : Nat) else 0), .bool ok]) ∧ Kept w w' := by
  have HP := fun w => refPack_yes (bs (unN (c :: r))) (by rw [L_bs]; exact head_good c r hh) w
  rw [L_bs] at HP
  obtain ⟨hlen, hne, h0, hc⟩ := head_parts s c r h
  have htest : ((bs (packL (unN (c :: r)))).toList == (s.extract 0 (unUsed (c :: r))).toList) = ok := by
    rw [toList_L, toList_L, L_extract, L_bs, h, List.drop_zero, pack_test _ (head_good c r hh), hok]
  unfold headB at hh
  have H : Hid (L s = c :: r) := h
  clear h hne
  have hcl := c.toNat_lt
  obtain ⟨n, hn⟩ : ∃ n, c.toNat = n := ⟨_, rfl⟩
  obtain ⟨J, hJ⟩ : ∃ J, (n + 1) / 2 = J := ⟨_, rfl⟩
  have hU : unUsed (c :: r) = 1 + J := by show 1 + (c.toNat + 1) / 2 = _; rw [hn, hJ]
  have hN : bs (unN (c :: r)) = (bs (ofL (r.take J))).extract 0 n := by
    refine eq_of_L ?_
    rw [L_extract, L_bs, L_bs, List.drop_zero]
    show (ofL (r.take ((c.toNat + 1) / 2))).take c.toNat = _
    rw [hn, hJ]
  rw [hU] at htest
  rw [hn, hJ] at hh
  rw [hn] at hcl
  rw [Bool.and_eq_true, decide_eq_true_eq, decide_eq_true_eq] at hh
  obtain ⟨h16, hJr⟩ := hh
  have hJs : 1 + J ≤ s.size := by omega
  have hJ8 : J ≤ 8 := by omega
  have hJi : ((n : Int) + 1) / 2 = (J : Int) := by omega
  have hd0 : decide ((s.size : Int) < 1) = false := decide_eq_false (by omega)
  have hd1 : decide ((16 : Int) < (n : Int)) = false := decide_eq_false (by omega)
  have hd2 : decide ((s.size : Int) < 1 + (J : Int)) = false := decide_eq_false (by omega)
  have HX : Hid (L (s.extract 1 (1 + J)) = r.take J) := by
    show _ = _
    rw [L_extract, H.out, Nat.add_comm, List.take_succ_cons]; rfl
  have hA : (bs (ofL (r.take J))).size = 2 * J := by rw [bs_size, ofL_length, List.length_take]; omega
  have hNs : n ≤ (bs (ofL (r.take J))).size := by rw [hA]; omega
  rw [hU, hN]
  rw [hN] at HP
  generalize bs (packL (unN (c :: r))) = q at *
  have HPH : Hid (∀ w, _) := HP
  clear hlen hJ HP hN hU hok
  go_enter Tryd.func25, Tryd.ntmps25
  go_wp2_with fail
  refine (refOf_any _ (by rw [← L_size, L_extract, List.length_drop, List.length_take, L_size]; omega) _).mono ?_
  rintro e w2 ⟨rfl, g⟩
  rw [HX.out]
  generalize hEq : bs (ofL (r.take J)) = a at *
  go_wp2_with fail
  have hbx := g.size
  have hbs : w.heap.size + 1 ≤ w2.heap.size := by simpa using hbx
  obtain ⟨W, hW⟩ : ∃ W, w2.alloc (.cells #[.string (a.extract 0 n), .int .i64 (1 + (J : Int)), .bool true] 52) = W := ⟨_, rfl⟩
  have b0 : W.cell? ⟨w2.heap.size, 0, none⟩ = some (.string (a.extract 0 n)) := by rw [← hW]; simp
  have b1 : W.cell? ⟨w2.heap.size, 1, none⟩ = some (.int .i64 (1 + (J : Int))) := by rw [← hW]; simp
  have b2 : W.cell? ⟨w2.heap.size, 2, none⟩ = some (.bool true) := by rw [← hW]; simp
  have hWs : W.heap.size = w2.heap.size + 1 := by rw [← hW]; simp
  have old : ∀ o, W.cell? ⟨w.heap.size, o, none⟩ = (w.alloc (.cells #[.string ⟨#[]⟩, .int .i64 0, .bool false] 52)).cell? ⟨w.heap.size, o, none⟩ := fun o => by
    rw [← hW, Kept.cell ((Kept.refl w2).allocR _) (by omega), g.cell (p := ⟨w.heap.size, o, none⟩) (by simp)]
  have r0 : W.cell? ⟨w.heap.size, 0, none⟩ = some (.string ⟨#[]⟩) := by rw [old]; simp
  have r1 : W.cell? ⟨w.heap.size, 1, none⟩ = some (.int .i64 0) := by rw [old]; simp
  have r2 : W.cell? ⟨w.heap.size, 2, none⟩ = some (.bool false) := by rw [old]; simp
  have rf : ∀ o, W.frozen? ⟨w.heap.size, o, none⟩ = false := fun o => by
    rw [← hW, Kept.frozen ((Kept.refl w2).allocR _) (by omega), g.frozen (p := ⟨w.heap.size, o, none⟩) (by simp)]; simp
  have kW : Kept w W := by rw [← hW]; exact (((Kept.refl w).allocR _).trans (Kept.below g)).allocR _
  rw [hW]
  clear old hW g hbx
  generalize w2.heap.size = B at *
  have hld : ∀ p : KeptW W, p.v.cell? ⟨B, 0, none⟩ = some (.string (a.extract 0 n)) := fun p => by rw [Kept.cell p.h (by omega), b0]
  have hne : Nonempty (KeptW W) := ⟨⟨W, Kept.refl W⟩⟩
  have hfd := field_text q true
  refine region_kept W (Kept.refl W) (by kernel_rfl) (by kernel_rfl) ?_
  repeat (go_big_quiet_step (first | (go_at_call 31; exact Calls.keptw ((HPH.out _).mono fun _ _ ⟨he, hk⟩ => ⟨he, Kept.below hk⟩))))
  refine wpQuiet_nil ?_
  intro w5 hw5
  have hk5 : Kept W w5 := by obtain ⟨p, rfl⟩ := hw5; exact p.h
  clear hw5
  have s0 : w5.cell? ⟨B, 0, none⟩ = some (.string (a.extract 0 n)) := by rw [Kept.cell hk5 (by omega), b0]
  have s1 : w5.cell? ⟨B, 1, none⟩ = some (.int .i64 (1 + (J : Int))) := by rw [Kept.cell hk5 (by omega), b1]
  have s2 : w5.cell? ⟨B, 2, none⟩ = some (.bool true) := by rw [Kept.cell hk5 (by omega), b2]
  have t0 : w5.cell? ⟨w.heap.size, 0, none⟩ = some (.string ⟨#[]⟩) := by rw [Kept.cell hk5 (by omega), r0]
  have t1 : w5.cell? ⟨w.heap.size, 1, none⟩ = some (.int .i64 0) := by rw [Kept.cell hk5 (by omega), r1]
  have t2 : w5.cell? ⟨w.heap.size, 2, none⟩ = some (.bool false) := by rw [Kept.cell hk5 (by omega), r2]
  have tf0 : w5.frozen? ⟨w.heap.size, 0, none⟩ = false := by rw [Kept.frozen hk5 (by omega), rf]
  have tf1 : w5.frozen? ⟨w.heap.size, 1, none⟩ = false := by rw [Kept.frozen hk5 (by omega), rf]
  have tf2 : w5.frozen? ⟨w.heap.size, 2, none⟩ = false := by rw [Kept.frozen hk5 (by omega), rf]
  have hk : Kept w w5 := kW.trans hk5
  clear b0 b1 b2 r0 r1 r2 rf hld kW hk5 HPH hfd
  cases ok
  · go_wp2_with fail
    exact bodyPost_ret (v := .agg #[.string (bs []), .int .i64 0, .bool false]) (by simp [results, Tryd.results25, go_sem, t0, t1, t2]; rfl) rfl ⟨rfl, ((hk.setCell (by simp) _).setCell (by simp) _).setCell (by simp) _⟩
  · go_wp2_with fail
    exact bodyPost_ret (v := .agg #[.string (a.extract 0 n), .int .i64 (1 + (J : Int)), .bool true]) (by simp [results, Tryd.results25, go_sem, t0, t1, t2]) rfl ⟨by simp, ((hk.setCell (by simp) _).setCell (by simp) _).setCell (by simp) _⟩

theorem refUnpack_any (s : ByteArray) (hs : s.size ≤ 4000) (w : World) :
    Calls Tryd.prog 25 #[.string s] w fun e w' => e = .returned (.agg #[.string (if unpackB (L s) then bs (unN (L s)) else bs []), .int .i64 (if unpackB (L s) then (unUsed (L s) : Nat) else 0), .bool (unpackB (L s))]) ∧ Kept w w' := by
  cases hl : L s with
  | nil => exact refUnpack_empty s hl w
  | cons c r =>
    cases hh : headB c r with
    | false =>
      have e : unpackB (c :: r) = false := by show (headB c r && lastB c r) = false; rw [hh]; rfl
      rw [e]
      exact refUnpack_head s c r hl hh w
    | true => exact refUnpack_rest s hs c r hl hh _ rfl w

end Go.Proofs.YtecamiefpdkjoaaDoor
namespace Go.Proofs.YtecamiefpdkjoaaDoor.Dg
open Go.RowKit
set_option maxRecDepth 20000

theorem info34 : (Tryd.prog.info? 79).map (fun i => (i.zero, i.size, i.bytes)) = some (some (.int .u64 0), 1, 8) := by kernel_rfl
def c64 (l : List Nat) : List Value := l.map fun (x : Nat) => Value.int .u64 (x : Int)
theorem c64_append (l m : List Nat) : c64 (l ++ m) = c64 l ++ c64 m := by unfold c64; rw [List.map_append]
theorem c64_get {l : List Nat} {j x : Nat} (h : l[j]? = some x) : (c64 l)[j]? = some (.int .u64 (x : Int)) := by
  unfold c64; rw [List.getElem?_map, h]; rfl
theorem isB_step (l : List Nat) (v j x : Nat) (h : l[j]? = some x) : isB (l.take (j + 1)) v = (isB (l.take j) v && (v % x != 0)) := by
  unfold isB
  rw [List.take_add_one, h, List.all_append]
  simp
theorem isB_take (l : List Nat) (v j : Nat) (h : isB (l.take j) v = false) : isB l v = false := by
  unfold isB at *
  rw [← List.take_append_drop j l, List.all_append, h]
  rfl

theorem addr_zero (g j : Nat) : (Addr.add ⟨g, 0, none⟩ j) = ⟨g, j, none⟩ := by simp [Addr.add]; intro h; exact h.symm
theorem mod_bne (v x : Nat) : ((v : Int) % (x : Int) != 0) = (v % x != 0) := by
  rw [← Int.natCast_emod, Bool.eq_iff_iff, bne_iff_ne, bne_iff_ne]
  omega

set_option maxHeartbeats 2000000 in
theorem primes_any (n K : Nat) (hK : (prN K).length = n) (hlow : ∀ k, k < K → (prN k).length < n) (hn : n ≤ 64) (hK2 : K ≤ 1000) (w : World) :
    Calls Tryd.prog 67 #[.int .i64 (n : Int)] w fun e w' => ∃ v, e = .returned v ∧ w'.ownsRow w.heap.size 79 1 v n (c64 (prN K)) ∧ Below w.heap.size w w' := by
  obtain ⟨i0, hi0, hz0, hz1, hz2⟩ := info_parts info34
  go_enter Tryd.func67, Tryd.ntmps67
  go_wp2_with fail
  go_loopw [3, 4] (fun u v wr => ∃ k m : Nat, k ≤ K ∧ (prN k).length = m ∧ v = .int .u64 ((k + 2 : Nat) : Int) ∧ wr.ownsRow w.heap.size 79 1 u m (c64 (prN k)) ∧ Below w.heap.size w wr) (fun _ v _ => (K + 2) - (intOf v).toNat)
  case atStart => exact ⟨0, 0, by omega, rfl, rfl, World.ownsRow_nil _ _ _ _, Below.refl _ _⟩
  case round =>
    obtain ⟨k, m, hk, hm, rfl, hown, hb⟩ := hrel
    have hB := hb.size
    obtain ⟨v, hv⟩ : ∃ v, k + 2 = v := ⟨_, rfl⟩
    rw [hv]
    by_cases hlt : k < K
    · have hmn := hlow k hlt
      rw [hm] at hmn
      have HS : Hid (prN (k + 1) = if isB (prN k) v then prN k ++ [v] else prN k) := by show prN (k + 1) = _; rw [prN, hv]
      have HP : Hid (∀ p ∈ prN k, 2 ≤ p) := fun p hp => (prN_pos k p hp).1
      obtain ⟨l, hl⟩ : ∃ l, prN k = l := ⟨_, rfl⟩
      rw [hl] at hm HS HP hown
      have hvv : v ≤ 1002 := by omega
      rcases id hown.2 with ⟨rfl, h0⟩ | ⟨g, cap, cur, rfl, _⟩
      · obtain rfl : m = 0 := h0
        have hl0 : l = [] := List.length_eq_zero_iff.1 hm
        have HT : Hid (isB l v = true) := by rw [hl0]; rfl
        clear hlow hl hl0 HP
        go_wp2_with fail
        refine wp_loop_rounds 1 ?_
        rw [rounds_succ]
        go_wp2_with (at_builtin; refine wpList_append_lies _ rfl _ _ 92 rfl w.heap.size 79 i0 (.int .u64 0) 1 8 Tryd.underlying92 hi0 hz0 hz1 hz2 rfl (by decide) _ _ _ rfl (hown.alloc _) ⟨wr.heap.size, 0, none⟩ 1 1 [.int .u64 (v : Int)] rfl rfl (World.news_of_block (cs := #[.int .u64 (v : Int)]) (t := 79) (fr := (0, 0)) (heap_alloc_new wr _)) (by simp [Value.oneCell']) (by decide) (by unfold maxLen; omega) (by omega) (by simp; omega) (wr.heap.size + 1) (by simp) ?_)
        intro gg cap2 w2 hown1 hgrow _ _
        go_wp2_with fail
        go_roundw
        case rel =>
          refine ⟨k + 1, 0 + 1, by omega, ?_, by go_num, ?_, (hb.alloc hB _).grown hgrow (by simp; omega) fun j hj => (hown.lt j hj).1⟩
          · rw [HS.out, if_pos HT.out, List.length_append, hm]; rfl
          · rw [HS.out, if_pos HT.out, c64_append]; exact hown1
        case measure => simp [intOf]; omega
      · go_wp2_with fail
        go_loop [5, 6] (fun b i => ∃ j : Nat, j ≤ m ∧ i = .int .i64 (j : Int) ∧ b = .bool (isB (l.take j) v)) (fun _ i => m - (intOf i).toNat)
        case atStart => exact ⟨0, by omega, rfl, rfl⟩
        case round =>
          obtain ⟨j, hj, rfl, rfl⟩ := hrel
          by_cases hjm : j < m
          · obtain ⟨x, hx⟩ : ∃ x, l[j]? = some x := ⟨_, List.getElem?_eq_getElem (by omega)⟩
            have hstep := isB_step l v j x hx
            have hx2 : 2 ≤ x := HP.out x (List.mem_of_getElem? hx)
            have hcell : wr.cell? ⟨g, j, none⟩ = some (.int .u64 (x : Int)) := by
              have hc := hown.cells (g := g) rfl j _ (c64_get hx)
              rw [addr_zero] at hc
              exact hc
            cases hbb : isB (l.take j) v with
            | true =>
              rw [hbb, Bool.true_and] at hstep
              have HST : Hid (isB (l.take (j + 1)) v = (v % x != 0)) := hstep
              clear hstep hx hlow hl hbb
              go_wp2_with fail
              refine ⟨⟨j + 1, by omega, by simp, ?_⟩, by simp [intOf]; omega⟩
              rw [HST.out, mod_bne]
            | false =>
              have HT : Hid (isB l v = false) := isB_take l v j hbb
              clear hstep hx hlow hl hbb hcell
              go_wp2_with fail
              go_roundw
              case rel =>
                refine ⟨k + 1, m, by omega, ?_, by go_num, ?_, hb⟩
                · rw [HS.out, if_neg (by rw [HT.out]; decide)]; exact hm
                · rw [HS.out, if_neg (by rw [HT.out]; decide)]; exact hown
              case measure => simp [intOf]; omega
          · obtain rfl : j = m := by omega
            rw [show l.take j = l by rw [← hm, List.take_length]]
            cases hbb : isB l v with
            | true =>
              have HT : Hid (isB l v = true) := hbb
              clear hlow hl hbb
              go_wp2_with (at_builtin; refine wpList_append_lies _ rfl _ _ 92 rfl w.heap.size 79 i0 (.int .u64 0) 1 8 Tryd.underlying92 hi0 hz0 hz1 hz2 rfl (by decide) _ _ _ rfl (hown.alloc _) ⟨wr.heap.size, 0, none⟩ 1 1 [.int .u64 (v : Int)] rfl rfl (World.news_of_block (cs := #[.int .u64 (v : Int)]) (t := 79) (fr := (0, 0)) (heap_alloc_new wr _)) (by simp [Value.oneCell']) (by decide) (by unfold maxLen; omega) (by omega) (by simp; omega) (wr.heap.size + 1) (by simp) ?_)
              intro gg cap2 w2 hown1 hgrow _ _
              go_wp2_with fail
              go_roundw
              case rel =>
                refine ⟨k + 1, j + 1, by omega, ?_, by go_num, ?_, (hb.alloc hB _).grown hgrow (by simp; omega) fun j hj => (hown.lt j hj).1⟩
                · rw [HS.out, if_pos HT.out, List.length_append, hm]; rfl
                · rw [HS.out, if_pos HT.out, c64_append]; exact hown1
              case measure => simp [intOf]; omega
            | false =>
              have HT : Hid (isB l v = false) := hbb
              clear hlow hl hbb
              go_wp2_with fail
              go_roundw
              case rel =>
                refine ⟨k + 1, j, by omega, ?_, by go_num, ?_, hb⟩
                · rw [HS.out, if_neg (by rw [HT.out]; decide)]; exact hm
                · rw [HS.out, if_neg (by rw [HT.out]; decide)]; exact hown
              case measure => simp [intOf]; omega
    · obtain rfl : k = K := by omega
      obtain rfl : m = n := hm.symm.trans hK
      rcases id hown.2 with ⟨rfl, h0⟩ | ⟨g, cap, cur, rfl, _⟩
      all_goals
        clear hlow
        go_wp2_with fail
        go_ret
        exact ⟨_, rfl, hown, hb⟩

end Go.Proofs.YtecamiefpdkjoaaDoor.Dg
