/-
  What the document's own Unpack returns, for every text: the same as Unpack, as a struct.
-/
import Derived.Test.YtecamiefpdkjoaaDoorNbRefC
namespace Go.Proofs.YtecamiefpdkjoaaDoor
open Go.RowKit
set_option maxRecDepth 20000

theorem Kept.setCell {W w' : World} (h : Kept W w') {a : Addr} (ha : W.heap.size ≤ a.block) (v : Value) : Kept W (w'.setCell a v) := Below.setCell h ha v
theorem Kept.frozen {w w' : World} (h : Kept w w') {b o : Nat} (hb : b < w.heap.size) : w'.frozen? ⟨b, o, none⟩ = w.frozen? ⟨b, o, none⟩ := Below.frozen (p := ⟨b, o, none⟩) h hb
theorem field_text (q : ByteArray) (b : Bool) (w : World) : (Instr.field 58 (.agg #[.string q, .bool b]) 0).run Tryd.prog w = .ok (.string q) w := by
  kernel_rfl

theorem head_good (c : UInt8) (r : List UInt8) (h : headB c r = true) : goodB (unN (c :: r)) = true := by
  unfold headB at h
  rw [Bool.and_eq_true, decide_eq_true_eq, decide_eq_true_eq] at h
  have hlen : (unN (c :: r)).length = c.toNat := by
    show ((ofL (r.take ((c.toNat + 1) / 2))).take c.toNat).length = _
    rw [List.length_take, ofL_length, List.length_take]; omega
  unfold goodB
  rw [hlen, decide_eq_true h.1, Bool.true_and]
  exact halvesB_take (halvesB_of _) _
/-- A text begins with the Pack of what it unpacks to just if it unpacks. -/
theorem pack_test (l : List UInt8) (hg : goodB (unN l) = true) : (packL (unN l) == l.take (unUsed l)) = unpackB l := by
  cases h : unpackB l
  · rw [beq_eq_false_iff_ne]
    intro e
    have := (unpack_pack (unN l) (l.drop (unUsed l)) hg).1
    rw [e, List.take_append_drop, h] at this
    cases this
  · rw [beq_iff_eq]; exact (pack_unpack l h).2.1

set_option maxHeartbeats 400000 in
theorem refUnpack_empty (s : ByteArray) (h : L s = []) (w : World) :
    Calls Tryd.prog 25 #[.string s] w fun e w' => e = .returned (.agg #[.string (bs []), .int .i64 0, .bool false]) ∧ Kept w w' := by
  have hz : s.size = 0 := by rw [← L_size, h]; rfl
  have hd : decide ((s.size : Int) < 1) = true := decide_eq_true (by omega)
  clear h
  go_enter Tryd.func25, Tryd.ntmps25
  go_wp2_with fail
  exact bodyPost_ret (v := .agg #[.string (bs []), .int .i64 0, .bool false]) (by simp [results, Tryd.results25, go_sem]; rfl) rfl ⟨rfl, (Kept.refl _).allocR _⟩

set_option maxHeartbeats 1000000 in
theorem refUnpack_head (s : ByteArray) (c : UInt8) (r : List UInt8) (h : L s = c :: r) (hh : headB c r = false) (w : World) :
    Calls Tryd.prog 25 #[.string s] w fun e w' => e = .returned (.agg #[.string (bs []), .int .i64 0, .bool false]) ∧ Kept w w' := by
  obtain ⟨hlen, hne, h0, hc⟩ := head_parts s c r h
  unfold headB at hh
  clear h hne
  have hcl := c.toNat_lt
  obtain ⟨n, hn⟩ : ∃ n, c.toNat = n := ⟨_, rfl⟩
  obtain ⟨J, hJ⟩ : ∃ J, (n + 1) / 2 = J := ⟨_, rfl⟩
  rw [hn, hJ] at hh
  rw [hn] at hcl
  have hd0 : decide ((s.size : Int) < 1) = false := decide_eq_false (by omega)
  by_cases h16 : n ≤ 16
  · have hJr : ¬ J ≤ r.length := by
      intro h
      rw [decide_eq_true h16, decide_eq_true h] at hh
      cases hh
    have hJ8 : J ≤ 8 := by omega
    have hJi : ((n : Int) + 1) / 2 = (J : Int) := by omega
    have hd1 : decide ((16 : Int) < (n : Int)) = false := decide_eq_false (by omega)
    have hd2 : decide ((s.size : Int) < 1 + (J : Int)) = true := decide_eq_true (by omega)
    clear hh hlen hJr hJ
    go_enter Tryd.func25, Tryd.ntmps25
    go_wp2_with fail
    exact bodyPost_ret (v := .agg #[.string (bs []), .int .i64 0, .bool false]) (by simp [results, Tryd.results25, go_sem]; rfl) rfl ⟨rfl, (Kept.refl _).allocR _⟩
  · have hd1 : decide ((16 : Int) < (n : Int)) = true := decide_eq_true (by omega)
    clear hh hlen
    go_enter Tryd.func25, Tryd.ntmps25
    go_wp2_with fail
    exact bodyPost_ret (v := .agg #[.string (bs []), .int .i64 0, .bool false]) (by simp [results, Tryd.results25, go_sem]; rfl) rfl ⟨rfl, (Kept.refl _).allocR _⟩

set_option maxHeartbeats 1000000 in
theorem refUnpack_rest (s : ByteArray) (hs : s.size ≤ 4000) (c : UInt8) (r : List UInt8) (h : L s = c :: r) (hh : headB c r = true) (ok : Bool) (hok : unpackB (c :: r) = ok) (w : World) :
    Calls Tryd.prog 25 #[.string s] w fun e w' => e = .returned (.agg #[.string (if ok then bs (unN (c :: r)) else bs []), .int .i64 (if ok then (unUsed (c :: r) : Nat) else 0), .bool ok]) ∧ Kept w w' := by
  have HP := fun w => refPack_yes (bs (unN (c :: r))) (by rw [L_bs]; exact head_good c r hh) w
  rw [L_bs] at HP
  obtain ⟨hlen, hne, h0, hc⟩ := head_parts s c r h
  have htest : ((bs (packL (unN (c :: r)))).toList == (s.extract 0 (unUsed (c :: r))).toList) = ok := by
    rw [toList_L, toList_L, L_extract, L_bs, h, List.drop_zero, pack_test _ (head_good c r hh), hok]
  unfold headB at hh
  have H : Hid (L s = c :: r) := h
  clear h hne
  have hcl := c.toNat_lt
  obtain ⟨n, hn⟩ : ∃ n, c.toNat = n := ⟨_, rfl⟩
  obtain ⟨J, hJ⟩ : ∃ J, (n + 1) / 2 = J := ⟨_, rfl⟩
  have hU : unUsed (c :: r) = 1 + J := by show 1 + (c.toNat + 1) / 2 = _; rw [hn, hJ]
  have hN : bs (unN (c :: r)) = (bs (ofL (r.take J))).extract 0 n := by
    refine eq_of_L ?_
    rw [L_extract, L_bs, L_bs, List.drop_zero]
    show (ofL (r.take ((c.toNat + 1) / 2))).take c.toNat = _
    rw [hn, hJ]
  rw [hU] at htest
  rw [hn, hJ] at hh
  rw [hn] at hcl
  rw [Bool.and_eq_true, decide_eq_true_eq, decide_eq_true_eq] at hh
  obtain ⟨h16, hJr⟩ := hh
  have hJs : 1 + J ≤ s.size := by omega
  have hJ8 : J ≤ 8 := by omega
  have hJi : ((n : Int) + 1) / 2 = (J : Int) := by omega
  have hd0 : decide ((s.size : Int) < 1) = false := decide_eq_false (by omega)
  have hd1 : decide ((16 : Int) < (n : Int)) = false := decide_eq_false (by omega)
  have hd2 : decide ((s.size : Int) < 1 + (J : Int)) = false := decide_eq_false (by omega)
  have HX : Hid (L (s.extract 1 (1 + J)) = r.take J) := by
    show _ = _
    rw [L_extract, H.out, Nat.add_comm, List.take_succ_cons]; rfl
  have hA : (bs (ofL (r.take J))).size = 2 * J := by rw [bs_size, ofL_length, List.length_take]; omega
  have hNs : n ≤ (bs (ofL (r.take J))).size := by rw [hA]; omega
  rw [hU, hN]
  rw [hN] at HP
  generalize bs (packL (unN (c :: r))) = q at *
  have HPH : Hid (∀ w, _) := HP
  clear hlen hJ HP hN hU hok
  go_enter Tryd.func25, Tryd.ntmps25
  go_wp2_with fail
  refine (refOf_any _ (by rw [← L_size, L_extract, List.length_drop, List.length_take, L_size]; omega) _).mono ?_
  rintro e w2 ⟨rfl, g⟩
  rw [HX.out]
  generalize hEq : bs (ofL (r.take J)) = a at *
  go_wp2_with fail
  have hbx := g.size
  have hbs : w.heap.size + 1 ≤ w2.heap.size := by simpa using hbx
  obtain ⟨W, hW⟩ : ∃ W, w2.alloc (.cells #[.string (a.extract 0 n), .int .i64 (1 + (J : Int)), .bool true] 52) = W := ⟨_, rfl⟩
  have b0 : W.cell? ⟨w2.heap.size, 0, none⟩ = some (.string (a.extract 0 n)) := by rw [← hW]; simp
  have b1 : W.cell? ⟨w2.heap.size, 1, none⟩ = some (.int .i64 (1 + (J : Int))) := by rw [← hW]; simp
  have b2 : W.cell? ⟨w2.heap.size, 2, none⟩ = some (.bool true) := by rw [← hW]; simp
  have hWs : W.heap.size = w2.heap.size + 1 := by rw [← hW]; simp
  have old : ∀ o, W.cell? ⟨w.heap.size, o, none⟩ = (w.alloc (.cells #[.string ⟨#[]⟩, .int .i64 0, .bool false] 52)).cell? ⟨w.heap.size, o, none⟩ := fun o => by
    rw [← hW, Kept.cell ((Kept.refl w2).allocR _) (by omega), g.cell (p := ⟨w.heap.size, o, none⟩) (by simp)]
  have r0 : W.cell? ⟨w.heap.size, 0, none⟩ = some (.string ⟨#[]⟩) := by rw [old]; simp
  have r1 : W.cell? ⟨w.heap.size, 1, none⟩ = some (.int .i64 0) := by rw [old]; simp
  have r2 : W.cell? ⟨w.heap.size, 2, none⟩ = some (.bool false) := by rw [old]; simp
  have rf : ∀ o, W.frozen? ⟨w.heap.size, o, none⟩ = false := fun o => by
    rw [← hW, Kept.frozen ((Kept.refl w2).allocR _) (by omega), g.frozen (p := ⟨w.heap.size, o, none⟩) (by simp)]; simp
  have kW : Kept w W := by rw [← hW]; exact (((Kept.refl w).allocR _).trans (Kept.below g)).allocR _
  rw [hW]
  clear old hW g hbx
  generalize w2.heap.size = B at *
  have hld : ∀ p : KeptW W, p.v.cell? ⟨B, 0, none⟩ = some (.string (a.extract 0 n)) := fun p => by rw [Kept.cell p.h (by omega), b0]
  have hne : Nonempty (KeptW W) := ⟨⟨W, Kept.refl W⟩⟩
  have hfd := field_text q true
  refine region_kept W (Kept.refl W) (by kernel_rfl) (by kernel_rfl) ?_
  repeat (go_big_quiet_step (first | (go_at_call 31; exact Calls.keptw ((HPH.out _).mono fun _ _ ⟨he, hk⟩ => ⟨he, Kept.below hk⟩))))
  refine wpQuiet_nil ?_
  intro w5 hw5
  have hk5 : Kept W w5 := by obtain ⟨p, rfl⟩ := hw5; exact p.h
  clear hw5
  have s0 : w5.cell? ⟨B, 0, none⟩ = some (.string (a.extract 0 n)) := by rw [Kept.cell hk5 (by omega), b0]
  have s1 : w5.cell? ⟨B, 1, none⟩ = some (.int .i64 (1 + (J : Int))) := by rw [Kept.cell hk5 (by omega), b1]
  have s2 : w5.cell? ⟨B, 2, none⟩ = some (.bool true) := by rw [Kept.cell hk5 (by omega), b2]
  have t0 : w5.cell? ⟨w.heap.size, 0, none⟩ = some (.string ⟨#[]⟩) := by rw [Kept.cell hk5 (by omega), r0]
  have t1 : w5.cell? ⟨w.heap.size, 1, none⟩ = some (.int .i64 0) := by rw [Kept.cell hk5 (by omega), r1]
  have t2 : w5.cell? ⟨w.heap.size, 2, none⟩ = some (.bool false) := by rw [Kept.cell hk5 (by omega), r2]
  have tf0 : w5.frozen? ⟨w.heap.size, 0, none⟩ = false := by rw [Kept.frozen hk5 (by omega), rf]
  have tf1 : w5.frozen? ⟨w.heap.size, 1, none⟩ = false := by rw [Kept.frozen hk5 (by omega), rf]
  have tf2 : w5.frozen? ⟨w.heap.size, 2, none⟩ = false := by rw [Kept.frozen hk5 (by omega), rf]
  have hk : Kept w w5 := kW.trans hk5
  clear b0 b1 b2 r0 r1 r2 rf hld kW hk5 HPH hfd
  cases ok
  · go_wp2_with fail
    exact bodyPost_ret (v := .agg #[.string (bs []), .int .i64 0, .bool false]) (by simp [results, Tryd.results25, go_sem, t0, t1, t2]; rfl) rfl ⟨rfl, ((hk.setCell (by simp) _).setCell (by simp) _).setCell (by simp) _⟩
  · go_wp2_with fail
    exact bodyPost_ret (v := .agg #[.string (a.extract 0 n), .int .i64 (1 + (J : Int)), .bool true]) (by simp [results, Tryd.results25, go_sem, t0, t1, t2]) rfl ⟨by simp, ((hk.setCell (by simp) _).setCell (by simp) _).setCell (by simp) _⟩

theorem refUnpack_any (s : ByteArray) (hs : s.size ≤ 4000) (w : World) :
    Calls Tryd.prog 25 #[.string s] w fun e w' => e = .returned (.agg #[.string (if unpackB (L s) then bs (unN (L s)) else bs []), .int .i64 (if unpackB (L s) then (unUsed (L s) : Nat) else 0), .bool (unpackB (L s))]) ∧ Kept w w' := by
  cases hl : L s with
  | nil => exact refUnpack_empty s hl w
  | cons c r =>
    cases hh : headB c r with
    | false =>
      have e : unpackB (c :: r) = false := by show (headB c r && lastB c r) = false; rw [hh]; rfl
      rw [e]
      exact refUnpack_head s c r hl hh w
    | true => exact refUnpack_rest s hs c r hl hh _ rfl w

end Go.Proofs.YtecamiefpdkjoaaDoor
