/-
  What Unpack returns, for every text.
-/
import Derived.Test.YtecamiefpdkjoaaDoorNbKey
namespace Go.Proofs.YtecamiefpdkjoaaDoor
open Go.RowKit
set_option maxRecDepth 20000

/-- Of a first byte and the rest: is it a Pack's beginning; the halves; how many bytes. -/
def headB (c : UInt8) (r : List UInt8) : Bool := decide (c.toNat ≤ 16) && decide ((c.toNat + 1) / 2 ≤ r.length)
def lastB (c : UInt8) (r : List UInt8) : Bool := !oddB c.toNat || decide (((ofL (r.take ((c.toNat + 1) / 2))).getD c.toNat 0).toNat = 0)
def unpackB : List UInt8 → Bool
  | [] => false
  | c :: r => headB c r && lastB c r
def unN : List UInt8 → List UInt8
  | [] => []
  | c :: r => (ofL (r.take ((c.toNat + 1) / 2))).take c.toNat
def unUsed : List UInt8 → Nat
  | [] => 0
  | c :: _ => 1 + (c.toNat + 1) / 2

set_option maxHeartbeats 400000 in
theorem unpack_empty (s : ByteArray) (h : L s = []) (w : World) :
    Calls Tryd.prog 46 #[.string s] w fun e w' => e = .returned (.tuple #[.string (bs []), .int .i64 0, .bool false]) ∧ Kept w w' := by
  have he : s.toList.isEmpty = true := by rw [toList_L, h]; rfl
  clear h
  go_enter Tryd.func46, Tryd.ntmps46
  go_wp2_with fail
  go_ret3
  exact ⟨rfl, Kept.refl _⟩

theorem head_parts (s : ByteArray) (c : UInt8) (r : List UInt8) (h : L s = c :: r) : s.size = r.length + 1 ∧ (s.toList == []) = false ∧ ∃ h0 : 0 < s.size, s[0] = c := by
  have hlen : s.size = r.length + 1 := by rw [← L_size, h]; rfl
  refine ⟨hlen, by rw [toList_L, h]; rfl, by omega, ?_⟩
  have := L_get s 0 (by omega)
  rw [h] at this
  simpa using this.symm

set_option maxHeartbeats 1000000 in
theorem unpack_head (s : ByteArray) (c : UInt8) (r : List UInt8) (h : L s = c :: r) (hh : headB c r = false) (w : World) :
    Calls Tryd.prog 46 #[.string s] w fun e w' => e = .returned (.tuple #[.string (bs []), .int .i64 0, .bool false]) ∧ Kept w w' := by
  obtain ⟨hlen, hne, h0, hc⟩ := head_parts s c r h
  unfold headB at hh
  clear h
  have hcl := c.toNat_lt
  obtain ⟨n, hn⟩ : ∃ n, c.toNat = n := ⟨_, rfl⟩
  obtain ⟨J, hJ⟩ : ∃ J, (n + 1) / 2 = J := ⟨_, rfl⟩
  rw [hn, hJ] at hh
  rw [hn] at hcl
  by_cases h16 : n ≤ 16
  · have hJr : ¬ J ≤ r.length := by
      intro h
      rw [decide_eq_true h16, decide_eq_true h] at hh
      cases hh
    have hJ8 : J ≤ 8 := by omega
    have hd1 : decide ((16 : Int) < (n : Int)) = false := decide_eq_false (by omega)
    have hd2 : decide ((s.size : Int) < 1 + (J : Int)) = true := decide_eq_true (by omega)
    clear hh hlen hJr
    go_enter Tryd.func46, Tryd.ntmps46
    go_wp2_with fail
    refine (joinedSize_any _ (by omega) _).mono ?_
    rintro e w' ⟨rfl, rfl⟩
    rw [hJ]
    clear hJ
    go_wp2_with fail
    go_ret3
    exact ⟨rfl, Kept.refl _⟩
  · have hJ8 : J ≤ 128 := by omega
    have hd1 : decide ((16 : Int) < (n : Int)) = true := decide_eq_true (by omega)
    clear hh hlen
    go_enter Tryd.func46, Tryd.ntmps46
    go_wp2_with fail
    refine (joinedSize_any _ (by omega) _).mono ?_
    rintro e w' ⟨rfl, rfl⟩
    rw [hJ]
    clear hJ
    go_wp2_with fail
    go_ret3
    exact ⟨rfl, Kept.refl _⟩

set_option maxHeartbeats 1000000 in
theorem unpack_odd (s : ByteArray) (hs : s.size ≤ 4000) (c : UInt8) (r : List UInt8) (h : L s = c :: r) (hh : headB c r = true) (ho : oddB c.toNat = true) (z : Bool) (hz : ((((ofL (r.take ((c.toNat + 1) / 2))).getD c.toNat 0).toNat : Int) != 0) = z) (w : World) :
    Calls Tryd.prog 46 #[.string s] w fun e w' => e = .returned (.tuple #[.string (if z then bs [] else bs (unN (c :: r))), .int .i64 (if z then 0 else (unUsed (c :: r) : Nat)), .bool !z]) ∧ Kept w w' := by
  obtain ⟨hlen, hne, h0, hc⟩ := head_parts s c r h
  unfold headB at hh
  have H : Hid (L s = c :: r) := h
  clear h
  have hcl := c.toNat_lt
  obtain ⟨n, hn⟩ : ∃ n, c.toNat = n := ⟨_, rfl⟩
  obtain ⟨J, hJ⟩ : ∃ J, (n + 1) / 2 = J := ⟨_, rfl⟩
  rw [hn, hJ] at hh
  rw [hn] at hcl ho
  rw [Bool.and_eq_true, decide_eq_true_eq, decide_eq_true_eq] at hh
  obtain ⟨h16, hJr⟩ := hh
  have hJs : 1 + J ≤ s.size := by omega
  have hJ8 : J ≤ 8 := by omega
  have hd1 : decide ((16 : Int) < (n : Int)) = false := decide_eq_false (by omega)
  have hd2 : decide ((s.size : Int) < 1 + (J : Int)) = false := decide_eq_false (by omega)
  have HX : Hid (L (s.extract 1 (1 + J)) = r.take J) := by
    show _ = _
    rw [L_extract, H.out, Nat.add_comm, List.take_succ_cons]; rfl
  clear hlen
  go_enter Tryd.func46, Tryd.ntmps46
  go_wp2_with fail
  refine (joinedSize_any _ (by omega) _).mono ?_
  rintro e w' ⟨rfl, rfl⟩
  rw [hJ]
  go_wp2_with fail
  refine (of_any _ (by rw [← L_size, L_extract, List.length_drop, List.length_take, L_size]; omega) _).mono ?_
  rintro e w2 ⟨rfl, g⟩
  rw [HX.out]
  have hA : (bs (ofL (r.take J))).size = 2 * J := by rw [bs_size, ofL_length, List.length_take]; omega
  have HR : Hid (bs (unN (c :: r)) = (bs (ofL (r.take J))).extract 0 n ∧ unUsed (c :: r) = 1 + J) := by
    refine ⟨eq_of_L ?_, ?_⟩
    · rw [L_extract, L_bs, L_bs, List.drop_zero]
      show (ofL (r.take ((c.toNat + 1) / 2))).take c.toNat = _
      rw [hn, hJ]
    · show 1 + (c.toNat + 1) / 2 = _
      rw [hn, hJ]
  have hN : n < (bs (ofL (r.take J))).size := by rw [hA]; have := of_decide_eq_true ho; omega
  have hlast : (((bs (ofL (r.take J)))[n].toNat : Int) != 0) = z := by
    rw [hn, hJ] at hz
    have hg : (ofL (r.take J)).getD n 0 = (bs (ofL (r.take J)))[n] := getD_of (L_get _ n hN)
    rw [← hz, hg]
  clear hz
  generalize bs (ofL (r.take J)) = a at *
  clear hJ
  go_wp2_with fail
  refine (isOdd_any _ _).mono ?_
  rintro e w3 ⟨rfl, rfl⟩
  rw [ho]
  cases z
  · go_wp2_with fail
    go_ret3
    rw [HR.out.1, HR.out.2]
    exact ⟨by go_num, g⟩
  · go_wp2_with fail
    go_ret3
    exact ⟨rfl, g⟩

set_option maxHeartbeats 1000000 in
theorem unpack_even (s : ByteArray) (hs : s.size ≤ 4000) (c : UInt8) (r : List UInt8) (h : L s = c :: r) (hh : headB c r = true) (ho : oddB c.toNat = false) (w : World) :
    Calls Tryd.prog 46 #[.string s] w fun e w' => e = .returned (.tuple #[.string (bs (unN (c :: r))), .int .i64 (unUsed (c :: r) : Nat), .bool true]) ∧ Kept w w' := by
  obtain ⟨hlen, hne, h0, hc⟩ := head_parts s c r h
  unfold headB at hh
  have H : Hid (L s = c :: r) := h
  clear h
  have hcl := c.toNat_lt
  obtain ⟨n, hn⟩ : ∃ n, c.toNat = n := ⟨_, rfl⟩
  obtain ⟨J, hJ⟩ : ∃ J, (n + 1) / 2 = J := ⟨_, rfl⟩
  rw [hn, hJ] at hh
  rw [hn] at hcl ho
  rw [Bool.and_eq_true, decide_eq_true_eq, decide_eq_true_eq] at hh
  obtain ⟨h16, hJr⟩ := hh
  have hJs : 1 + J ≤ s.size := by omega
  have hJ8 : J ≤ 8 := by omega
  have hd1 : decide ((16 : Int) < (n : Int)) = false := decide_eq_false (by omega)
  have hd2 : decide ((s.size : Int) < 1 + (J : Int)) = false := decide_eq_false (by omega)
  have HX : Hid (L (s.extract 1 (1 + J)) = r.take J) := by
    show _ = _
    rw [L_extract, H.out, Nat.add_comm, List.take_succ_cons]; rfl
  clear hlen
  go_enter Tryd.func46, Tryd.ntmps46
  go_wp2_with fail
  refine (joinedSize_any _ (by omega) _).mono ?_
  rintro e w' ⟨rfl, rfl⟩
  rw [hJ]
  go_wp2_with fail
  refine (of_any _ (by rw [← L_size, L_extract, List.length_drop, List.length_take, L_size]; omega) _).mono ?_
  rintro e w2 ⟨rfl, g⟩
  rw [HX.out]
  have hA : (bs (ofL (r.take J))).size = 2 * J := by rw [bs_size, ofL_length, List.length_take]; omega
  have HR : Hid (bs (unN (c :: r)) = (bs (ofL (r.take J))).extract 0 n ∧ unUsed (c :: r) = 1 + J) := by
    refine ⟨eq_of_L ?_, ?_⟩
    · rw [L_extract, L_bs, L_bs, List.drop_zero]
      show (ofL (r.take ((c.toNat + 1) / 2))).take c.toNat = _
      rw [hn, hJ]
    · show 1 + (c.toNat + 1) / 2 = _
      rw [hn, hJ]
  have hN : n ≤ (bs (ofL (r.take J))).size := by rw [hA]; omega
  generalize bs (ofL (r.take J)) = a at *
  clear hJ
  go_wp2_with fail
  refine (isOdd_any _ _).mono ?_
  rintro e w3 ⟨rfl, rfl⟩
  rw [ho]
  go_wp2_with fail
  go_ret3
  rw [HR.out.1, HR.out.2]
  exact ⟨by go_num, g⟩

theorem unpack_no (s : ByteArray) (hs : s.size ≤ 4000) (h : unpackB (L s) = false) (w : World) :
    Calls Tryd.prog 46 #[.string s] w fun e w' => e = .returned (.tuple #[.string (bs []), .int .i64 0, .bool false]) ∧ Kept w w' := by
  cases hl : L s with
  | nil => exact unpack_empty s hl w
  | cons c r =>
    rw [hl] at h
    have h' : (headB c r && lastB c r) = false := h
    cases hh : headB c r with
    | false => exact unpack_head s c r hl hh w
    | true =>
      rw [hh, Bool.true_and] at h'
      unfold lastB at h'
      rw [Bool.or_eq_false_iff] at h'
      have ho : oddB c.toNat = true := by simpa using h'.1
      exact unpack_odd s hs c r hl hh ho true (by rw [bne_iff_ne]; have := of_decide_eq_false h'.2; omega) w

theorem unpack_yes (s : ByteArray) (hs : s.size ≤ 4000) (h : unpackB (L s) = true) (w : World) :
    Calls Tryd.prog 46 #[.string s] w fun e w' => e = .returned (.tuple #[.string (bs (unN (L s))), .int .i64 (unUsed (L s) : Nat), .bool true]) ∧ Kept w w' := by
  cases hl : L s with
  | nil => rw [hl] at h; cases h
  | cons c r =>
    rw [hl] at h
    have h' : (headB c r && lastB c r) = true := h
    rw [Bool.and_eq_true] at h'
    cases ho : oddB c.toNat with
    | false => exact unpack_even s hs c r hl h'.1 ho w
    | true =>
      have h2 := h'.2
      unfold lastB at h2
      rw [ho, Bool.not_true, Bool.false_or, decide_eq_true_eq] at h2
      exact unpack_odd s hs c r hl h'.1 ho false (by rw [h2]; rfl) w

end Go.Proofs.YtecamiefpdkjoaaDoor
