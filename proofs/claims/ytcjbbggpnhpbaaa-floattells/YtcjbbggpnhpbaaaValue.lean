/-
  What Value returns, for every text: the number whose key it is, or nought and false.
-/
import Derived.Test.YtcjbbggpnhpbaaaText
namespace Go.Proofs.Ytcjbbggpnhpbaaa
open Go.RowKit
open Plain

set_option maxHeartbeats 400000 in
theorem value_short (s : ByteArray) (hs : ¬ s.size = 8) (w : World) :
    Calls Try.prog 9 #[.string s] w fun e w' => e = .returned (.tuple #[.float .f64 0, .bool false]) ∧ Grown w w' := by
  have h8 : ((s.size : Int) != 8) = true := by rw [bne_iff_ne]; omega
  go_enter Try.func9, Try.ntmps9
  go_wp2
  go_ret2
  exact ⟨rfl, Grown.refl _⟩

theorem valL_take (s : ByteArray) (k : Nat) (h : k ≤ s.size) : valL (s.data.toList.take k) < 256 ^ k := by
  have := valL_lt (s.data.toList.take k)
  rwa [List.length_take, Nat.min_eq_left (by simpa using h)] at this

theorem or_step2 (t : Nat) (c : UInt8) (ht : t < 72057594037927936) : bits .or .u64 ((t : Int) * 256) (IntKind.u64.wrap (c.toNat : Int)) = ((t * 256 + c.toNat : Nat) : Int) := by
  have e1 : IntKind.u64.wrap ((t : Int) * 256) = (t : Int) * 256 := by rw [IntKind.wrap_u64]; omega
  rw [← or_step t c ht, e1]

set_option maxHeartbeats 400000 in
theorem value_core (s : ByteArray) (hs : s.size = 8) (n : Nat) (hn : Hid (valL s.data.toList = n)) (hl : n < 18446744073709551616) (ok : Bool) (hok : Hid (decide (keyN (backN n) = n) = ok)) (w : World) :
    Calls Try.prog 9 #[.string s] w fun e w' => e = .returned (.tuple #[.float .f64 (if ok then backN n else 0), .bool ok]) ∧ Grown w w' := by
  have h8 : ((s.size : Int) != 8) = false := by rw [hs]; rfl
  have hg : 8 ≤ s.size := by omega
  have HS : Hid (s.size = 8) := hs
  clear hs
  go_enter Try.func9, Try.ntmps9
  go_wp2_with fail
  go_loop [4, 10] (fun t i => ∃ k : Nat, k ≤ 8 ∧ i = .int .i64 k ∧ t = .int .u64 (valL (s.data.toList.take k) : Nat)) (fun _ i => 8 - (intOf i).toNat)
  case atStart => exact ⟨0, by omega, rfl, rfl⟩
  case round =>
    obtain ⟨k, hk, rfl, rfl⟩ := hrel
    by_cases hlt : k < 8
    · have hv := valL_take s k (by omega)
      have hp : 256 ^ k ≤ 256 ^ 7 := Nat.pow_le_pow_right (by omega) (by omega)
      have HT : Hid (valL (s.data.toList.take (k + 1)) = valL (s.data.toList.take k) * 256 + (s[k]'(by omega)).toNat) := by
        show _ = _
        rw [take_snoc s k (by omega), valL_snoc]
      have ht : valL (s.data.toList.take k) < 72057594037927936 := by omega
      clear hv hp
      generalize valL (s.data.toList.take k) = t at ht HT
      go_wp2_with fail
      go_round
      case rel => exact ⟨k + 1, by omega, by go_num, by rw [HT.out, ← or_step2 t _ ht]⟩
      case measure => simp [intOf]; omega
    · obtain rfl : k = 8 := by omega
      have HV : Hid (valL (s.data.toList.take 8) = n) := by
        show _ = _
        rw [List.take_of_length_le (by have := HS.out; simp; omega)]; exact hn.out
      generalize valL (s.data.toList.take 8) = t at HV
      obtain rfl : t = n := HV.out
      clear hlt hk HV
      have hb := backN_lt t hl
      have hfrom := call_from
      have hkt := key_text (keyN (backN t)) s (keyN_lt _ hb) HS.out
      rw [hn.out, hok.out] at hkt
      have HO : Hid (_ = _) := hok
      clear hok
      cases ok
      · go_wp2_with fail
        refine (back_any _ hl _).mono ?_
        rintro e w' ⟨rfl, rfl⟩
        go_wp2_with fail
        refine (key_any _ hb _).mono ?_
        rintro e w1 ⟨rfl, hgr⟩
        go_wp2_with fail
        go_ret2
        exact ⟨rfl, hgr⟩
      · go_wp2_with fail
        refine (back_any _ hl _).mono ?_
        rintro e w' ⟨rfl, rfl⟩
        go_wp2_with fail
        refine (key_any _ hb _).mono ?_
        rintro e w1 ⟨rfl, hgr⟩
        go_wp2_with fail
        go_ret2
        exact ⟨rfl, hgr⟩

/-- Is the number one that a key spells? -/
def isKey (n : Nat) : Bool := decide (keyN (backN n) = n)
theorem val_lt (s : ByteArray) (hs : s.size = 8) : valL s.data.toList < 18446744073709551616 := by
  have := valL_lt s.data.toList
  rwa [show s.data.toList.length = 8 by simpa using hs] at this

theorem value_any (s : ByteArray) (hs : s.size = 8) (w : World) :
    Calls Try.prog 9 #[.string s] w fun e w' => e = .returned (.tuple #[.float .f64 (if isKey (valL s.data.toList) then backN (valL s.data.toList) else 0), .bool (isKey (valL s.data.toList))]) ∧ Grown w w' :=
  value_core s hs _ rfl (val_lt s hs) _ rfl w

theorem back_turn (n : Nat) (h : n < 18446744073709551616) : backN (turnN n) = n := by unfold turnN backN; split <;> split <;> omega
theorem turn_back (n : Nat) (h : n < 18446744073709551616) : turnN (backN n) = n := by unfold turnN backN; split <;> split <;> omega
theorem plain_plain (x : Nat) : plainN (plainN x) = plainN x := by
  cases hn : nanB x
  · rw [plain_of x hn]
    split
    · rfl
    · rw [plain_of x hn]; split <;> omega
  · have e : plainN x = 9221120237041090560 := by unfold plainN; rw [if_pos hn]
    rw [e]; decide
/-- A number's key is one, and tells the plain bits. -/
theorem isKey_key (x : Nat) (h : x < 18446744073709551616) : isKey (keyN x) = true := by
  unfold isKey keyN
  rw [back_turn _ (plainN_lt x h), plain_plain x]; simp
theorem back_key (x : Nat) (h : x < 18446744073709551616) : backN (keyN x) = plainN x := back_turn _ (plainN_lt x h)
theorem key_back (n : Nat) (h : isKey n = true) : keyN (backN n) = n := of_decide_eq_true h
theorem plain_back (n : Nat) (hl : n < 18446744073709551616) (h : isKey n = true) : plainN (backN n) = backN n := by
  have := key_back n h
  have e : backN (keyN (backN n)) = plainN (backN n) := back_key _ (backN_lt n hl)
  rw [← e, this]

/-- Value of a key. -/
theorem value_key (x : Nat) (hx : x < 18446744073709551616) (w : World) :
    Calls Try.prog 9 #[.string (keyS (keyN x))] w fun e w' => e = .returned (.tuple #[.float .f64 (plainN x), .bool true]) ∧ Grown w w' := by
  have hv : valL (keyS (keyN x)).data.toList = keyN x := valL_keyL _ (keyN_lt x hx)
  have := value_any (keyS (keyN x)) rfl w
  rw [hv, isKey_key x hx, if_pos rfl, back_key x hx] at this
  exact this

end Go.Proofs.Ytcjbbggpnhpbaaa
