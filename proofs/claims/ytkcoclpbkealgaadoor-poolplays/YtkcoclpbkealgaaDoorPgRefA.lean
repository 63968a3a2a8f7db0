/-
  What the document's own big returns: a number's bytes, the highest first; and its Right.
-/
import Derived.Test.YtkcoclpbkealgaaDoorPgPage
import Derived.Test.YtkcoclpbkealgaaDoorPgRef
namespace Go.Proofs.YtkcoclpbkealgaaDoor
open Go.RowKit
set_option maxRecDepth 20000

/-- A row of bytes of the call's own, that grows. -/
structure Own (w0 W : World) (v : Value) (l : List UInt8) : Prop where
  own : W.ownsRow w0.heap.size 5 1 v l.length (cellsL l)
  new : New w0 W
theorem Own.after {w0 W W' : World} {v : Value} {l : List UInt8} (h : Own w0 W v l) (k : New W W') : Own w0 W' v l := ⟨own_after h.own k, h.new.trans k⟩
theorem wpList_append_byte {w0 W : World} {v : Value} {l : List UInt8} {ops : Array Oper} {rest : List Oper} {o : Oper} {a : Act} {Q : Exit → Act → World → Prop} (H : Own w0 W v l) (hgd : o.guard = none) (s x : Operand)
    (ho : o.op = .call { callee := .builtin .append, args := #[s, x], argTypes := #[22, 22] }) (hs : a.eval s = v) (c : UInt8) (z : Int) (hx : a.eval x = .slice (some ⟨W.heap.size, 0, none⟩) 1 1) (hz : z = (c.toNat : Int)) (hl : l.length + 1 ≤ 1000)
    (h : ∀ v' W', Own w0 W' v' (l ++ [c]) → wpList Tryd.prog ops Q rest (a.put o.dst v') W') : wpList Tryd.prog ops Q (o :: rest) a (W.alloc (.cells #[.int .u8 z] 5)) := by
  obtain ⟨i0, hi0, hz0, hz1, hz2⟩ := info_parts info5
  have R := Row.new W #[.int .u8 z] 5
  have H' := H.after ((New.refl W).alloc (.cells #[.int .u8 z] 5))
  refine wpList_append_lies _ hgd s x 22 ho w0.heap.size 5 i0 _ 1 1 Tryd.underlying22 hi0 hz0 hz1 hz2 rfl (by decide) v l.length (cellsL l) hs H'.own ⟨W.heap.size, 0, none⟩ 1 1 (cellsL [c]) hx rfl (fun j u hu => ?_) (cellsL_one _) (by decide) (by unfold maxLen; omega) (by omega) H'.new.size _ rfl ?_
  · rw [Addr.add_mid, Nat.zero_add, R.cell, hz]
    rw [← hu]
    exact List.getElem?_toArray
  · intro g cap w' h1 h2 h3 h4
    refine h _ w' ⟨by rw [List.length_append, cellsL_append]; exact h1, H'.new.grown h2 (fun b hb => (H'.own.lt b hb).1)⟩

/-- The bytes of a number, the highest first. -/
def bigL (v : Nat) : Nat → List UInt8
  | 0 => []
  | k + 1 => UInt8.ofNat (v / 256 ^ k % 256) :: bigL v k
theorem bigL_length (v : Nat) : ∀ n, (bigL v n).length = n
  | 0 => rfl
  | k + 1 => by show (bigL v k).length + 1 = k + 1; rw [bigL_length v k]
theorem bigL_at (v : Nat) : ∀ (n j : Nat), j < n → (bigL v n)[j]? = some (UInt8.ofNat (v / 256 ^ (n - 1 - j) % 256))
  | 0, _, h => by omega
  | k + 1, 0, _ => by show some _ = some _; rw [show k + 1 - 1 - 0 = k by omega]
  | k + 1, j + 1, h => by
    show (bigL v k)[j]? = _
    rw [bigL_at v k j (by omega), show k + 1 - 1 - (j + 1) = k - 1 - j by omega]
theorem big1 (v : Nat) : bigL v 1 = [UInt8.ofNat (v % 256)] := by show [UInt8.ofNat (v / 256 ^ 0 % 256)] = _; rw [Nat.pow_zero, Nat.div_one]
theorem big2 (v : Nat) : bigL v 2 = be2 v := by
  show [UInt8.ofNat (v / 256 ^ 1 % 256), UInt8.ofNat (v / 256 ^ 0 % 256)] = _
  rw [Nat.pow_zero, Nat.div_one]; rfl
theorem big4 (v : Nat) : bigL v 4 = putL v := by
  show [UInt8.ofNat (v / 256 ^ 3 % 256), UInt8.ofNat (v / 256 ^ 2 % 256), UInt8.ofNat (v / 256 ^ 1 % 256), UInt8.ofNat (v / 256 ^ 0 % 256)] = _
  rw [Nat.pow_zero, Nat.div_one]; rfl

set_option maxRecDepth 20000 in
set_option maxHeartbeats 2000000 in
theorem big_any (v n : Nat) (hn : n ≤ 4) (w : World) :
    Calls Tryd.prog 70 #[.int .i64 (v : Int), .int .i64 (n : Int)] w fun e w' => e = .returned (.string (bs (bigL v n))) ∧ New w w' := by
  go_enter Tryd.func70, Tryd.ntmps70
  go_wp2_with fail
  go_loopw [5, 6] (fun x i wr => ∃ j : Nat, j ≤ n ∧ i = .int .i64 ((n : Int) - 1 - (j : Int)) ∧ Own w wr x ((bigL v n).take j)) (fun _ i _ => ((intOf i) + 1).toNat)
  case atStart => exact ⟨0, by omega, by simp, by rw [List.take_zero]; exact World.ownsRow_nil _ _ _ _, New.refl w⟩
  case round =>
    obtain ⟨j, hj, rfl, H⟩ := hrel
    by_cases hlt : j < n
    · obtain ⟨t, ht⟩ : ∃ t, n - 1 - j = t := ⟨_, rfl⟩
      have htI : (n : Int) - 1 - (j : Int) = (t : Int) := by omega
      have hb := bigL_at v n j hlt
      have hl : ((bigL v n).take j).length + 1 ≤ 1000 := by rw [List.length_take, bigL_length]; omega
      rw [ht] at hb
      obtain ⟨c, hc⟩ : ∃ c, UInt8.ofNat (v / 256 ^ t % 256) = c := ⟨_, rfl⟩
      have hcv : c.toNat = v / 256 ^ t % 256 := by rw [← hc, byte_of _ (by omega)]
      rw [hc] at hb
      have HN : Hid ((bigL v n).take j ++ [c] = (bigL v n).take (j + 1)) := by show _ = _; rw [List.take_add_one, hb]; rfl
      have HJ : Hid (t = n - 1 - j) := ht.symm
      have ht4 : t = 0 ∨ t = 1 ∨ t = 2 ∨ t = 3 := by omega
      clear hc hb ht
      generalize (bigL v n).take j = l at *
      rw [htI]
      clear htI
      rcases ht4 with rfl | rfl | rfl | rfl
      all_goals
        simp only [Nat.reducePow, Nat.div_one] at hcv
        go_wp2_with (refine wpList_append_byte H (by rfl) (.tmp 13) (.tmp 20) (by rfl) (by rfl) c _ (by rfl) (by omega) hl ?_; intro x' W' H')
        have hJ := HJ.out
        exact ⟨⟨j + 1, by omega, by congr 1; omega, by rw [← HN.out]; exact H'⟩, by simp [intOf]⟩
    · obtain rfl : j = n := by omega
      have HT : Hid ((bigL v j).take j = bigL v j) := by show _ = _; exact List.take_of_length_le (by rw [bigL_length]; exact Nat.le_refl _)
      rw [HT.out] at H
      have hcv := conv_own rfl H.own
      have hd : (j : Int) - 1 - (j : Int) = -1 := by omega
      rw [hd]
      have N := H.new
      clear H hd
      go_wp2_with fail
      go_ret
      exact ⟨rfl, N⟩

set_option maxRecDepth 20000 in
set_option maxHeartbeats 2000000 in
theorem refRight_any (s : ByteArray) (w : World) :
    Calls Tryd.prog 46 #[.string s] w fun e w' => e = .returned (.bool (rightB (L s))) ∧ New w w' := by
  by_cases h : s.size = 256
  · obtain ⟨t, ht⟩ : ∃ t, s.extract 0 252 = t := ⟨_, rfl⟩
    obtain ⟨u, hu⟩ : ∃ u, s.extract 252 256 = u := ⟨_, rfl⟩
    have hL : (L s).length = 256 := by rw [L_size]; exact h
    have hLt : L t = (L s).take 252 := by rw [← ht, L_extract, List.drop_zero]
    have hLu : L u = (L s).drop 252 := by rw [← hu, L_extract, List.take_of_length_le (by omega)]
    have hts : t.size = 252 := by rw [← L_size, hLt, List.length_take]; omega
    obtain ⟨v, hv⟩ : ∃ v, sumL 0 (L t) = v := ⟨_, rfl⟩
    have hvl : v < 4294967296 := by rw [← hv]; exact sumL_lt (by decide) _
    have hof : ∀ w, Calls Tryd.prog 65 #[.string t] w fun e w' => e = .returned (.int .u32 (v : Int)) ∧ w' = w := fun w => by
      have := refOf_any t (by omega) w
      rw [hv] at this
      exact this
    have HR : Hid (rightB (L s) = ((bs (putL v)).toList == u.toList)) := by
      show _ = _
      unfold rightB
      rw [← hLt, ← hLu, hv, hL, ByteArray.toList_eq, ByteArray.toList_eq]
      show (true && (L u == putL v)) = (putL v == L u)
      rw [Bool.true_and, Bool.beq_comm]
    clear hv hLt hLu hL
    go_enter Tryd.func46, Tryd.ntmps46
    go_wp2_with fail
    have hne := NewW.ne w
    refine region_first 13 0 w (New.refl w) (by kernel_rfl) (by kernel_rfl) ?_
    simp only [List.take_succ_cons, List.take_zero, List.drop_succ_cons, List.drop_zero]
    repeat (go_big_quiet_step (first | (go_at_call 65; exact Calls.neww_same (hof _)) | (go_at_call 64; exact Calls.neww (refPut_any v hvl _))))
    refine wpQuiet_nil ?_
    rintro w5 ⟨⟨_, hk5⟩, rfl⟩
    go_wp2_with fail
    go_ret
    exact ⟨by rw [HR.out]; rfl, hk5⟩
  · have h1 : ((s.size : Int) == 256) = false := by rw [beq_eq_false_iff_ne]; omega
    have h2 : (s.size == 256) = false := by rw [beq_eq_false_iff_ne]; omega
    have HR : Hid (rightB (L s) = false) := rightB_false (fun h0 => h (by rw [← L_size]; exact h0.1))
    clear h
    go_enter Tryd.func46, Tryd.ntmps46
    go_wp2_with fail
    have hne := NewW.ne w
    refine region_first 13 0 w (New.refl w) (by kernel_rfl) (by kernel_rfl) ?_
    simp only [List.take_succ_cons, List.take_zero, List.drop_succ_cons, List.drop_zero]
    repeat (go_big_quiet_step (fail))
    refine wpQuiet_nil ?_
    rintro w5 ⟨⟨_, hk5⟩, rfl⟩
    go_wp2_with fail
    go_ret
    exact ⟨by rw [HR.out]; rfl, hk5⟩

end Go.Proofs.YtkcoclpbkealgaaDoor
