/-
  What the document's own Key returns: the same eight bytes, for every word below 2^64.
-/
import Derived.Test.YtcjbbggpnhpbaaaWakes
namespace Go.Proofs.Ytcjbbggpnhpbaaa
open Go.RowKit
open Plain

theorem info5 : (Try.prog.info? 5).map (fun i => (i.zero, i.size, i.bytes)) = some (some (.int .u8 0), 1, 1) := by kernel_rfl

/-- The bytes as cells. -/
def cellsL (l : List UInt8) : List Value := l.map fun c => Value.int .u8 (c.toNat : Int)
theorem cellsL_step (l : List UInt8) (k : Nat) (c : UInt8) (d : Int) (h : l[k]? = some c) (hd : (c.toNat : Int) = d) : cellsL (l.take k) ++ [.int .u8 d] = cellsL (l.take (k + 1)) := by
  unfold cellsL
  rw [List.take_add_one, h, List.map_append, ← hd]; rfl

theorem step0 (n : Nat) (hl : n < 18446744073709551616) : cellsL ((keyL n).take 0) ++ [.int .u8 ((n : Int) / 72057594037927936)] = cellsL ((keyL n).take 1) :=
  cellsL_step (keyL n) 0 (UInt8.ofNat (n / 72057594037927936 % 256)) _ rfl (by rw [byte_of]; omega)
theorem step1 (n : Nat) : cellsL ((keyL n).take 1) ++ [.int .u8 ((n : Int) / 281474976710656 % 256)] = cellsL ((keyL n).take 2) :=
  cellsL_step (keyL n) 1 (UInt8.ofNat (n / 281474976710656 % 256)) _ rfl (by rw [byte_of]; omega)
theorem step2 (n : Nat) : cellsL ((keyL n).take 2) ++ [.int .u8 ((n : Int) / 1099511627776 % 256)] = cellsL ((keyL n).take 3) :=
  cellsL_step (keyL n) 2 (UInt8.ofNat (n / 1099511627776 % 256)) _ rfl (by rw [byte_of]; omega)
theorem step3 (n : Nat) : cellsL ((keyL n).take 3) ++ [.int .u8 ((n : Int) / 4294967296 % 256)] = cellsL ((keyL n).take 4) :=
  cellsL_step (keyL n) 3 (UInt8.ofNat (n / 4294967296 % 256)) _ rfl (by rw [byte_of]; omega)
theorem step4 (n : Nat) : cellsL ((keyL n).take 4) ++ [.int .u8 ((n : Int) / 16777216 % 256)] = cellsL ((keyL n).take 5) :=
  cellsL_step (keyL n) 4 (UInt8.ofNat (n / 16777216 % 256)) _ rfl (by rw [byte_of]; omega)
theorem step5 (n : Nat) : cellsL ((keyL n).take 5) ++ [.int .u8 ((n : Int) / 65536 % 256)] = cellsL ((keyL n).take 6) :=
  cellsL_step (keyL n) 5 (UInt8.ofNat (n / 65536 % 256)) _ rfl (by rw [byte_of]; omega)
theorem step6 (n : Nat) : cellsL ((keyL n).take 6) ++ [.int .u8 ((n : Int) / 256 % 256)] = cellsL ((keyL n).take 7) :=
  cellsL_step (keyL n) 6 (UInt8.ofNat (n / 256 % 256)) _ rfl (by rw [byte_of]; omega)
theorem step7 (n : Nat) : cellsL ((keyL n).take 7) ++ [.int .u8 ((n : Int) % 256)] = cellsL ((keyL n).take 8) :=
  cellsL_step (keyL n) 7 (UInt8.ofNat (n % 256)) _ rfl (by rw [byte_of]; omega)

theorem own_next {B : Nat} {w wr w1 : World} {v v' : Value} {k : Nat} {xs ys : List Value} {c : Value} {o : Obj} (hown : wr.ownsRow B 5 1 v k xs) (hb : Below B w wr) (hB : B ≤ wr.heap.size)
    (hown' : w1.ownsRow B 5 1 v' (k + 1) (xs ++ [c])) (hg : (wr.alloc o).grownBy w1 v.ownBlock) (he : xs ++ [c] = ys) : w1.ownsRow B 5 1 v' (k + 1) ys ∧ Below B w w1 := by
  refine ⟨he ▸ hown', (hb.alloc hB o).grown hg (by simp; omega) fun j hj => (hown.lt j hj).1⟩

set_option maxHeartbeats 1600000 in
theorem refKey_core (x n : Nat) (hx : x < 18446744073709551616) (hn : Hid (keyN x = n)) (hl : n < 18446744073709551616) (w : World) :
    Calls Try.prog 12 #[.float .f64 x] w fun e w' => e = .returned (.string (keyS n)) ∧ Below w.heap.size w w' := by
  obtain ⟨i0, hi, hz0, hz1, hz2⟩ := info_parts info5
  go_enter Try.func12, Try.ntmps12
  go_wp2_with fail
  refine (rank_any _ hx _).mono ?_
  rintro e w0 ⟨rfl, rfl⟩
  rw [hn.out]
  clear hn hx
  go_wp2_with fail
  go_loopw [4, 5] (fun v i wr => ∃ k : Nat, k ≤ 8 ∧ i = .int .i64 (7 - (k : Int)) ∧ wr.ownsRow w0.heap.size 5 1 v k (cellsL ((keyL n).take k)) ∧ Below w0.heap.size w0 wr) (fun _ i _ => (1 + intOf i).toNat)
  case atStart => exact ⟨0, by omega, rfl, World.ownsRow_nil _ _ _ _, Below.refl _ _⟩
  case round =>
    obtain ⟨k, hk, rfl, hown, hb⟩ := hrel
    have hB := hb.size
    by_cases hlt : k < 8
    · have hk' : k = 0 ∨ k = 1 ∨ k = 2 ∨ k = 3 ∨ k = 4 ∨ k = 5 ∨ k = 6 ∨ k = 7 := by omega
      clear hlt hk
      rcases hk' with rfl | rfl | rfl | rfl | rfl | rfl | rfl | rfl
      · go_wp2_with (at_builtin; refine wpList_append_own _ rfl _ _ 44 rfl w0.heap.size 5 i0 (.int .u8 0) 1 1 Try.underlying44 hi hz0 hz1 hz2 rfl (by decide) _ _ _ rfl (hown.alloc _) ⟨wr.heap.size, 0, none⟩ 1 1 [.int .u8 ((n : Int) / 72057594037927936)] rfl rfl ?c1 ?c2 ?c3 ?c4 ?c5 ?_)
        case c1 =>
          intro j u hj
          match j, hj with
          | 0, hj => simp at hj; subst hj; simp [Addr.add]
        case c2 => intro u hu; simp at hu; subst hu; rfl
        case c3 => unfold maxLen; omega
        case c4 => omega
        case c5 => simp; omega
        · intro v' w1 hown' hgrow _
          have R := own_next hown hb hB hown' hgrow (step0 n hl)
          clear hown' hgrow hown hb hB
          go_wp2_with fail
          exact ⟨⟨1, by omega, by rfl, R.1, R.2⟩, by simp [intOf]⟩
      · go_wp2_with (at_builtin; refine wpList_append_own _ rfl _ _ 44 rfl w0.heap.size 5 i0 (.int .u8 0) 1 1 Try.underlying44 hi hz0 hz1 hz2 rfl (by decide) _ _ _ rfl (hown.alloc _) ⟨wr.heap.size, 0, none⟩ 1 1 [.int .u8 ((n : Int) / 281474976710656 % 256)] rfl rfl ?c1 ?c2 ?c3 ?c4 ?c5 ?_)
        case c1 =>
          intro j u hj
          match j, hj with
          | 0, hj => simp at hj; subst hj; simp [Addr.add]
        case c2 => intro u hu; simp at hu; subst hu; rfl
        case c3 => unfold maxLen; omega
        case c4 => omega
        case c5 => simp; omega
        · intro v' w1 hown' hgrow _
          have R := own_next hown hb hB hown' hgrow (step1 n)
          clear hown' hgrow hown hb hB
          go_wp2_with fail
          exact ⟨⟨2, by omega, by rfl, R.1, R.2⟩, by simp [intOf]⟩
      · go_wp2_with (at_builtin; refine wpList_append_own _ rfl _ _ 44 rfl w0.heap.size 5 i0 (.int .u8 0) 1 1 Try.underlying44 hi hz0 hz1 hz2 rfl (by decide) _ _ _ rfl (hown.alloc _) ⟨wr.heap.size, 0, none⟩ 1 1 [.int .u8 ((n : Int) / 1099511627776 % 256)] rfl rfl ?c1 ?c2 ?c3 ?c4 ?c5 ?_)
        case c1 =>
          intro j u hj
          match j, hj with
          | 0, hj => simp at hj; subst hj; simp [Addr.add]
        case c2 => intro u hu; simp at hu; subst hu; rfl
        case c3 => unfold maxLen; omega
        case c4 => omega
        case c5 => simp; omega
        · intro v' w1 hown' hgrow _
          have R := own_next hown hb hB hown' hgrow (step2 n)
          clear hown' hgrow hown hb hB
          go_wp2_with fail
          exact ⟨⟨3, by omega, by rfl, R.1, R.2⟩, by simp [intOf]⟩
      · go_wp2_with (at_builtin; refine wpList_append_own _ rfl _ _ 44 rfl w0.heap.size 5 i0 (.int .u8 0) 1 1 Try.underlying44 hi hz0 hz1 hz2 rfl (by decide) _ _ _ rfl (hown.alloc _) ⟨wr.heap.size, 0, none⟩ 1 1 [.int .u8 ((n : Int) / 4294967296 % 256)] rfl rfl ?c1 ?c2 ?c3 ?c4 ?c5 ?_)
        case c1 =>
          intro j u hj
          match j, hj with
          | 0, hj => simp at hj; subst hj; simp [Addr.add]
        case c2 => intro u hu; simp at hu; subst hu; rfl
        case c3 => unfold maxLen; omega
        case c4 => omega
        case c5 => simp; omega
        · intro v' w1 hown' hgrow _
          have R := own_next hown hb hB hown' hgrow (step3 n)
          clear hown' hgrow hown hb hB
          go_wp2_with fail
          exact ⟨⟨4, by omega, by rfl, R.1, R.2⟩, by simp [intOf]⟩
      · go_wp2_with (at_builtin; refine wpList_append_own _ rfl _ _ 44 rfl w0.heap.size 5 i0 (.int .u8 0) 1 1 Try.underlying44 hi hz0 hz1 hz2 rfl (by decide) _ _ _ rfl (hown.alloc _) ⟨wr.heap.size, 0, none⟩ 1 1 [.int .u8 ((n : Int) / 16777216 % 256)] rfl rfl ?c1 ?c2 ?c3 ?c4 ?c5 ?_)
        case c1 =>
          intro j u hj
          match j, hj with
          | 0, hj => simp at hj; subst hj; simp [Addr.add]
        case c2 => intro u hu; simp at hu; subst hu; rfl
        case c3 => unfold maxLen; omega
        case c4 => omega
        case c5 => simp; omega
        · intro v' w1 hown' hgrow _
          have R := own_next hown hb hB hown' hgrow (step4 n)
          clear hown' hgrow hown hb hB
          go_wp2_with fail
          exact ⟨⟨5, by omega, by rfl, R.1, R.2⟩, by simp [intOf]⟩
      · go_wp2_with (at_builtin; refine wpList_append_own _ rfl _ _ 44 rfl w0.heap.size 5 i0 (.int .u8 0) 1 1 Try.underlying44 hi hz0 hz1 hz2 rfl (by decide) _ _ _ rfl (hown.alloc _) ⟨wr.heap.size, 0, none⟩ 1 1 [.int .u8 ((n : Int) / 65536 % 256)] rfl rfl ?c1 ?c2 ?c3 ?c4 ?c5 ?_)
        case c1 =>
          intro j u hj
          match j, hj with
          | 0, hj => simp at hj; subst hj; simp [Addr.add]
        case c2 => intro u hu; simp at hu; subst hu; rfl
        case c3 => unfold maxLen; omega
        case c4 => omega
        case c5 => simp; omega
        · intro v' w1 hown' hgrow _
          have R := own_next hown hb hB hown' hgrow (step5 n)
          clear hown' hgrow hown hb hB
          go_wp2_with fail
          exact ⟨⟨6, by omega, by rfl, R.1, R.2⟩, by simp [intOf]⟩
      · go_wp2_with (at_builtin; refine wpList_append_own _ rfl _ _ 44 rfl w0.heap.size 5 i0 (.int .u8 0) 1 1 Try.underlying44 hi hz0 hz1 hz2 rfl (by decide) _ _ _ rfl (hown.alloc _) ⟨wr.heap.size, 0, none⟩ 1 1 [.int .u8 ((n : Int) / 256 % 256)] rfl rfl ?c1 ?c2 ?c3 ?c4 ?c5 ?_)
        case c1 =>
          intro j u hj
          match j, hj with
          | 0, hj => simp at hj; subst hj; simp [Addr.add]
        case c2 => intro u hu; simp at hu; subst hu; rfl
        case c3 => unfold maxLen; omega
        case c4 => omega
        case c5 => simp; omega
        · intro v' w1 hown' hgrow _
          have R := own_next hown hb hB hown' hgrow (step6 n)
          clear hown' hgrow hown hb hB
          go_wp2_with fail
          exact ⟨⟨7, by omega, by rfl, R.1, R.2⟩, by simp [intOf]⟩
      · go_wp2_with (at_builtin; refine wpList_append_own _ rfl _ _ 44 rfl w0.heap.size 5 i0 (.int .u8 0) 1 1 Try.underlying44 hi hz0 hz1 hz2 rfl (by decide) _ _ _ rfl (hown.alloc _) ⟨wr.heap.size, 0, none⟩ 1 1 [.int .u8 ((n : Int) % 256)] rfl rfl ?c1 ?c2 ?c3 ?c4 ?c5 ?_)
        case c1 =>
          intro j u hj
          match j, hj with
          | 0, hj => simp at hj; subst hj; simp [Addr.add]
        case c2 => intro u hu; simp at hu; subst hu; rfl
        case c3 => unfold maxLen; omega
        case c4 => omega
        case c5 => simp; omega
        · intro v' w1 hown' hgrow _
          have R := own_next hown hb hB hown' hgrow (step7 n)
          clear hown' hgrow hown hb hB
          go_wp2_with fail
          exact ⟨⟨8, by omega, by rfl, R.1, R.2⟩, by simp [intOf]⟩
    · obtain rfl : k = 8 := by omega
      obtain ⟨_, h0 | ⟨g, cap, cur, rfl, hg, hcur, hc1, hc2, hc3, hc4⟩⟩ := id hown
      · exact absurd h0.2 (by omega)
      · have hcv : (convert 44 9 (.slice (some ⟨g, 0, none⟩) 8 cap)).run Try.prog wr = .ok (.string (keyS n)) wr :=
          run_convert_bytes_back wr 44 9 5 ⟨g, 0, none⟩ cap (keyL n) Try.underlying44 Try.underlying5 Try.underlying9 (fun j hj => by
            refine hown.cells (g := g) rfl j _ ?_
            unfold cellsL
            rw [List.take_of_length_le (Nat.le_refl 8), List.getElem?_map, List.getElem?_eq_getElem hj]; rfl)
        clear hown hcur hc1 hc2 hc3 hc4 hg
        go_wp2_with fail
        go_ret
        exact ⟨rfl, hb⟩

theorem refKey_any (x : Nat) (hx : x < 18446744073709551616) (w : World) :
    Calls Try.prog 12 #[.float .f64 x] w fun e w' => e = .returned (.string (keyS (keyN x))) ∧ Below w.heap.size w w' :=
  refKey_core x (keyN x) hx rfl (keyN_lt x hx) w

end Go.Proofs.Ytcjbbggpnhpbaaa
