/-
  What Pad tells: what stands behind a text.
-/
import Derived.Test.YtecamiefpdkjoaaDoorDgOut
namespace Go.Proofs.YtecamiefpdkjoaaDoor.Dg
open Go.RowKit
set_option maxRecDepth 20000

theorem nats_length (l : List UInt8) : (nats l).length = l.length := by unfold nats; simp
theorem nats_get (l : List UInt8) (j : Nat) (h : j < l.length) : (nats l).getD j 0 = l[j].toNat := by
  unfold nats
  rw [List.getD_eq_getElem?_getD, List.getElem?_map, List.getElem?_eq_getElem h]; rfl
theorem nats_append (l m : List UInt8) : nats (l ++ m) = nats l ++ nats m := by unfold nats; rw [List.map_append]
theorem conv_row {w : World} {g n cap : Nat} {t : TypeId} {l : List UInt8} (hn : l.length = n) (R : Row w g (cb (nats l)) t) :
    (convert 56 9 (.slice (some ⟨g, 0, none⟩) n cap)).run Tryd.prog w = .ok (.string (bs l)) w := by
  subst hn
  exact run_convert_bytes_back w 56 9 5 ⟨g, 0, none⟩ cap l Tryd.underlying56 Tryd.underlying5 Tryd.underlying9 (fun j hj => by
    have ha : (Addr.add ⟨g, 0, none⟩ j) = ⟨g, j, none⟩ := by simp [Addr.add]; intro h; exact h.symm
    rw [ha, R.cell, cb_get _ _ (by rw [nats_length]; exact hj), nats_get _ _ hj])

/-- The lowest k bytes of a number, the highest first; the row when k of them are laid. -/
def lows (v : Nat) : Nat → List Nat
  | 0 => []
  | k + 1 => (v / 2 ^ (8 * k) % 256) :: lows v k
def fillP (S v k : Nat) : List Nat := 128 :: (List.replicate (S - 1 - k) 0 ++ lows v k)
theorem lows_length (v k : Nat) : (lows v k).length = k := by
  induction k with
  | zero => rfl
  | succ k ih => show (lows v k).length + 1 = _; rw [ih]
theorem fillP_length (S v k : Nat) (h : k + 1 ≤ S) : (fillP S v k).length = S := by
  show (List.replicate (S - 1 - k) 0 ++ lows v k).length + 1 = S
  rw [List.length_append, List.length_replicate, lows_length]; omega
theorem set_last (m y : Nat) (l : List Nat) : (List.replicate (m + 1) 0 ++ l).set m y = List.replicate m 0 ++ y :: l := by
  induction m with
  | zero => rfl
  | succ m ih => rw [List.replicate_succ, List.cons_append, List.set_cons_succ, ih]; rfl
theorem fillP_set (S v k : Nat) (h : k + 2 ≤ S) : (fillP S v k).set (S - 1 - k) (v / 2 ^ (8 * k) % 256) = fillP S v (k + 1) := by
  unfold fillP
  rw [show S - 1 - k = (S - 2 - k) + 1 by omega, List.set_cons_succ, set_last, show S - 1 - (k + 1) = S - 2 - k by omega]
  rfl
theorem fillP_all (n : Nat) : fillP (padS n) (8 * n % 18446744073709551616) 8 = nats (padL n) := by
  generalize hv : 8 * n % 18446744073709551616 = v
  unfold fillP padL
  rw [hv]
  show 128 :: _ = 128 :: nats (List.replicate (padS n - 9) 0 ++ be8 v)
  rw [nats_append, show padS n - 1 - 8 = padS n - 9 by omega]
  congr 2
  · unfold nats; rw [List.map_replicate]; rfl
  · show [v / 2 ^ 56 % 256, v / 2 ^ 48 % 256, v / 2 ^ 40 % 256, v / 2 ^ 32 % 256, v / 2 ^ 24 % 256, v / 2 ^ 16 % 256, v / 2 ^ 8 % 256, v / 2 ^ 0 % 256] = nats (be8 v)
    unfold nats be8
    simp only [List.map_cons, List.map_nil]
    rw [byte_of _ (by omega), byte_of _ (by omega), byte_of _ (by omega), byte_of _ (by omega), byte_of _ (by omega), byte_of _ (by omega), byte_of _ (by omega), byte_of _ (by omega)]
    simp

theorem made_row (n : Nat) : madeCells #[Value.int .u8 0] n = cb (List.replicate n 0) := by
  apply Array.ext'
  rw [toList_madeCells_one]
  unfold cb
  simp

theorem run_make_bytes (S : Nat) (hS : S ≤ 72) (w : World) : (Instr.makeSlice 56 (.int .i64 (S : Int)) (.int .i64 (S : Int))).run Tryd.prog w = .ok (.slice (some ⟨w.heap.size, 0, none⟩) S S) (w.alloc (.cells (cb (List.replicate S 0)) 5)) := by
  obtain ⟨i0, hi0, hz0, hz1, hz2⟩ := info_parts info5
  have h := run_make (P := Tryd.prog) w 56 5 i0 _ Tryd.underlying56 hi0 hz0 .i64 .i64 (S : Int) (S : Int) (by omega) (by omega) (by rw [hz2]; omega) (by omega)
  rw [hz1, Int.toNat_natCast, Nat.mul_one, show (Value.int .u8 0).cells = #[Value.int .u8 0] from rfl, made_row] at h
  exact h
theorem fill_start (S : Nat) (v : Nat) (h : 1 ≤ S) : (List.replicate S 0).set 0 128 = fillP S v 0 := by
  obtain ⟨m, rfl⟩ : ∃ m, S = m + 1 := ⟨S - 1, by omega⟩
  rw [List.replicate_succ, List.set_cons_zero]
  unfold fillP
  show 128 :: _ = 128 :: (List.replicate (m + 1 - 1 - 0) 0 ++ [])
  rw [List.append_nil]; rfl

set_option maxHeartbeats 1000000 in
theorem pad_core (a : Int) (n : Nat) (hn : n < 9223372036854775808) (hm : (if a < 0 then 0 else a) = (n : Int)) (w : World) :
    Calls Tryd.prog 36 #[.int .i64 a] w fun e w' => e = .returned (.string (bs (padL n))) ∧ Kept w w' := by
  obtain ⟨S, hS⟩ : ∃ S, padS n = S := ⟨_, rfl⟩
  obtain ⟨v, hv⟩ : ∃ v, 8 * n % 18446744073709551616 = v := ⟨_, rfl⟩
  have hS9 := padS_ge n
  have hS72 := padS_le n
  rw [hS] at hS9 hS72
  have HF : Hid (fillP S v 8 = nats (padL n)) := by show _ = _; rw [← hS, ← hv]; exact fillP_all n
  have HL : Hid ((padL n).length = S) := (padL_length n).trans hS
  have hmk := run_make_bytes S hS72
  have hvI : IntKind.u64.wrap (8 * (n : Int)) = (v : Int) := by rw [IntKind.wrap_u64]; omega
  have hvl : v < 18446744073709551616 := by omega
  have hdec : Hid ((decide (64 - (n : Int) % 64 ≤ 8) = true ∧ 64 - (n : Int) % 64 + 64 = (S : Int)) ∨ (decide (64 - (n : Int) % 64 ≤ 8) = false ∧ 64 - (n : Int) % 64 = (S : Int))) := by
    show _ ∨ _
    unfold padS at hS
    split at hS
    · exact .inl ⟨decide_eq_true (by omega), by omega⟩
    · exact .inr ⟨decide_eq_false (by omega), by omega⟩
  clear hS hv
  go_enter Tryd.func36, Tryd.ntmps36
  go_upto_region 2 with fail
  clear hm
  rcases hdec.out with ⟨hd1, hd2⟩ | ⟨hd1, hd2⟩
  all_goals
    clear hdec
    go_upto_region 6 with fail
    obtain ⟨W, hW, R, hK⟩ : ∃ W, W = w.alloc (.cells (cb (List.replicate S 0)) 5) ∧ Row W w.heap.size (cb (List.replicate S 0)) 5 ∧ Kept w W := ⟨_, rfl, Row.new w _ _, (Kept.refl w).allocR _⟩
    rw [← hW]
    clear hW hmk hd1 hd2
    have c0 : W.cell? ⟨w.heap.size, 0, none⟩ = some (.int .u8 0) := by rw [R.cell, cb_get _ _ (by rw [List.length_replicate]; omega)]; rw [List.getD_eq_getElem?_getD, List.getElem?_replicate, if_pos (by omega)]; rfl
    have f0 : W.frozen? ⟨w.heap.size, 0, none⟩ = false := R.frozen 0
    have hS0 : (0 : Int) < (S : Int) := by omega
    go_wp2_with fail
    have R0 : Row (W.setCell ⟨w.heap.size, 0, none⟩ (.int .u8 128)) w.heap.size (cb (fillP S v 0)) 5 := by
      have h := R.setCell 0 (.int .u8 ((128 : Nat) : Int))
      rw [cb_set, fill_start S v (by omega)] at h
      exact h
    have hK0 : Kept w (W.setCell ⟨w.heap.size, 0, none⟩ (.int .u8 128)) := hK.setCell (Nat.le_refl _) _
    generalize W.setCell ⟨w.heap.size, 0, none⟩ (.int .u8 128) = W2 at R0 hK0
    clear R hK c0 f0
    go_loopw [23] (fun i wr => ∃ k : Nat, k ≤ 8 ∧ i = .int .i64 (k : Int) ∧ Row wr w.heap.size (cb (fillP S v k)) 5 ∧ Kept w wr) (fun i _ => (8 - intOf i).toNat)
    case atStart => exact ⟨0, by omega, rfl, R0, hK0⟩
    case round =>
      clear R0 hK0
      obtain ⟨k, hk, rfl, R, hK⟩ := hrel
      by_cases hlt : k < 8
      · obtain ⟨q, hq⟩ : ∃ q, S - 1 - k = q := ⟨_, rfl⟩
        obtain ⟨d, hd⟩ : ∃ d, 8 * k = d := ⟨_, rfl⟩
        obtain ⟨y, hy⟩ : ∃ y, v / 2 ^ (8 * k) % 256 = y := ⟨_, rfl⟩
        have HS : Hid ((fillP S v k).set q y = fillP S v (k + 1)) := by show _ = _; rw [← hq, ← hy]; exact fillP_set S v k (by omega)
        have hqI : (S : Int) - 1 - (k : Int) = (q : Int) := by omega
        have hdI : (8 : Int) * (k : Int) = (d : Int) := by omega
        rw [hd] at hy
        have hyI : (v : Int) / 2 ^ d % 256 = (y : Int) := by rw [← hy]; simp
        have hq0 : (q : Int) < (S : Int) := by omega
        have hd64 : d < 64 := by omega
        obtain ⟨o, ho⟩ : ∃ o, wr.cell? ⟨w.heap.size, q, none⟩ = some o := ⟨_, (R.cell q).trans (cb_get _ _ (by rw [fillP_length _ _ _ (by omega)]; omega))⟩
        have hf : wr.frozen? ⟨w.heap.size, q, none⟩ = false := R.frozen q
        clear hq hd hy
        go_wp2_with fail
        refine ⟨⟨k + 1, by omega, by simp, ?_, hK.setCell (Nat.le_refl _) _⟩, by simp [intOf]; omega⟩
        have h := R.setCell q (.int .u8 (y : Int))
        rw [cb_set, HS.out] at h
        exact h
      · obtain rfl : k = 8 := by omega
        rw [HF.out] at R
        have hcv := conv_row (cap := S) HL.out R
        go_wp2_with fail
        go_ret
        exact ⟨rfl, hK⟩

theorem pad_any (n : Nat) (hn : n < 9223372036854775808) (w : World) :
    Calls Tryd.prog 36 #[.int .i64 (n : Int)] w fun e w' => e = .returned (.string (bs (padL n))) ∧ Kept w w' :=
  pad_core (n : Int) n hn (by rw [if_neg (by omega)]) w
theorem pad_neg (a : Int) (ha : a < 0) (w : World) :
    Calls Tryd.prog 36 #[.int .i64 a] w fun e w' => e = .returned (.string (bs (padL 0))) ∧ Kept w w' :=
  pad_core a 0 (by omega) (by rw [if_pos ha]; rfl) w

end Go.Proofs.YtecamiefpdkjoaaDoor.Dg
